import Derived.Test.YtkmcodofnckdmaaGreatZK2
import Derived.Maps.AppendAt
import Derived.Maps.OwnSet
import Derived.Laws.IdiomStrings
import Derived.Lib.SliceRun
import Derived.Laws.BytesArg
set_option maxHeartbeats 2000000
set_option maxRecDepth 100000
set_option linter.unusedSimpArgs false
set_option linter.unusedVariables false
namespace Go.Proofs.YtkmcodofnckdmaaGreat
open Go.RowKit
def nr(z:Int):Bool:=decide (-1099511627776<=z/\z<=1099511627776)
theorem zwt(b:Nat)(zs:List Int)(w:World)(hl:zs.length<=4)(hc:∀i,i<zs.length->w.cell? ⟨b,i,none⟩=some (.int .i64 (zs.getD i 0))) :
 Calls Tryz.prog 289 #[.slice (some ⟨b,0,none⟩) zs.length 4] w fun e w'=>e=.returned (.bool (zs.all nr))/\w=w':=by
 have HC:Hid (∀i,i<zs.length->w.cell? ⟨b,i,none⟩=some (.int .i64 (zs.getD i 0))):=hc
 clear hc
 go_enter Tryz.func289,Tryz.ntmps289
 go_wp2
 go_loop [7] (fun i=>∃k:Nat,k<=zs.length/\i=.int .i64 k/\(∀j,j<k->nr (zs.getD j 0)=true)) (fun i=>zs.length-(intOf i).toNat)
 case atStart=>exact⟨0,Nat.zero_le _,rfl,fun j hj=>by omega⟩
 case round =>
  obtain⟨k,hk,rfl,hal⟩:=hrel
  have HA:Hid (∀j,j<k->nr (zs.getD j 0)=true):=hal
  clear hal
  by_cases hkn:k<zs.length
  . have c1:=HC.out k hkn
    obtain⟨x,hx⟩:∃x,zs.getD k 0=x:=⟨_,rfl⟩
    rw[hx]at c1
    have HX:Hid (zs.getD k 0=x):=hx
    clear hx
    have hm:x∈zs:=by
     have:=HX.out
     rw[List.getD_eq_getElem?_getD,List.getElem?_eq_getElem hkn]at this
     simp at this
     exact this ▸ List.getElem_mem hkn
    by_cases h1:x < -1099511627776
    . go_wp2
      go_ret
      exact⟨za2 (by
       symm
       rw[List.all_eq_false]
       exact⟨x,hm,by simp[nr];omega⟩),rfl⟩
    . by_cases h2:1099511627776<x
      . go_wp2
        go_ret
        exact⟨za2 (by
         symm
         rw[List.all_eq_false]
         exact⟨x,hm,by simp[nr];omega⟩),rfl⟩
      . go_wp2
        go_round
        case rel=>exact⟨k+1,by omega,by go_num,fun j hj=>by
         rcases Nat.lt_or_ge j k with h|h
         . exact HA.out j h
         . have:j=k:=by omega
           subst this;rw[HX.out]
           simp[nr]
           omega⟩
        case measure=>simp[intOf];omega
  . obtain rfl:k=zs.length:=by omega
    go_wp2
    go_ret
    exact⟨za2 (by
     symm
     rw[List.all_eq_true]
     intro x hx
     obtain⟨j,hj,rfl⟩:=List.getElem_of_mem hx
     have:=HA.out j hj
     rwa [List.getD_eq_getElem?_getD,List.getElem?_eq_getElem hj]at this),rfl⟩
open Go.Lib Classical
def Two(w:World)(n:Bool)(a:OA)(c:Nat)(xs:LN)(a':OA)(c':Nat)(ys:LN)(m:Bool)(b:OA)(d:Nat)(ps:LN)(b':OA)(d':Nat)(qs:LN)(q:Rat):Prop :=
 Rd w a c xs/\Rd w a' c' ys/\Rd w b d ps/\Rd w b' d' qs/\Fmd n xs ys/\xs.length<=9/\ys.length<=9/\qv n xs ys=q/\Fmd m ps qs/\ps.length<=9/\qs.length<=9/\qv m ps qs=q
def nr4(a b n d:Int):Bool:=[a,b,n,d].all nr
def btw(a b n d:Int):Rat:=if nr4 a b n d=true then (a:Rat)+((b-a:Int):Rat)*((n:Rat)/(d:Rat))else 0
theorem z1g{a b n d:Int}(h:nr4 a b n d=true):(-1099511627776<=a/\a<=1099511627776)/\(-1099511627776<=b/\b<=1099511627776)/\(-1099511627776<=n/\n<=1099511627776)/\(-1099511627776<=d/\d<=1099511627776):=by
 simp[nr4,nr]at h
 omega
theorem zsx(a b n d:Int)(t:TypeId)(g:Nat)(w:World)(h:w.heap[g]?=some (.cells #[.int .i64 a,.int .i64 b,.int .i64 n,.int .i64 d] t (0,0))) :
 Calls Tryz.prog 289 #[.slice (some ⟨g,0,none⟩) 4 4] w fun e w'=>e=.returned (.bool (nr4 a b n d))/\w=w':=by
 refine zwt g [a,b,n,d] _ (by simp) ?_
 intro i hi
 simp at hi
 rcases (show i=0\/i=1\/i=2\/i=3 by omega)with rfl|rfl|rfl|rfl <;> simp[World.cell?,h]
theorem zhe(a b n d:Int)(w:World)(ha:-9223372036854775808<=a/\a<9223372036854775808)(hb:-9223372036854775808<=b/\b<9223372036854775808)(hn:-9223372036854775808<=n/\n<9223372036854775808)(hd:-9223372036854775808<=d/\d<9223372036854775808) :
 Calls Tryz.prog 288 #[.int .i64 a,.int .i64 b,.int .i64 n,.int .i64 d] w fun e w'=>∃v',e=.returned v'/\Fr w' v' 7 (btw a b n d)/\Below w.heap.size w w':=by
 go_enter Tryz.func288,Tryz.ntmps288
 go_wp2_with fail
 obtain⟨W,hW,B1,R1,hbW⟩:∃W,W=((w.alloc (.cells #[.bool false,.slice none 0 0,.slice none 0 0] 125)).alloc (.cells #[.int .i64 a,.int .i64 b,.int .i64 n,.int .i64 d] 3))/\Box 125 W w.heap.size (.bool false) (.slice none 0 0) (.slice none 0 0)/\W.heap[w.heap.size+1]?=some (.cells #[.int .i64 a,.int .i64 b,.int .i64 n,.int .i64 d] 3 (0,0))/\Below w.heap.size w W :=
  ⟨_,rfl,(Box.new _ _ _ _ _).alloc _,by have:=heap_alloc_new (w.alloc (.cells #[.bool false,.slice none 0 0,.slice none 0 0] 125)) (.cells #[.int .i64 a,.int .i64 b,.int .i64 n,.int .i64 d] 3);simpa using this,al2 _ _⟩
 rw[<-hW];clear hW
 refine(zsx a b n d _ _ _ R1).mono ?_
 rintro e u0 ⟨rfl,rfl⟩;clear R1
 by_cases h4:nr4 a b n d=true
 . obtain⟨ra,rb,rn,rd⟩:=z1g h4
   have HB:Hid (btw a b n d=(a:Rat)+((b-a:Int):Rat)*((n:Rat)/(d:Rat))):=by
    show btw a b n d=_
    unfold btw
    rw[if_pos h4]
   rw[h4];clear h4
   go_wp2_with fail
   refine(zae (b-a) _ (by omega) (by omega)).mono ?_
   rintro e u1 ⟨v1,rfl,hF1,hb1⟩;replace B1:=B1.below hb1
   replace hbW:Below w.heap.size w u1:=hbW.trans (hb1.mono hbW.size)
   clear hb1
   go_wp2_with fail
   refine(zi3 n d _ (by omega) (by omega) (by omega) (by omega)).mono ?_
   rintro e u2 ⟨v2,rfl,hF2,hb2⟩;replace B1:=B1.below hb2;replace hF1:=hF1.below hb2
   replace hbW:Below w.heap.size w u2:=hbW.trans (hb2.mono hbW.size)
   clear hb2
   go_wp2_with fail
   refine(zfv 2 2 _ _ _ _ _ hF1.ct hF2.ct (by decide) (by decide) (by decide) (by decide)).mono ?_
   rintro e u3 ⟨v3,rfl,hF3,hb3⟩;replace B1:=B1.below hb3
   replace hbW:Below w.heap.size w u3:=hbW.trans (hb3.mono hbW.size)
   clear hb3 hF1 hF2
   have hX:=hF3.ct
   obtain⟨n3,x3,y3,⟨a3,c3,b3,d3,rfl,_,_⟩,_⟩:=hF3
   have hs:=B1.lt
   go_wp2_with fail
   obtain⟨W2,hW2,B2,hb3⟩:∃W2,W2=u3.alloc (.cells #[.bool n3,.slice a3 x3.length c3,.slice b3 y3.length d3] 125)/\Box 125 W2 u3.heap.size (.bool n3) (.slice a3 x3.length c3) (.slice b3 y3.length d3)/\Below u3.heap.size u3 W2:=⟨_,rfl,Box.new _ _ _ _ _,al1 _⟩
   rw[<-hW2];clear hW2;replace B1:=B1.below hb3;replace hX:=hX.below hb3
   replace hbW:Below w.heap.size w W2:=hbW.trans (hb3.mono hbW.size)
   clear hb3
   have hne:u3.heap.size≠w.heap.size:=by omega
   clear hs
   generalize u3.heap.size=g at B2 hne ⊢
   obtain⟨p1,p2,p3,_⟩:=B2.cells
   go_region_held3 (fun u=>u.cell? ⟨g,0,none⟩=some (.bool n3)/\u.cell? ⟨g,1,none⟩=some (.slice a3 x3.length c3)/\u.cell? ⟨g,2,none⟩=some (.slice b3 y3.length d3)) (first | (go_keep;done) | (refine⟨(zab hne).trans p1,(zab hne).trans p2,(zab hne).trans p3⟩))
    (first
     | (go_at_call 112
        refine(zae a _ ?_ ?_).mono ?_
        . omega
        . omega
        rintro e u4 ⟨v4,rfl,hF4,hb4⟩
        replace hb4:Below W2.heap.size W2 u4:=Below.drew1.trans hb4
        replace hX:=hX.below hb4;replace B1:=B1.below hb4;replace B2:=B2.below hb4
        replace hbW:Below w.heap.size w u4:=hbW.trans (hb4.mono hbW.size)
        clear hb4 p1 p2 p3
        obtain⟨p1,p2,p3,_⟩:=B2.cells)
     | (go_at_call 111
        refine(zns 2 4 _ _ _ _ _ hF4.ct hX (by decide) (by decide) (by decide) (by decide)).mono ?_
        rintro e u5 ⟨v5,rfl,hF5,hb5⟩;replace B1:=B1.below hb5;replace B2:=B2.below hb5
        replace hbW:Below w.heap.size w u5:=hbW.trans (hb5.mono hbW.size)
        replace hF5:=hF5.eq HB.out.symm
        clear hb5 hF4 hX p1 p2 p3;obtain⟨p1,p2,p3,_⟩:=B2.cells;obtain⟨q1,q2,q3,q4,q5,q6⟩:=B1.cells
        have hs:=B1.lt
        obtain⟨n',xs',ys',⟨e1,f1,e2,f2,rfl,hx',hy'⟩,hF⟩:=hF5))
   go_wp2
   refine ret3 (v:=.agg #[.bool n',.slice e1 xs'.length f1,.slice e2 ys'.length f2]) B1 rfl (fun U hU=>by obtain⟨r1,r2,r3,_⟩:=hU.cells;simp[results,Tryz.results288,go_sem,r1,r2,r3]) (fun U hU hK=>⟨_,rfl,⟨_,_,_,⟨_,_,_,_,rfl,hK _ _ _ hx',hK _ _ _ hy'⟩,hF⟩,hU _ _ hbW (by omega)⟩)
 . have e1:nr4 a b n d=false:=by simpa using h4
   have HB:Hid (btw a b n d=0):=by
    show btw a b n d=_
    unfold btw
    rw[if_neg h4]
   rw[e1];clear h4 e1
   go_wp2_with fail
   refine(zae 0 _ (by decide) (by decide)).mono ?_
   rintro e u1 ⟨v1,rfl,hF1,hb1⟩;replace B1:=B1.below hb1
   replace hbW:Below w.heap.size w u1:=hbW.trans (hb1.mono hbW.size)
   clear hb1
   have hs:=B1.lt
   obtain⟨q1,q2,q3,q4,q5,q6⟩:=B1.cells
   replace hF1:=(hF1.eq (r:=btw a b n d) (by rw[HB.out];rfl)).le (show 2<=7 by decide)
   obtain⟨n',xs',ys',⟨b,d,b',d',rfl,hx',hy'⟩,hF⟩:=hF1;go_wp2
   refine ret3 (v:=.agg #[.bool n',.slice b xs'.length d,.slice b' ys'.length d']) B1 rfl (fun U hU=>by obtain⟨r1,r2,r3,_⟩:=hU.cells;simp[results,Tryz.results288,go_sem,r1,r2,r3]) (fun U hU hK=>⟨_,rfl,⟨_,_,_,⟨_,_,_,_,rfl,hK _ _ _ hx',hK _ _ _ hy'⟩,hF⟩,hU _ _ hbW (by omega)⟩)
def Byt(xs:LN):Prop:=∀x∈xs,x<256
theorem Byt.nil:Byt []:=by intro x hx;cases hx
theorem Byt.append{xs ys:LN}(h:Byt xs)(k:Byt ys):Byt (xs++ys):=by
 intro x hx;rcases List.mem_append.1 hx with hx | hx
 . exact h x hx
 . exact k x hx
theorem Byt.take{xs:LN}(h:Byt xs)(n:Nat):Byt (xs.take n):=fun x hx=>h x (List.mem_of_mem_take hx)
theorem Byt.drop{xs:LN}(h:Byt xs)(n:Nat):Byt (xs.drop n):=fun x hx=>h x (List.mem_of_mem_drop hx)
theorem Byt.getD{xs:LN}(h:Byt xs)(i:Nat):xs.getD i 0<256:=by
 rw[List.getD_eq_getElem?_getD]
 by_cases hi:i<xs.length
 . rw[List.getElem?_eq_getElem hi];exact h _ (List.getElem_mem hi)
 . rw[List.getElem?_eq_none (by omega)];decide
def Y(n:Nat):Value:=.int .u8 (n:Int)
def Rb(w:World)(a:OA)(cap:Nat)(xs:LN):Prop :=
 Byt xs/\xs.length<=cap/\cap<=maxLen/\(a=none->cap=0) /\
 (xs=[]\/∃b off,a=some ⟨b,off,none⟩/\b<w.heap.size/\∀i,i<xs.length->w.cell? ⟨b,off+i,none⟩=some (.int .u8 (xs.getD i 0:Nat)))
theorem Rb.lim{w:World}{a:OA}{cap:Nat}{xs:LN}(h:Rb w a cap xs):Byt xs:=h.1
theorem Rb.le{w:World}{a:OA}{cap:Nat}{xs:LN}(h:Rb w a cap xs):xs.length<=cap:=h.2.1
theorem Rb.cap{w:World}{a:OA}{cap:Nat}{xs:LN}(h:Rb w a cap xs):cap<=maxLen:=h.2.2.1
def Fb(w:World)(a:OA)(xs:LN):Prop :=
 xs=[]\/∃b off,a=some ⟨b,off,none⟩/\b<w.heap.size/\∀i,i<xs.length->w.cell? ⟨b,off+i,none⟩=some (.int .u8 (xs.getD i 0:Nat))
theorem Rb.fm{w:World}{a:OA}{cap:Nat}{xs:LN}(h:Rb w a cap xs):Fb w a xs:=h.2.2.2.2
theorem Fb.at{w wr:World}{a:OA}{xs:LN}(h:Fb w a xs)(hb:Below w.heap.size w wr)(k:Nat)(hk:k<xs.length) :
 ∃b off,a=some ⟨b,off,none⟩/\b<w.heap.size/\wr.cell? ⟨b,off+k,none⟩=some (.int .u8 (xs.getD k 0:Nat)):=by
 rcases h with rfl|⟨b,off,h1,h2,h3⟩
 . simp at hk
 . exact⟨b,off,h1,h2,(hb.cell (p:=⟨b,off+k,none⟩) h2).trans (h3 k hk)⟩
theorem Rb.keep{w w':World}{a:OA}{cap:Nat}{xs:LN}(h:Rb w a cap xs)(hs:w.heap.size<=w'.heap.size)
    (hb:∀b,b<w.heap.size->(∃o,a=some ⟨b,o,none⟩)->w'.heap[b]?=w.heap[b]?):Rb w' a cap xs:=by
 obtain⟨h1,h2,h3,h5,h4⟩:=h
 refine⟨h1,h2,h3,h5,?_⟩
 rcases h4 with h4|⟨b,off,e,hb1,hc⟩
 . exact .inl h4
 . exact .inr ⟨b,off,e,Nat.lt_of_lt_of_le hb1 hs,fun i hi=>(World.cell?_of_block (w:=w) (a:=⟨b,off+i,none⟩) (hb b hb1 ⟨off,e⟩)).trans (hc i hi)⟩
theorem Rb.below{w w':World}{a:OA}{cap:Nat}{xs:LN}(h:Rb w a cap xs)(hb:Below w.heap.size w w'):Rb w' a cap xs :=
 h.keep hb.size fun b hb1 _=>hb.block b hb1
theorem Rb.nil(w:World)(a:OA)(cap:Nat)(h:cap<=maxLen)(h0:a=none->cap=0):Rb w a cap []:=⟨Byt.nil,Nat.zero_le _,h,h0,.inl rfl⟩
def Rw(e:TypeId)(base:Nat)(w:World)(a:OA)(cap:Nat)(xs:LN):Prop :=
 Byt xs/\w.ownsRow base e 1 (.slice a xs.length cap) xs.length (xs.map Y)
theorem Rw.rd{e:TypeId}{base:Nat}{w:World}{a:OA}{cap:Nat}{xs:LN}(h:Rw e base w a cap xs):Rb w a cap xs:=by
 obtain⟨hl,h⟩:=h
 rcases h.2 with ⟨hv,h0⟩|⟨g,cap',cur,hv,hb,hg,hc1,hc2,hc3,ht⟩
 . have:xs=[]:=List.length_eq_zero_iff.1 h0
   subst this
   simp at hv
   exact Rb.nil _ _ _ (by rw[hv.2];exact Nat.zero_le _) (fun _=>hv.2)
 . simp at hv
   obtain⟨rfl,rfl⟩:=hv
   refine⟨hl,hc1,hc2,(by simp),.inr ⟨g,0,rfl,(Array.getElem?_eq_some_iff.1 hg).1,fun i hi=>?_⟩⟩
   have:=h.cells (g:=g) rfl i (Y (xs.getD i 0)) (by simp[List.getD,hi])
   have zb1:(⟨g,0,none⟩:Addr).add i=⟨g,0+i,none⟩:=by unfold Addr.add;split <;> simp_all
   rw[zb1]at this;exact this
theorem ziy{w:World}{base base':Nat}{e:TypeId}{size:Nat}{v:Value}{n:Nat}{xs:List Value}(h:w.ownsRow base e size v n xs)(hb:base'<=base):w.ownsRow base' e size v n xs:=by
 refine⟨h.1,?_⟩
 rcases h.2 with h0|⟨g,cap,cur,h1,h2,h3⟩
 . exact .inl h0
 . exact .inr ⟨g,cap,cur,h1,Nat.le_trans hb h2,h3⟩
theorem Rw.mono{e:TypeId}{base base':Nat}{w:World}{a:OA}{cap:Nat}{xs:LN}(h:Rw e base w a cap xs)(hb:base'<=base):Rw e base' w a cap xs:=⟨h.1,ziy h.2 hb⟩
theorem Rw.of{e:TypeId}{base:Nat}{w:World}{v:Value}{n:Nat}{xs:LN}(hl:Byt xs)(h:w.ownsRow base e 1 v n (xs.map Y)):∃a cap,v=.slice a xs.length cap/\Rw e base w a cap xs:=by
 have hn:n=xs.length:=by have:=h.1;simp at this;omega
 subst hn
 rcases h.2 with ⟨hv,h0⟩|⟨g,cap,cur,hv,_⟩
 . exact⟨none,0,by rw[hv,h0],hl,by rw[h0]at h ⊢;rw[hv]at h;exact h⟩
 . subst hv;exact⟨_,cap,rfl,hl,h⟩
theorem zwd{w:World}{g:Nat}{zs:LN}{e:TypeId}(h:w.heap[g]?=some (.cells (zs.map Y).toArray e (0,0)))(hl:Byt zs)(off n cap:Nat)(h1:off+n<=zs.length)(h2:n<=cap)(h3:cap<=maxLen) :
 Rb w (some ⟨g,off,none⟩) cap ((zs.drop off).take n):=by
 refine⟨(hl.drop off).take n,by simp;omega,h3,(by simp),.inr ⟨g,off,rfl,(Array.getElem?_eq_some_iff.1 h).1,fun i hi=>?_⟩⟩
 simp at hi
 rw[cell_of_row w g (off+i) _ e (0,0) h]
 simp[List.getD,Y,show off+i<zs.length by omega,show i<n by omega]
theorem zsa(w:World)(e:TypeId)(zs:LN)(cs:Array Value)(hc:cs=(zs.map Y).toArray)(hl:Byt zs)(hm:zs.length<=maxLen):Rb (w.alloc (.cells cs e)) (some ⟨w.heap.size,0,none⟩) zs.length zs:=by
 subst hc
 have:=zwd (heap_alloc_new w (.cells (zs.map Y).toArray e)) hl 0 zs.length zs.length (by omega) (Nat.le_refl _) hm
 simpa using this
theorem zsp(xs:LN):∀u∈xs.map Y,u.oneCell'=true:=by
 intro u hu
 obtain⟨x,_,rfl⟩:=List.mem_map.1 hu
 rfl
section
variable {P:Program} {w:World} {ops:Array Oper} {rest:List Oper} {o:Oper} {a:Act} {Q:Exit->Act->World->Prop}
theorem zc4(hgd:o.guard=none)(s x:Operand)(t:TypeId)(ho:o.op=.call { callee:=.builtin .append,args:=#[s,x],argTypes:=#[t,t] })
    (base:Nat) (e:TypeId) (i:TypeInfo) (ht:P.underlying t=some (.slice e)) (hi:P.info? e=some i) (hz:i.zero=some (.int .u8 0)) (hsize:i.size=1) (hby:i.bytes=1)
    (v:Value) (n:Nat) (ys:LN) (hs:a.eval s=v) (hown:w.ownsRow base e 1 v n (ys.map Y))
    (ad:OA) (c m:Nat) (zs:LN) (hx:a.eval x=.slice ad m c) (hm:m=zs.length) (hrd:Rb w ad c zs) (hlen:n+zs.length<=2000000000) (hbase:base<=w.heap.size)
    (h:∀v' w',w'.ownsRow base e 1 v' (n+zs.length) ((ys++zs).map Y)->w.grownBy w' v.ownBlock->(v'.ownBlock=v.ownBlock\/v'.ownBlock=some w.heap.size)->wpList P ops Q rest (a.put o.dst v') w'):wpList P ops Q (o::rest) a w:=by
 subst hm
 cases ad with
 | none =>
  have hc:c=0:=hrd.2.2.2.1 rfl
  have hzs:zs=[]:=by
   rcases hrd.2.2.2.2 with h0|⟨b,off,e',_⟩
   . exact h0
   . cases e'
  subst hzs;subst hc
  refine wpList_append_own_none hgd s x t ho base e i 1 ht hi v n (ys.map Y) hs hown hx (h v w (by simpa using hown) (World.grownBy.refl w _) (.inl rfl))
 | some ad =>
  refine wpList_append_own_at w hgd s x t ho base e i (.int .u8 0) 1 1 ht hi hz hsize hby rfl (by decide) v n (ys.map Y) hs hown ad zs.length c (zs.map Y) hx (by simp) ?_ (zsp zs) (by unfold maxLen;omega) (by omega) hbase ?_
  . intro j u hj
    rcases hrd.2.2.2.2 with rfl|⟨b,off,e',hb,hc⟩
    . simp at hj
    . simp at e';subst e'
      have hjl:j<zs.length:=by
       rcases Nat.lt_or_ge j zs.length with h1|h1
       . exact h1
       . rw[List.getElem?_eq_none (by simpa using h1)]at hj;cases hj
      have zb1:(⟨b,off,none⟩:Addr).add j=⟨b,off+j,none⟩:=by unfold Addr.add;split <;> simp_all
      rw[zb1,hc j hjl]
      rw[List.getElem?_map,List.getElem?_eq_getElem hjl]at hj
      simp at hj;rw[<-hj];simp[List.getD,hjl,Y]
  . intro v' w' h1 h2 _ h3
    exact h v' w' (by rw[List.map_append];exact h1) h2 h3
end
structure Keep(G:Nat->Prop)(w w':World):Prop where
 os:w'.os=w.os
 tape:w'.tape=w.tape
 output:w'.output=w.output
 size:w.heap.size<=w'.heap.size
 block:∀k,G k->w'.heap[k]?=w.heap[k]?
theorem Keep.refl(G:Nat->Prop)(w:World):Keep G w w:=⟨rfl,rfl,rfl,Nat.le_refl _,fun _ _=>rfl⟩
theorem Keep.trans{G:Nat->Prop}{a b c:World}(h:Keep G a b)(k:Keep G b c):Keep G a c :=
 ⟨k.os.trans h.os,k.tape.trans h.tape,k.output.trans h.output,Nat.le_trans h.size k.size,fun i hi=>(k.block i hi).trans (h.block i hi)⟩
theorem Keep.mono{G G':Nat->Prop}{w w':World}(h:Keep G w w')(hG:∀k,G' k->G k):Keep G' w w':=⟨h.os,h.tape,h.output,h.size,fun k hk=>h.block k (hG k hk)⟩
theorem Keep.of_below{G:Nat->Prop}{w w':World}{B:Nat}(h:Below B w w')(hG:∀k,G k->k<B):Keep G w w':=⟨h.os,h.tape,h.output,h.size,fun k hk=>h.block k (hG k hk)⟩
theorem Keep.below{G:Nat->Prop}{w w':World}{B:Nat}(h:Keep G w w')(hG:∀k,k<B->G k):Below B w w':=⟨h.os,h.tape,h.output,h.size,fun k hk=>h.block k (hG k hk)⟩
theorem Keep.alloc{G:Nat->Prop}{a w:World}(h:Keep G a w)(hG:∀k,G k->k<w.heap.size)(o:Obj):Keep G a (w.alloc o) :=
 h.trans (Keep.of_below ((Below.refl w.heap.size w).alloc (Nat.le_refl _) o) hG)
theorem Keep.setCell{G:Nat->Prop}{a w:World}(h:Keep G a w){p:Addr}(hp:¬G p.block)(u:Value):Keep G a (w.setCell p u) :=
 h.trans ⟨rfl,rfl,rfl,by simp[World.setCell],fun k hk=>Below.heap_setCell _ _ _ _ (fun e=>hp (e ▸ hk))⟩
theorem Keep.grown{G:Nat->Prop}{a w w':World}{row:Option Nat}(h:Keep G a w)(hg:w.grownBy w' row)(hG:∀k,G k->k<w.heap.size)(hr:∀k,row=some k->¬G k):Keep G a w' :=
 h.trans ⟨hg.os,hg.tape,hg.output,hg.size,fun k hk=>hg.block k (hG k hk) (fun e=>hr k e.symm hk)⟩
theorem Keep.cell{G:Nat->Prop}{w w':World}(h:Keep G w w'){p:Addr}(hp:G p.block):w'.cell? p=w.cell? p:=World.cell?_of_block (w:=w) (h.block p.block hp)
theorem Rb.kept{G:Nat->Prop}{w w':World}{a:OA}{cap:Nat}{xs:LN}(h:Rb w a cap xs)(hk:Keep G w w')(hG:∀b o,a=some ⟨b,o,none⟩->G b):Rb w' a cap xs :=
 h.keep hk.size fun b _ ⟨o,e⟩=>hk.block b (hG b o e)
def I64(n:Int):Prop:=-9223372036854775808<=n/\n<=9223372036854775807
theorem zaa{a b:Bool}(h:a=b):Ending.returned (.bool a)=.returned (.bool b):=by rw[h]
theorem z38{a b:Int}{k:IntKind}(h:a=b):Ending.returned (.int k a)=.returned (.int k b):=by rw[h]
theorem bl1{w:World}(o:Obj):Below w.heap.size w (w.alloc o):=(Below.refl _ _).alloc (Nat.le_refl _) o
theorem bl2{w:World}(o o':Obj):Below w.heap.size w ((w.alloc o).alloc o'):=(bl1 o).alloc (by simp) o'
def fdB(n:Int):Bool:=decide (-32768<=n/\n<=32767)
theorem zce{n:Int}:fdB n=true ↔ -32768<=n/\n<=32767:=by unfold fdB;exact decide_eq_true_iff
def nbT(t:List Bool)(f:Nat->Nat)(m:Nat):Option Nat:=((List.range m).map f).find? (fun j=>t.getD j false)
theorem zei(t:List Bool)(f:Nat->Nat)(m:Nat):nbT t f (m+1)=(nbT t f m).or (if t.getD (f m) false=true then some (f m)else none):=by
 unfold nbT
 rw[List.range_succ,List.map_append,List.find?_append]
 by_cases h:t.getD (f m) false=true
 . simp only[List.map_cons,List.map_nil,List.find?_cons,h,if_true]
 . have h':t.getD (f m) false=false:=by simpa using h
   simp only[List.map_cons,List.map_nil,List.find?_cons,List.find?_nil,h']
   rfl
theorem zn0{t:List Bool}{f:Nat->Nat}{m:Nat}(h:∀j,j<m->t.getD (f j) false=false):nbT t f m=none:=by
 induction m with
 | zero=>rfl
 | succ m ih=>rw[zei,ih (fun j hj=>h j (by omega)),h m (by omega)];rfl
theorem zwu{t:List Bool}{f:Nat->Nat}{m k:Nat}(hk:k<m)(h:∀j,j<k->t.getD (f j) false=false)(ht:t.getD (f k) false=true):nbT t f m=some (f k):=by
 induction m with
 | zero=>omega
 | succ m ih =>
  rw[zei]
  by_cases hkm:k<m
  . rw[ih hkm];rfl
  . obtain rfl:k=m:=by omega
    rw[zn0 h,if_pos ht];rfl
theorem znz(t:List Bool)(f:Nat->Nat)(m:Nat):(nbT t f m=none/\∀j,j<m->t.getD (f j) false=false)\/∃k,k<m/\nbT t f m=some (f k)/\t.getD (f k) false=true:=by
 induction m with
 | zero=>exact .inl ⟨rfl,fun j hj=>by omega⟩
 | succ m ih =>
  rcases ih with ⟨h1,h2⟩|⟨k,hk,h1,h2⟩
  . by_cases hm:t.getD (f m) false=true
    . exact .inr ⟨m,by omega,by rw[zei,h1,if_pos hm];rfl,hm⟩
    . refine .inl ⟨by rw[zei,h1,if_neg hm];rfl,fun j hj=>?_⟩
      by_cases hjm:j<m
      . exact h2 j hjm
      . obtain rfl:j=m:=by omega
        simpa using hm
  . exact .inr ⟨k,by omega,by rw[zei,h1];rfl,h2⟩
def wyA(n i k:Nat):Nat:=if k<i then i-1-k else i+n-1-k
def wyB(n i k:Nat):Nat:=if i+1+k<n then i+1+k else i+1+k-n
theorem mod2{x n:Nat}(h:x<2*n):x%n=if x<n then x else x-n:=by
 by_cases hx:x<n
 . rw[if_pos hx,Nat.mod_eq_of_lt hx]
 . rw[if_neg hx,Nat.mod_eq_sub_mod (by omega),Nat.mod_eq_of_lt (by omega)]
theorem zqs{n i k:Nat}(hi:i<n)(hk:k<n):wyA n i k<n:=by unfold wyA;split <;> omega
theorem zqr{n i k:Nat}(hi:i<n)(hk:k<n):wyB n i k<n:=by unfold wyB;split <;> omega
theorem zyq{n i k:Nat}(hi:i<n)(hk:k<n-1):wyA n i k≠i:=by unfold wyA;split <;> omega
theorem zyp{n i k:Nat}(hi:i<n)(hk:k<n-1):wyB n i k≠i:=by unfold wyB;split <;> omega
theorem zz1{n i:Nat}(hi:i<n):wyA n i (n-1)=i:=by unfold wyA;split <;> omega
theorem zz0{n i:Nat}(hi:i<n):wyB n i (n-1)=i:=by unfold wyB;split <;> omega
theorem zu6{n i:Nat}(hi:i<n):(i+(n-1))%n=wyA n i 0:=by rw[mod2 (by omega)];unfold wyA;split <;> split <;> omega
theorem zu3{n i:Nat}(hi:i<n):(i+1)%n=wyB n i 0:=by rw[mod2 (by omega)];unfold wyB;rw[Nat.add_zero]
theorem zu7{n i k:Nat}(hi:i<n)(hk:k+1<n):(wyA n i k+(n-1))%n=wyA n i (k+1):=by
 rw[mod2 (by have:=zqs hi (show k<n by omega);omega)]
 unfold wyA
 split <;> split <;> split <;> omega
theorem zu4{n i k:Nat}(hi:i<n)(hk:k+1<n):(wyB n i k+1)%n=wyB n i (k+1):=by
 rw[mod2 (by have:=zqr hi (show k<n by omega);omega)]
 unfold wyB
 split <;> split <;> split <;> omega
theorem zu8{n i j:Nat}(hi:i<n)(hj:j<n)(hne:j≠i):∃k,k<n-1/\wyA n i k=j:=by
 by_cases h:j<i
 . exact⟨i-1-j,by omega,by unfold wyA;rw[if_pos (by omega)];omega⟩
 . exact⟨i+n-1-j,by omega,by unfold wyA;rw[if_neg (by omega)];omega⟩
theorem zu5{n i j:Nat}(hi:i<n)(hj:j<n)(hne:j≠i):∃k,k<n-1/\wyB n i k=j:=by
 by_cases h:j<i
 . exact⟨j+n-1-i,by omega,by unfold wyB;rw[if_neg (by omega)];omega⟩
 . exact⟨j-1-i,by omega,by unfold wyB;rw[if_pos (by omega)];omega⟩
def nbA(t:List Bool)(i:Nat):Option Nat:=nbT t (wyA t.length i) (t.length-1)
def nbB(t:List Bool)(i:Nat):Option Nat:=nbT t (wyB t.length i) (t.length-1)
theorem zwv{t:List Bool}{i:Nat}(hi:i<t.length):(nbA t i=none/\∀j,j<t.length->j≠i->t.getD j false=false)\/∃a,a<t.length/\a≠i/\nbA t i=some a/\t.getD a false=true:=by
 rcases znz t (wyA t.length i) (t.length-1)with ⟨h1,h2⟩|⟨k,hk,h1,h2⟩
 . refine .inl ⟨h1,fun j hj hne=>?_⟩
   obtain⟨k,hk,e⟩:=zu8 hi hj hne
   rw[<-e]
   exact h2 k hk
 . exact .inr ⟨_,zqs hi (by omega),zyq hi hk,h1,h2⟩
theorem zn1{t:List Bool}{i:Nat}(hi:i<t.length):(nbB t i=none/\∀j,j<t.length->j≠i->t.getD j false=false)\/∃a,a<t.length/\a≠i/\nbB t i=some a/\t.getD a false=true:=by
 rcases znz t (wyB t.length i) (t.length-1)with ⟨h1,h2⟩|⟨k,hk,h1,h2⟩
 . refine .inl ⟨h1,fun j hj hne=>?_⟩
   obtain⟨k,hk,e⟩:=zu5 hi hj hne
   rw[<-e]
   exact h2 k hk
 . exact .inr ⟨_,zqr hi (by omega),zyp hi hk,h1,h2⟩
theorem nbAB{t:List Bool}{i:Nat}(hi:i<t.length):(nbA t i=none/\nbB t i=none/\∀j,j<t.length->j≠i->t.getD j false=false)\/∃a b,nbA t i=some a/\nbB t i=some b/\a<t.length/\b<t.length/\a≠i/\b≠i/\t.getD a false=true/\t.getD b false=true:=by
 rcases zwv hi with ⟨h1,h2⟩|⟨a,h1,h2,h3,h4⟩
 . rcases zn1 hi with ⟨k1,k2⟩|⟨b,k1,k2,k3,k4⟩
   . exact .inl ⟨h1,k1,h2⟩
   . rw[h2 b k1 k2]at k4;cases k4
 . rcases zn1 hi with ⟨k1,k2⟩|⟨b,k1,k2,k3,k4⟩
   . rw[k2 a h1 h2]at h4;cases h4
   . exact .inr ⟨a,b,h3,k3,h1,k1,h2,k2,h4,k4⟩
def segQ(a x b y c:Int):Rat:=if c<=a then (x:Rat)else if b<=c then (y:Rat)else btw x y (c-a) (b-a)
def infQ(a x b y c:Int):Rat:=if a=b then (if x=y then (x:Rat)else 0)else if a<b then segQ a x b y c else segQ b y a x c
def fiQ(ns:List Int)(ts:List Bool)(cs:List Int)(i:Nat):Rat :=
 if ts.getD i false=true then ((cs.getD i 0:Int):Rat) else
  match nbA ts i,nbB ts i with
  | some a,some b=>infQ (ns.getD a 0) (cs.getD a 0) (ns.getD b 0) (cs.getD b 0) (ns.getD i 0)
  | _,_=>0
def fitB(ns:List Int)(ts:List Bool)(cs:List Int):Bool:=decide (ts.length=ns.length/\cs.length=ns.length/\ns.length<=80)&&(ns.all fdB&&cs.all fdB)
def fillQ(ns:List Int)(ts:List Bool)(cs:List Int):List Rat:=if fitB ns ts cs=true then (List.range ns.length).map (fiQ ns ts cs)else []
theorem zol{ns:List Int}{ts:List Bool}{cs:List Int}(h:fitB ns ts cs=false):fillQ ns ts cs=[]:=by
 unfold fillQ
 rw[h]
 rfl
theorem zk2{ns:List Int}{ts:List Bool}{cs:List Int}(h:fitB ns ts cs=true):fillQ ns ts cs=(List.range ns.length).map (fiQ ns ts cs):=if_pos h
theorem zg3{ns:List Int}{ts:List Bool}{cs:List Int}(h:fitB ns ts cs=true):(fillQ ns ts cs).length=ns.length:=by rw[zk2 h];simp
theorem zjd{ns:List Int}{ts:List Bool}{cs:List Int}:fitB ns ts cs=true↔(ts.length=ns.length/\cs.length=ns.length/\ns.length<=80)/\(∀z∈ns,-32768<=z/\z<=32767)/\∀z∈cs,-32768<=z/\z<=32767:=by
 unfold fitB
 simp only[Bool.and_eq_true,decide_eq_true_iff,List.all_eq_true,zce]
theorem zd8{l:List Int}(h:∀z∈l,-32768<=z/\z<=32767)(i:Nat):-32768<=l.getD i 0/\l.getD i 0<=32767:=by
 by_cases hi:i<l.length
 . rw[List.getD_eq_getElem?_getD,List.getElem?_eq_getElem hi,Option.getD_some]
   exact h _ (List.getElem_mem hi)
 . rw[List.getD_eq_getElem?_getD,List.getElem?_eq_none (by omega),Option.getD_none]
   omega
theorem z20{ns:List Int}{ts:List Bool}{cs:List Int}{i:Nat}(h:ts.getD i false=true):fiQ ns ts cs i=((cs.getD i 0:Int):Rat):=if_pos h
theorem z2z{ns:List Int}{ts:List Bool}{cs:List Int}{i a b:Nat}(h:ts.getD i false=false)(ha:nbA ts i=some a)(hb:nbB ts i=some b):fiQ ns ts cs i=infQ (ns.getD a 0) (cs.getD a 0) (ns.getD b 0) (cs.getD b 0) (ns.getD i 0):=by
 unfold fiQ
 rw[h,ha,hb]
 rfl
theorem z21{ns:List Int}{ts:List Bool}{cs:List Int}{i:Nat}(h:ts.getD i false=false)(ha:nbA ts i=none):fiQ ns ts cs i=0:=by
 unfold fiQ
 rw[h,ha]
 rfl
open Go.Maps
structure St where
 bs:LN
 ws:List Int
 no:Bool
def Wf(s:St):Prop:=Byt s.bs/\s.ws.Nodup/\(∀x∈s.ws,0<=x/\x+4<=(s.bs.length:Int))/\4*s.ws.length<=s.bs.length
def St.zero:St:=⟨[],[],false⟩
def St.fail(s:St):St:={ s with no:=true }
def St.app(s:St)(xs:LN):St:=if s.no then s else { s with bs:=s.bs++xs }
theorem Wf.zero:Wf St.zero:=⟨Byt.nil,List.nodup_nil,(fun x hx=>by cases hx),Nat.le_refl _⟩
theorem Wf.fail{s:St}(h:Wf s):Wf s.fail:=h
theorem Wf.app{s:St}(h:Wf s){xs:LN}(hx:Byt xs):Wf (s.app xs):=by
 unfold St.app
 split
 . exact h
 . exact⟨h.1.append hx,h.2.1,fun x hxs=>by have:=h.2.2.1 x hxs;simp;omega,by have:=h.2.2.2;simp;omega⟩
theorem St.app_bad{s:St}(h:s.no=true)(xs:LN):s.app xs=s:=by simp[St.app,h]
theorem St.app_ok{s:St}(h:s.no=false)(xs:LN):s.app xs={ s with bs:=s.bs++xs }:=by simp[St.app,h]
theorem St.app_no(s:St)(xs:LN):(s.app xs).no=s.no:=by unfold St.app;split <;> rfl
def Row(w:World)(G:Nat->Prop)(v:Value)(xs:LN):Prop :=
 w.ownsRow 0 5 1 v xs.length (xs.map Y)/\∀g,v.ownBlock=some g->¬G g
def Wts(w:World)(G:Nat->Prop)(v:Value)(ws:List Int):Prop :=
 (v=.map none/\ws=[])\/∃m D,v=.map (some m)/\¬G m/\w.ownsMap Tryz.prog 3 (unitElem (H:=Unit)) m ws.length D /\
  (∀x:Int,Maps.has D (.int .i64 x)=decide (x∈ws))/\Maps.size D=ws.length
def Bx4(w:World)(B:Nat)(a b c d:Value):Prop:=w.heap[B]?=some (.cells #[a,b,c,d] 90 (0,0))
def Pc(w:World)(B:Nat)(G:Nat->Prop)(s:St):Prop :=
 (∀k,G k->k<w.heap.size)/\¬G B/\Wf s/\∃vb vm,Bx4 w B vb (.int .i64 (s.bs.length:Int)) vm (.bool s.no)/\(s.no=true->vm=.map none)/\(s.no=false->Row w G vb s.bs/\Wts w G vm s.ws)
theorem Bx4.lt{w:World}{B:Nat}{a b c d:Value}(h:Bx4 w B a b c d):B<w.heap.size:=(Array.getElem?_eq_some_iff.1 h).1
theorem Bx4.cells{w:World}{B:Nat}{a b c d:Value}(h:Bx4 w B a b c d) :
 w.cell? ⟨B,0,none⟩=some a/\w.cell? ⟨B,1,none⟩=some b/\w.cell? ⟨B,2,none⟩=some c/\w.cell? ⟨B,3,none⟩=some d /\
    w.frozen? ⟨B,0,none⟩=false/\w.frozen? ⟨B,1,none⟩=false/\w.frozen? ⟨B,2,none⟩=false/\w.frozen? ⟨B,3,none⟩=false :=
 ⟨cell_of_row w B 0 _ _ (0,0) h,cell_of_row w B 1 _ _ (0,0) h,cell_of_row w B 2 _ _ (0,0) h,cell_of_row w B 3 _ _ (0,0) h,frozen_of_row w B 0 _ _ h,frozen_of_row w B 1 _ _ h,frozen_of_row w B 2 _ _ h,frozen_of_row w B 3 _ _ h⟩
theorem Bx4.set0{w:World}{B:Nat}{a b c d:Value}(h:Bx4 w B a b c d)(x:Value):Bx4 (w.setCell ⟨B,0,none⟩ x) B x b c d:=heap_setCell_same w B 0 _ _ x h
theorem Bx4.set1{w:World}{B:Nat}{a b c d:Value}(h:Bx4 w B a b c d)(x:Value):Bx4 (w.setCell ⟨B,1,none⟩ x) B a x c d:=heap_setCell_same w B 1 _ _ x h
theorem Bx4.set2{w:World}{B:Nat}{a b c d:Value}(h:Bx4 w B a b c d)(x:Value):Bx4 (w.setCell ⟨B,2,none⟩ x) B a b x d:=heap_setCell_same w B 2 _ _ x h
theorem Bx4.set3{w:World}{B:Nat}{a b c d:Value}(h:Bx4 w B a b c d)(x:Value):Bx4 (w.setCell ⟨B,3,none⟩ x) B a b c x:=heap_setCell_same w B 3 _ _ x h
theorem Rb.off{w:World}{B:Nat}{x0 x1 x2 x3:Value}(hB:Bx4 w B x0 x1 x2 x3)(h0:∀z,x0≠.int .u8 z)(h1:∀z,x1≠.int .u8 z)(h2:∀z,x2≠.int .u8 z)(h3:∀z,x3≠.int .u8 z)
    {w':World} {a:OA} {cap:Nat} {xs:LN} (h:Rb w a cap xs) (hs:w.heap.size<=w'.heap.size) (hw:∀k,k<w.heap.size->k≠B->w'.heap[k]?=w.heap[k]?):Rb w' a cap xs:=by
 obtain⟨k1,k2,k3,k5,k4⟩:=h
 refine⟨k1,k2,k3,k5,?_⟩
 by_cases hx:xs=[]
 . exact .inl hx
 rcases k4 with k4|⟨g,off,e,hg,hc⟩
 . exact .inl k4
 . refine .inr ⟨g,off,e,Nat.lt_of_lt_of_le hg hs,fun i hi=>?_⟩
   have hne:g≠B:=by
    rintro rfl
    have hc0:=hc 0 (List.length_pos_iff.2 hx)
    have hb:=cell_of_row w g (off+0) _ _ (0,0) hB
    rw[hc0]at hb
    match off,hb with
    | 0,hb=>simp at hb;exact h0 _ hb.symm
    | 1,hb=>simp at hb;exact h1 _ hb.symm
    | 2,hb=>simp at hb;exact h2 _ hb.symm
    | 3,hb=>simp at hb;exact h3 _ hb.symm
    | (k+4),hb=>simp at hb
   exact(World.cell?_of_block (w:=w) (a:=⟨g,off+i,none⟩) (hw g hg hne)).trans (hc i hi)
theorem Row.stay{w w':World}{G:Nat->Prop}{v:Value}{xs:LN}(h:Row w G v xs)(hb:∀k,k<w.heap.size->¬G k->w'.heap[k]?=w.heap[k]?):Row w' G v xs:=by
 obtain⟨⟨h1,h2⟩,hG⟩:=h
 refine⟨⟨h1,?_⟩,hG⟩
 rcases h2 with h2|⟨g,cap,cur,e,h3,h4,h5⟩
 . exact .inl h2
 . exact .inr ⟨g,cap,cur,e,h3,(hb g (Array.getElem?_eq_some_iff.1 h4).1 (hG g (by rw[e];rfl))).trans h4,h5⟩
theorem Row.ne{w:World}{G:Nat->Prop}{v:Value}{xs:LN}(h:Row w G v xs){B:Nat}{cs:Array Value}{t:TypeId}{f:Nat×Nat}(hB:w.heap[B]?=some (.cells cs t f))(ht:t≠5):v.ownBlock≠some B:=by
 obtain⟨⟨h1,h2⟩,hG⟩:=h
 rcases h2 with ⟨rfl,_⟩|⟨g,cap,cur,rfl,h3,h4,h5⟩
 . intro e;cases e
 . intro e
   simp only[Value.ownBlock,Option.some.injEq]at e
   subst e;rw[h4]at hB
   simp at hB
   exact ht hB.2.1.symm
theorem Row.ne_map{w:World}{G:Nat->Prop}{v:Value}{xs:LN}(h:Row w G v xs){m:Nat}{es:Array MapEntry}{c:Nat}(hB:w.heap[m]?=some (.map es c)):v.ownBlock≠some m:=by
 obtain⟨⟨h1,h2⟩,hG⟩:=h
 rcases h2 with ⟨rfl,_⟩|⟨g,cap,cur,rfl,h3,h4,h5⟩
 . intro e;cases e
 . intro e
   simp only[Value.ownBlock,Option.some.injEq]at e
   subst e;rw[h4]at hB
   simp at hB
theorem Row.off{w w':World}{G:Nat->Prop}{v:Value}{xs:LN}(h:Row w G v xs){B:Nat}{cs:Array Value}{t:TypeId}{f:Nat×Nat}(hB:w.heap[B]?=some (.cells cs t f))(ht:t≠5)
    (hb:∀k,k<w.heap.size->k≠B->w'.heap[k]?=w.heap[k]?):Row w' G v xs:=by
 have hne:=h.ne hB ht
 obtain⟨⟨h1,h2⟩,hG⟩:=h
 refine⟨⟨h1,?_⟩,hG⟩
 rcases h2 with h2|⟨g,cap,cur,e,h3,h4,h5⟩
 . exact .inl h2
 . exact .inr ⟨g,cap,cur,e,h3,(hb g (Array.getElem?_eq_some_iff.1 h4).1 (fun e'=>hne (by rw[e,<-e'];rfl))).trans h4,h5⟩
theorem Row.slice{w:World}{G:Nat->Prop}{v:Value}{xs:LN}(h:Row w G v xs):∃a c,v=.slice a xs.length c:=by
 rcases h.1.2 with ⟨e,h0⟩|⟨g,cap,cur,e,_⟩
 . exact⟨none,0,by rw[e,h0]⟩
 . exact⟨_,cap,e⟩
theorem Row.no8{w:World}{G:Nat->Prop}{v:Value}{xs:LN}(h:Row w G v xs)(z:Int):v≠.int .u8 z:=by
 obtain⟨a,c,rfl⟩:=h.slice
 intro e;cases e
theorem Wts.no8{w:World}{G:Nat->Prop}{v:Value}{ws:List Int}(h:Wts w G v ws)(z:Int):v≠.int .u8 z:=by
 rcases h with ⟨rfl,_⟩|⟨m,D,rfl,_⟩ <;> (intro e;cases e)
theorem Wts.off{w w':World}{G:Nat->Prop}{v:Value}{ws:List Int}(h:Wts w G v ws){B:Nat}(hB:∀es c,w.heap[B]?≠some (.map es c))
    (hb:∀k,k<w.heap.size->k≠B->w'.heap[k]?=w.heap[k]?):Wts w' G v ws:=by
 rcases h with h|⟨m,D,e,hG,ho,h1,h2⟩
 . exact .inl h
 . have hlt:=ho.lt
   obtain⟨es,clock,hb0,F,hs,hD⟩:=ho
   exact .inr ⟨m,D,e,hG,⟨es,clock,(hb m hlt (fun e'=>hB es clock (e' ▸ hb0))).trans hb0,F,hs,hD⟩,h1,h2⟩
theorem Bx4.no_map{w:World}{B:Nat}{a b c d:Value}(h:Bx4 w B a b c d)(es:Array MapEntry)(k:Nat):w.heap[B]?≠some (.map es k):=by
 rw[h];intro e;simp at e
theorem Wts.grown{w w':World}{G:Nat->Prop}{v:Value}{ws:List Int}(h:Wts w G v ws){G':Nat->Prop}{u:Value}{xs:LN}(hr:Row w G' u xs)(hg:w.grownBy w' u.ownBlock):Wts w' G v ws:=by
 rcases h with h|⟨m,D,e,hG,ho,h1,h2⟩
 . exact .inl h
 . have hlt:=ho.lt
   obtain⟨es,clock,hb0,F,hs,hD⟩:=ho
   exact .inr ⟨m,D,e,hG,⟨es,clock,(hg.block m hlt (Ne.symm (hr.ne_map hb0))).trans hb0,F,hs,hD⟩,h1,h2⟩
theorem Bx4.grown{w w':World}{B:Nat}{a b c d:Value}(h:Bx4 w B a b c d){G':Nat->Prop}{u:Value}{xs:LN}(hr:Row w G' u xs)(hg:w.grownBy w' u.ownBlock):Bx4 w' B a b c d :=
 (hg.block B h.lt (Ne.symm (hr.ne h (by decide)))).trans h
theorem Wts.stay{w w':World}{G:Nat->Prop}{v:Value}{ws:List Int}(h:Wts w G v ws)(hb:∀k,k<w.heap.size->¬G k->w'.heap[k]?=w.heap[k]?):Wts w' G v ws:=by
 rcases h with h|⟨m,D,e,hG,ho,h1,h2⟩
 . exact .inl h
 . have hlt:=ho.lt
   obtain⟨es,clock,hb0,F,hs,hD⟩:=ho
   exact .inr ⟨m,D,e,hG,⟨es,clock,(hb m hlt hG).trans hb0,F,hs,hD⟩,h1,h2⟩
theorem Pc.stay{w w':World}{B:Nat}{G:Nat->Prop}{s:St}(h:Pc w B G s)(hs:w.heap.size<=w'.heap.size)(hb:∀k,k<w.heap.size->¬G k->w'.heap[k]?=w.heap[k]?):Pc w' B G s:=by
 obtain⟨h1,h2,h3,vb,vm,h4,h6,h5⟩:=h
 exact⟨fun k hk=>Nat.lt_of_lt_of_le (h1 k hk) hs,h2,h3,vb,vm,(hb B h4.lt h2).trans h4,h6,fun hn=>⟨(h5 hn).1.stay hb,(h5 hn).2.stay hb⟩⟩
theorem Pc.below{w w':World}{B:Nat}{G:Nat->Prop}{s:St}(h:Pc w B G s)(hb:Below w.heap.size w w'):Pc w' B G s:=h.stay hb.size fun k hk _=>hb.block k hk
theorem Pc.guard{w:World}{B:Nat}{G G':Nat->Prop}{s:St}(h:Pc w B G s)(hG:∀k,G' k->k<w.heap.size/\G k):Pc w B G' s:=by
 obtain⟨h1,h2,h3,vb,vm,h4,h6,h5⟩:=h
 refine⟨fun k hk=>(hG k hk).1,fun hB=>h2 (hG _ hB).2,h3,vb,vm,h4,h6,fun hn=>⟨⟨(h5 hn).1.1,fun g hg hg'=>(h5 hn).1.2 g hg (hG _ hg').2⟩,?_⟩⟩
 rcases (h5 hn).2 with h|⟨m,D,e,hG2,r⟩
 . exact .inl h
 . exact .inr ⟨m,D,e,fun hm=>hG2 (hG _ hm).2,r⟩
theorem Pc.guard_new{w w':World}{B:Nat}{G G':Nat->Prop}{s:St}(h:Pc w B G s)(hs:w.heap.size<=w'.heap.size)(hb:∀k,k<w.heap.size->¬G k->w'.heap[k]?=w.heap[k]?)(hG:∀k,G' k->k<w'.heap.size/\(k<w.heap.size->G k)):Pc w' B G' s:=by
 have h':=h.stay hs hb
 obtain⟨h1,h2,h3,vb,vm,h4,h6,h5⟩:=h
 refine⟨fun k hk=>(hG k hk).1,fun hB=>h2 ((hG _ hB).2 h4.lt),h3,vb,vm,(hb B h4.lt h2).trans h4,h6,fun hn=>⟨⟨((h5 hn).1.stay hb).1,fun g hg hg'=>(h5 hn).1.2 g hg ((hG _ hg').2 ((h5 hn).1.1.lt g hg).2)⟩,?_⟩⟩
 rcases (h5 hn).2 with h|⟨m,D,e,hG2,ho,r⟩
 . exact .inl h
 . have hlt:=ho.lt
   rcases ((h5 hn).2).stay hb with h|⟨m',D',e',hG2',r'⟩
   . exact .inl h
   . rw[e]at e'
     simp at e'
     subst e'
     exact .inr ⟨m,D',e,fun hm=>hG2 ((hG _ hm).2 hlt),r'⟩
theorem zkq:(Tryz.prog.info? 5).map (fun i=>(i.zero,i.size,i.bytes))=some (some (.int .u8 0),1,1):=by kernel_rfl
abbrev pg (B:Nat):Value:=.pointer (some ⟨B,0,none⟩)
theorem zqb(B:Nat)(G:Nat->Prop)(s:St)(w:World)(h:Pc w B G s)(hl:s.bs.length<=1048576) :
 Calls Tryz.prog 126 #[pg B] w fun e w'=>e=.returned (.bool s.no)/\w=w':=by
 obtain⟨h1,h2,h3,vb,vm,h4,h6,h5⟩:=h;obtain⟨c0,c1,c2,c3,f0,f1,f2,f3⟩:=h4.cells
 generalize s.no=n at *
 generalize s.bs.length=l at *
 clear h5 h6 h4 h3 h2 h1
 cases n
 . go_enter Tryz.func126,Tryz.ntmps126
   go_wp2
   go_ret
   exact⟨zaa (by simp;try omega),rfl⟩
 . go_enter Tryz.func126,Tryz.ntmps126
   go_wp2
   go_ret
   exact⟨zaa (by simp;try omega),rfl⟩
theorem zje(B:Nat)(G:Nat->Prop)(s:St)(w:World)(h:Pc w B G s) :
 Calls Tryz.prog 75 #[pg B] w fun e w'=>e=.returned (.tuple #[])/\Pc w' B G s.fail/\Keep G w w':=by
 obtain⟨h1,h2,h3,vb,vm,h4,h6,h5⟩:=h;obtain⟨c0,c1,c2,c3,f0,f1,f2,f3⟩:=h4.cells
 go_enter Tryz.func75,Tryz.ntmps75
 go_wp2
 go_end0
 refine⟨rfl,⟨fun k hk=>by simpa [World.setCell] using h1 k hk,h2,h3.fail,_,_,((h4.set3 _).set0 _).set2 _,fun _=>rfl,fun hn=>by cases hn⟩,?_⟩
 exact(((Keep.refl G w).setCell (p:=⟨B,3,none⟩) h2 _).setCell (p:=⟨B,0,none⟩) h2 _).setCell (p:=⟨B,2,none⟩) h2 _
theorem zis(B:Nat)(G:Nat->Prop)(s:St)(a:OA)(cap:Nat)(xs:LN)(w:World)(h:Pc w B G s)(hr:Rb w a cap xs)(hl:s.bs.length+xs.length<=1048576) :
 Calls Tryz.prog 76 #[pg B,.slice a xs.length cap] w fun e w'=>e=.returned (.tuple #[])/\Pc w' B G (s.app xs)/\Keep G w w':=by
 obtain⟨i0,hi,hz0,hz1,hz2⟩:=info_parts zkq
 have hP:=h
 obtain⟨h1,h2,h3,vb,vm,h4,h6,h5⟩:=h
 go_enter Tryz.func76,Tryz.ntmps76
 go_wp2_with fail
 refine(zqb B G s _ hP (by omega)).mono ?_
 rintro e u ⟨rfl,rfl⟩
 by_cases hno:s.no=true
 . rw[hno]
   go_wp2
   (try simp only[Exit.inBlock,Exit.then]);refine bodyPost_ret (results_none rfl _ _ _) rfl ?_
   exact⟨rfl,by rw[St.app_bad hno];exact hP,Keep.refl _ _⟩
 . have hno:s.no=false:=by simpa using hno
   rw[hno]
   obtain⟨hR,hM⟩:=h5 hno
   obtain⟨c0,c1,c2,c3,f0,f1,f2,f3⟩:=h4.cells
   obtain⟨l,hll⟩:∃l,s.bs.length=l:=⟨_,rfl⟩
   rw[hll]at c1 h4
   have HL:Hid (s.bs.length=l):=hll
   have hl':l+xs.length<=1048576:=by omega
   clear hll hl
   have z4t:∀(u:World) (v:Value) (o:Nat),∀k,k<u.heap.size->k≠B->(u.setCell ⟨B,o,none⟩ v).heap[k]?=u.heap[k]?:=fun u v o k _ hk=>Below.heap_setCell _ ⟨B,o,none⟩ v k hk
   have h41:=h4.set1 (.int .i64 ((l:Int)+xs.length))
   have hR1:=hR.off h4 (by decide) (z4t w (.int .i64 ((l:Int)+xs.length)) 1)
   have hM1:=hM.off h4.no_map (z4t w (.int .i64 ((l:Int)+xs.length)) 1)
   have hr1:=Rb.off h4 hR.no8 (by simp) hM.no8 (by simp) hr (by simp[World.setCell]) (z4t w (.int .i64 ((l:Int)+xs.length)) 1)
   have hK1:Keep G w (w.setCell ⟨B,1,none⟩ (.int .i64 ((l:Int)+xs.length))):=(Keep.refl G w).setCell (p:=⟨B,1,none⟩) h2 _
   have hsz:(w.setCell ⟨B,1,none⟩ (.int .i64 ((l:Int)+xs.length))).heap.size=w.heap.size:=by simp[World.setCell]
   clear h4 hP hr hM h5 h6
   go_wp2_with (at_builtin;refine zc4 rfl _ _ 42 rfl 0 5 i0 Tryz.underlying42 hi hz0 hz1 hz2 _ s.bs.length s.bs rfl hR1.1 a cap _ xs rfl rfl hr1 (by rw[HL.out];omega) (Nat.zero_le _) ?_)
   intro v' w1 hown hgrow hat
   obtain⟨ts,hts⟩:∃ts,s.bs++xs=ts:=⟨_,rfl⟩
   have htl:s.bs.length+xs.length=ts.length:=by rw[<-hts,List.length_append]
   rw[<-List.map_append,hts,htl]at hown
   have HT:Hid (s.bs++xs=ts):=hts
   have HT2:Hid (s.bs.length+xs.length=ts.length):=htl
   have hBt:Byt ts:=hts ▸ h3.1.append hr1.lim
   clear hts htl
   have h42:=h41.grown hR1 hgrow
   obtain⟨a2,cap2,rfl,_⟩:=Rw.of hBt hown
   obtain⟨d0,d1,d2,d3,g0,g1,g2,g3⟩:=h42.cells;go_wp2
   go_end0
   have hM2:=hM1.grown hR1 hgrow
   have hnG:∀g,(Value.slice a2 ts.length cap2).ownBlock=some g->¬G g:=by
    intro g hg hGg
    rcases hat with hat|hat
    . exact hR.2 g (by rw[<-hat];exact hg) hGg
    . rw[hat]at hg
      have:=h1 g hGg
      simp at hg
      omega
   have hR2:Row w1 G (.slice a2 ts.length cap2) ts:=⟨hown,hnG⟩
   have hR3:=hR2.off h42 (by decide) (z4t w1 (.slice a2 ts.length cap2) 0)
   have hK2:=(hK1.grown hgrow (fun k hk=>by rw[hsz];exact h1 k hk) (fun k hk=>hR.2 k hk)).setCell (p:=⟨B,0,none⟩) h2 (.slice a2 ts.length cap2)
   refine⟨rfl,⟨fun k hk=>?_,h2,h3.app hr1.lim,.slice a2 ts.length cap2,vm,?_,fun hn=>absurd hn (by rw[St.app_no,hno];decide),fun _=>?_⟩,hK2⟩
   . exact Nat.lt_of_lt_of_le (h1 k hk) hK2.size
   . have h43:=h42.set0 (.slice a2 ts.length cap2)
     rw[St.app_ok hno]
     simp only[HT.out,<-HT2.out,HL.out]
     simpa [<-HT2.out,HL.out] using h43
   . rw[St.app_ok hno,HT.out]
     exact⟨hR3,hM2.off h42.no_map (z4t w1 (.slice a2 ts.length cap2) 0)⟩
def be1(n:Int):LN:=[(n%256).toNat]
def be2(n:Int):LN:=[(n/256%256).toNat,(n%256).toNat]
def be4(n:Int):LN:=[(n/16777216%256).toNat,(n/65536%256).toNat,(n/256%256).toNat,(n%256).toNat]
theorem zmw(n:Int):Byt (be1 n):=by intro x hx;simp[be1]at hx;omega
theorem zck(n:Int):Byt (be2 n):=by intro x hx;simp[be2]at hx;omega
theorem z3i(n:Int):Byt (be4 n):=by intro x hx;simp[be4]at hx;omega
def St.put8(s:St)(n:Int):St:=if -128<=n/\n<=255 then s.app (be1 n)else s.fail
def St.put16(s:St)(n:Int):St:=if -32768<=n/\n<=65535 then s.app (be2 n)else s.fail
def St.put32(s:St)(n:Int):St:=if -2147483648<=n/\n<=4294967295 then s.app (be4 n)else s.fail
theorem ztt(n:Int)(w:World)(hn:I64 n) :
 Calls Tryz.prog 74 #[.int .i64 n,.int .i64 8] w fun e w'=>e=.returned (.bool (decide (-128<=n/\n<=255)))/\w=w':=by
 obtain⟨n1,n2⟩:=hn
 by_cases h:-128<=n
 . go_enter Tryz.func74,Tryz.ntmps74
   go_wp2
   go_ret
   refine⟨zaa ?_,rfl⟩
   by_cases h2:n<=255
   . simp[h,h2];try omega
   . simp[h,h2];try omega
 . go_enter Tryz.func74,Tryz.ntmps74
   go_wp2
   go_ret
   exact⟨zaa (by simp[h];try omega),rfl⟩
theorem zp3(n:Int)(w:World)(hn:I64 n) :
 Calls Tryz.prog 74 #[.int .i64 n,.int .i64 16] w fun e w'=>e=.returned (.bool (decide (-32768<=n/\n<=65535)))/\w=w':=by
 obtain⟨n1,n2⟩:=hn
 by_cases h:-32768<=n
 . go_enter Tryz.func74,Tryz.ntmps74
   go_wp2
   go_ret
   refine⟨zaa ?_,rfl⟩
   by_cases h2:n<=65535
   . simp[h,h2];try omega
   . simp[h,h2];try omega
 . go_enter Tryz.func74,Tryz.ntmps74
   go_wp2
   go_ret
   exact⟨zaa (by simp[h];try omega),rfl⟩
theorem zp2(n:Int)(w:World)(hn:I64 n) :
 Calls Tryz.prog 74 #[.int .i64 n,.int .i64 32] w fun e w'=>e=.returned (.bool (decide (-2147483648<=n/\n<=4294967295)))/\w=w':=by
 obtain⟨n1,n2⟩:=hn
 by_cases h:-2147483648<=n
 . go_enter Tryz.func74,Tryz.ntmps74
   go_wp2
   go_ret
   refine⟨zaa ?_,rfl⟩
   by_cases h2:n<=4294967295
   . simp[h,h2];try omega
   . simp[h,h2];try omega
 . go_enter Tryz.func74,Tryz.ntmps74
   go_wp2
   go_ret
   exact⟨zaa (by simp[h];try omega),rfl⟩
theorem zxr(n:Int)(w:World)(hn:I64 n) :
 Calls Tryz.prog 190 #[.int .i64 n] w fun e w'=>∃a cap,e=.returned (.slice a (be4 n).length cap)/\Rb w' a cap (be4 n)/\Below w.heap.size w w':=by
 obtain⟨n1,n2⟩:=hn
 go_enter Tryz.func190,Tryz.ntmps190
 go_wp2
 go_ret
 refine⟨_,_,rfl,zsa w 5 (be4 n) _ ?_ (z3i n) (by simp[be4,maxLen]),bl1 _⟩
 simp only[be4,List.map_cons,List.map_nil,Y]
 simp
 omega
theorem Pc.al{w:World}{B:Nat}{G:Nat->Prop}{s:St}(h:Pc w B G s)(o:Obj):Pc (w.alloc o) B G s:=h.below (bl1 o)
theorem Pc.kal{w:World}{B:Nat}{G:Nat->Prop}{s:St}(h:Pc w B G s)(o:Obj):Keep G w (w.alloc o):=Keep.of_below (bl1 o) h.1
theorem zar(B:Nat)(G:Nat->Prop)(s:St)(n:Int)(w:World)(h:Pc w B G s)(hn:I64 n)(hl:s.bs.length+4<=1048576) :
 Calls Tryz.prog 80 #[pg B,.int .i64 n] w fun e w'=>e=.returned (.tuple #[])/\Pc w' B G (s.put8 n)/\Keep G w w':=by
 have hn':=hn
 obtain⟨n1,n2⟩:=hn'
 go_enter Tryz.func80,Tryz.ntmps80
 go_wp2_with fail
 refine(ztt n _ hn).mono ?_
 rintro e u ⟨rfl,rfl⟩
 by_cases hf:-128<=n/\n<=255
 . rw[decide_eq_true hf]
   have hs:Hid (s.put8 n=s.app (be1 n)):=if_pos hf
   go_wp2_with fail
   refine(zis B G s (some ⟨w.heap.size,0,none⟩) 1 (be1 n) _ (h.al _) (zsa w 5 (be1 n) #[Value.int IntKind.u8 (n%256)] (by simp[be1,Y];omega) (zmw n) (by simp[be1,maxLen])) (by simp[be1];omega)).mono ?_
   rintro e u ⟨rfl,hP,hK⟩;go_wp2
   go_end0
   exact⟨rfl,hs.out ▸ hP,(h.kal _).trans hK⟩
 . rw[decide_eq_false hf]
   have hs:Hid (s.put8 n=s.fail):=if_neg hf
   go_wp2_with fail
   refine(zje B G s _ h).mono ?_
   rintro e u ⟨rfl,hP,hK⟩;go_wp2
   (try simp only[Exit.inBlock,Exit.then]);refine bodyPost_ret (results_none rfl _ _ _) rfl ?_
   exact⟨rfl,hs.out ▸ hP,hK⟩
theorem zao(B:Nat)(G:Nat->Prop)(s:St)(n:Int)(w:World)(h:Pc w B G s)(hn:I64 n)(hl:s.bs.length+4<=1048576) :
 Calls Tryz.prog 41 #[pg B,.int .i64 n] w fun e w'=>e=.returned (.tuple #[])/\Pc w' B G (s.put16 n)/\Keep G w w':=by
 have hn':=hn
 obtain⟨n1,n2⟩:=hn'
 go_enter Tryz.func41,Tryz.ntmps41
 go_wp2_with fail
 refine(zp3 n _ hn).mono ?_
 rintro e u ⟨rfl,rfl⟩
 by_cases hf:-32768<=n/\n<=65535
 . rw[decide_eq_true hf]
   have hs:Hid (s.put16 n=s.app (be2 n)):=if_pos hf
   go_wp2_with fail
   refine(zis B G s (some ⟨w.heap.size,0,none⟩) 2 (be2 n) _ (h.al _) (zsa w 5 (be2 n) #[Value.int IntKind.u8 (n/256%256),Value.int IntKind.u8 (n%256)] (by simp[be2,Y];omega) (zck n) (by simp[be2,maxLen])) (by simp[be2];omega)).mono ?_
   rintro e u ⟨rfl,hP,hK⟩;go_wp2
   go_end0
   exact⟨rfl,hs.out ▸ hP,(h.kal _).trans hK⟩
 . rw[decide_eq_false hf]
   have hs:Hid (s.put16 n=s.fail):=if_neg hf
   go_wp2_with fail
   refine(zje B G s _ h).mono ?_
   rintro e u ⟨rfl,hP,hK⟩;go_wp2
   (try simp only[Exit.inBlock,Exit.then]);refine bodyPost_ret (results_none rfl _ _ _) rfl ?_
   exact⟨rfl,hs.out ▸ hP,hK⟩
theorem zsb(B:Nat)(G:Nat->Prop)(s:St)(n:Int)(w:World)(h:Pc w B G s)(hn:I64 n)(hl:s.bs.length+4<=1048576) :
 Calls Tryz.prog 136 #[pg B,.int .i64 n] w fun e w'=>e=.returned (.tuple #[])/\Pc w' B G (s.put32 n)/\Keep G w w':=by
 go_enter Tryz.func136,Tryz.ntmps136
 go_wp2_with fail
 refine(zp2 n _ hn).mono ?_
 rintro e u ⟨rfl,rfl⟩
 by_cases hf:-2147483648<=n/\n<=4294967295
 . rw[decide_eq_true hf]
   have hs:Hid (s.put32 n=s.app (be4 n)):=if_pos hf
   go_wp2_with fail
   refine(zxr n _ hn).mono ?_
   rintro e u ⟨a,cap,rfl,hr,hb⟩
   go_wp2_with fail
   refine(zis B G s a cap (be4 n) _ (h.below hb) hr (by simp[be4];omega)).mono ?_
   rintro e u2 ⟨rfl,hP,hK⟩;go_wp2
   go_end0
   exact⟨rfl,hs.out ▸ hP,(Keep.of_below hb h.1).trans hK⟩
 . rw[decide_eq_false hf]
   have hs:Hid (s.put32 n=s.fail):=if_neg hf
   go_wp2_with fail
   refine(zje B G s _ h).mono ?_
   rintro e u ⟨rfl,hP,hK⟩;go_wp2
   (try simp only[Exit.inBlock,Exit.then]);refine bodyPost_ret (results_none rfl _ _ _) rfl ?_
   exact⟨rfl,hs.out ▸ hP,hK⟩
theorem zde(B:Nat)(G:Nat->Prop)(s:St)(a:OA)(cap:Nat)(xs:LN)(w:World)(h:Pc w B G s)(hr:Rb w a cap xs)(hl:s.bs.length+xs.length<=1048576) :
 Calls Tryz.prog 137 #[pg B,.slice a xs.length cap] w fun e w'=>e=.returned (.tuple #[])/\Pc w' B G (s.app xs)/\Keep G w w':=by
 go_enter Tryz.func137,Tryz.ntmps137
 go_wp2_with fail
 refine(zis B G s a cap xs _ h hr hl).mono ?_
 rintro e u2 ⟨rfl,hP,hK⟩;go_wp2
 go_end0
 exact⟨rfl,hP,hK⟩
def sb(t:ByteArray):LN:=t.data.toList.map UInt8.toNat
def okb(xs:LN):Bool:=xs.all (fun x=>decide (32<=x)&&decide (x<=126))
def gd(xs:LN):Bool:=xs.length==4&&okb xs
def inB(l:Nat)(p n:Int):Bool:=decide (0<=n/\0<=p/\p+n<=l)
def V8(xs:LN):Nat:=xs.foldl (fun s x=>256*s+x) 0
theorem zm2(xs:LN)(x:Nat):V8 (xs++[x])=256*V8 xs+x:=by simp[V8]
theorem V8_lt{xs:LN}(h:Byt xs):V8 xs<256 ^ xs.length:=by
 obtain⟨n,hn⟩:∃n,xs.length=n:=⟨_,rfl⟩
 induction n generalizing xs with
 | zero=>rw[List.length_eq_zero_iff.1 hn];decide
 | succ n ih =>
  have hne:xs≠[]:=by intro e;rw[e]at hn;cases hn
  rw[<-List.dropLast_concat_getLast hne]at h hn ⊢
  have hl:xs.dropLast.length=n:=by simpa using hn
  have h1:=ih (fun y hy=>h y (by simp[hy])) hl
  have h2:=h (xs.getLast hne) (by simp)
  rw[zm2,List.length_append,List.length_singleton,Nat.pow_succ]
  omega
theorem zpq(a b:Nat)(ha:a<4611686018427387904)(hb:b<4611686018427387904):bits .or .i64 (a:Int) (b:Int)=((a ||| b:Nat):Int):=by
 have hx:a ||| b<2 ^ 62:=Nat.or_lt_two_pow (by omega) (by omega)
 show IntKind.i64.wrap ((BitVec.ofInt 64 (a:Int) ||| BitVec.ofInt 64 (b:Int)).toNat:Int)=_
 rw[BitVec.toNat_or,ofInt_u64 a (by omega),ofInt_u64 b (by omega)]
 unfold IntKind.wrap
 simp[IntKind.bits,IntKind.signed]
 omega
theorem z1c(s x:Nat)(hs:s<4294967296)(hx:x<256):bits BinOp.or IntKind.i64 ((s:Int)*256) (x:Int)=256*(s:Int)+(x:Int):=by
 have h:=zpq (s*256) x (by omega) (by omega)
 have e:s*256 ||| x=s*256+x:=by
  have:=Nat.shiftLeft_add_eq_or_of_lt (show x<2 ^ 8 by omega) s
  rw[Nat.shiftLeft_eq]at this
  exact this.symm
 rw[e]at h
 have c1:((s*256:Nat):Int)=(s:Int)*256:=by simp
 rw[c1]at h;rw[h,Int.natCast_add,c1,Int.mul_comm]
theorem zca{a b a' b':Value}(h1:a=a')(h2:b=b'):Ending.returned (.tuple #[a,b])=.returned (.tuple #[a',b']):=by rw[h1,h2]
theorem zdy(xs:LN)(q k:Nat)(h:q+k<xs.length):(xs.drop q).take (k+1)=(xs.drop q).take k++[xs.getD (q+k) 0]:=by
 rw[List.take_succ_eq_append_getElem (by simp;omega)]
 simp[List.getD,h]
def nmV(xs:LN)(p:Int)(n:Nat):Nat:=if inB xs.length p n then V8 ((xs.drop p.toNat).take n)else 0
theorem zdm(a:OA)(l cap:Nat)(p n:Int)(w:World)(hl:l<=9223372036854775807)(hp:I64 p)(hn:I64 n) :
 Calls Tryz.prog 144 #[.slice a l cap,.int .i64 p,.int .i64 n] w fun e w'=>e=.returned (.bool (inB l p n))/\w=w':=by
 obtain⟨p1,p2⟩:=hp;obtain⟨n1,n2⟩:=hn
 by_cases h1:0<=n
 . by_cases h2:0<=p
   . go_enter Tryz.func144,Tryz.ntmps144
     go_wp2
     go_ret
     exact⟨zaa (by simp[inB,h1,h2];try omega),rfl⟩
   . go_enter Tryz.func144,Tryz.ntmps144
     go_wp2
     go_ret
     exact⟨zaa (by simp[inB,h1,h2];try omega),rfl⟩
 . go_enter Tryz.func144,Tryz.ntmps144
   go_wp2
   go_ret
   exact⟨zaa (by simp[inB,h1];try omega),rfl⟩
theorem zdq(a:OA)(cap:Nat)(xs:LN)(p:Int)(n:Nat)(w:World)(h:Rb w a cap xs)(hp:I64 p)(hn:1<=n)(hn4:n<=4) :
 Calls Tryz.prog 86 #[.slice a xs.length cap,.int .i64 p,.int .i64 (n:Int)] w fun e w'=>e=.returned (.tuple #[.int .i64 (nmV xs p n:Int),.bool (inB xs.length p n)])/\w=w':=by
 have k1:=h.le
 have k2:=h.cap
 unfold maxLen at k2
 have hp':=hp
 obtain⟨p1,p2⟩:=hp'
 by_cases hi:inB xs.length p n=true
 . have hi':=hi
   simp[inB]at hi'
   obtain⟨q1,q2⟩:=hi'
   obtain⟨q,rfl⟩:∃q:Nat,p=(q:Int):=⟨p.toNat,by omega⟩
   rcases h.fm with rfl|⟨b,off,rfl,hb,hc⟩
   . simp at q2;omega
   have hV:Hid (nmV xs (q:Int) n=V8 ((xs.drop q).take n)):=by
    show nmV xs (q:Int) n=_
    simp[nmV,hi]
   have hb3:=h.lim
   clear h
   go_enter Tryz.func86,Tryz.ntmps86
   go_wp2_with fail
   refine(zdm _ _ _ _ _ _ (by omega) hp ⟨by omega,by omega⟩).mono ?_
   rintro e u ⟨rfl,rfl⟩;rw[hi]
   have HI:Hid (inB xs.length (q:Int) n=true):=hi
   clear hi;go_wp2
   go_loop [8,23] (fun s i=>∃k:Nat,k<=n/\i=.int .i64 k/\s=.int .i64 (V8 ((xs.drop q).take k):Int)) (fun _ i=>((n:Int)-intOf i).toNat)
   case atStart=>exact⟨0,by omega,rfl,rfl⟩
   case round =>
    obtain⟨k,hk,rfl,rfl⟩:=hrel
    by_cases hkn:k=n
    . subst hkn
      go_wp2
      go_ret2
      exact⟨zca (by rw[hV.out];rfl) (by rw[HI.out];rfl),rfl⟩
    . have hcx:=hc (q+k) (by omega)
      rw[<-Nat.add_assoc]at hcx
      have hts:=zdy xs q k (by omega)
      have hx:=hb3.getD (q+k)
      generalize xs.getD (q+k) 0=x at hcx hts hx
      have hv:=V8_lt ((hb3.drop q).take k)
      have hvk:256 ^ ((xs.drop q).take k).length<=256 ^ 3:=Nat.pow_le_pow_right (by decide) (by simp;omega)
      have zxa:V8 ((xs.drop q).take (k+1))=256*V8 ((xs.drop q).take k)+x:=by rw[hts,zm2]
      generalize V8 ((xs.drop q).take k)=v at zxa hv ⊢
      have HT:Hid (V8 ((xs.drop q).take (k+1))=256*v+x):=zxa
      have hv3:v<16777216:=by omega
      clear hts zxa hv hvk hc
      have hor:=z1c v x (by omega) hx
      go_wp2
      go_round
      case rel=>exact⟨k+1,by omega,by simp,by rw[HT.out];simp⟩
      case measure=>simp[intOf];omega
 . have hi:inB xs.length p n=false:=by simpa using hi
   have hV:Hid (nmV xs p n=0):=by
    show nmV xs p n=_
    simp[nmV,hi]
   go_enter Tryz.func86,Tryz.ntmps86
   go_wp2_with fail
   refine(zdm _ _ _ _ _ _ (by omega) hp ⟨by omega,by omega⟩).mono ?_
   rintro e u ⟨rfl,rfl⟩;rw[hi]
   have HI:Hid (inB xs.length p n=false):=hi
   clear hi;go_wp2
   go_ret2
   exact⟨zca (by rw[hV.out];rfl) (by rw[HI.out];rfl),rfl⟩
def sx16(v:Nat):Int:=if 32768<=v then (v:Int)-65536 else v
theorem w16{v:Nat}(h:32768<=v)(h2:v<65536):wrap64 (IntKind.i16.wrap (v:Int))=(v:Int)-65536:=by
 have e:IntKind.i16.wrap (v:Int)=(v:Int)-65536:=by
  unfold IntKind.wrap
  simp[IntKind.bits,IntKind.signed]
  omega
 rw[e]
 unfold wrap64
 omega
theorem zbd{xs:LN}(h:Byt xs)(p:Int)(n:Nat):nmV xs p n<256 ^ n:=by
 unfold nmV
 split
 . have h1:=V8_lt ((h.drop p.toNat).take n)
   have h2:256 ^ ((xs.drop p.toNat).take n).length<=256 ^ n:=Nat.pow_le_pow_right (by decide) (by simp;omega)
   omega
 . exact Nat.pow_pos (by decide)
theorem z0n(a:OA)(cap:Nat)(xs:LN)(p:Int)(n:Nat)(w:World)(h:Rb w a cap xs)(hp:I64 p)(hn:1<=n)(hn4:n<=4) :
 Calls Tryz.prog 92 #[.slice a xs.length cap,.int .i64 p,.int .i64 (n:Int)] w fun e w'=>e=.returned (.tuple #[.int .i64 (nmV xs p n:Int),.bool (inB xs.length p n)])/\w=w':=by
 have k1:=h.le
 have k2:=h.cap
 unfold maxLen at k2
 obtain⟨p1,p2⟩:=hp
 by_cases hi:inB xs.length p n=true
 . have hi':=hi
   simp[inB]at hi'
   obtain⟨q1,q2⟩:=hi'
   obtain⟨q,rfl⟩:∃q:Nat,p=(q:Int):=⟨p.toNat,by omega⟩
   rcases h.fm with rfl|⟨b,off,rfl,hb,hc⟩
   . simp at q2;omega
   have hV:Hid (nmV xs (q:Int) n=V8 ((xs.drop q).take n)):=by
    show nmV xs (q:Int) n=_
    simp[nmV,hi]
   have hb3:=h.lim
   clear h
   have HI:Hid (inB xs.length (q:Int) n=true):=hi
   clear hi
   have g1:¬((xs.length:Int)<(n:Int)):=by omega
   have g2:¬((xs.length:Int)-(n:Int)<(q:Int)):=by omega
   go_enter Tryz.func92,Tryz.ntmps92
   go_wp2
   go_loop [8,9] (fun s i=>∃k:Nat,k<=n/\i=.int .i64 k/\s=.int .i64 (V8 ((xs.drop q).take k):Int)) (fun _ i=>((n:Int)-intOf i).toNat)
   case atStart=>exact⟨0,by omega,rfl,rfl⟩
   case round =>
    obtain⟨k,hk,rfl,rfl⟩:=hrel
    by_cases hkn:k=n
    . subst hkn
      go_wp2
      go_ret2
      exact⟨zca (by rw[hV.out];rfl) (by rw[HI.out];rfl),rfl⟩
    . have hcx:=hc (q+k) (by omega)
      have hts:=zdy xs q k (by omega)
      have hx:=hb3.getD (q+k)
      generalize xs.getD (q+k) 0=x at hcx hts hx
      have hv:=V8_lt ((hb3.drop q).take k)
      have hvk:256 ^ ((xs.drop q).take k).length<=256 ^ 3:=Nat.pow_le_pow_right (by decide) (by simp;omega)
      have zxa:V8 ((xs.drop q).take (k+1))=256*V8 ((xs.drop q).take k)+x:=by rw[hts,zm2]
      generalize V8 ((xs.drop q).take k)=v at zxa hv ⊢
      have HT:Hid (V8 ((xs.drop q).take (k+1))=256*v+x):=zxa
      have hv3:v<16777216:=by omega
      clear hts zxa hv hvk hc;go_wp2
      go_round
      case rel=>exact⟨k+1,by omega,by simp,by rw[HT.out];simp⟩
      case measure=>simp[intOf];omega
 . have hi:inB xs.length p n=false:=by simpa using hi
   have hV:Hid (nmV xs p n=0):=by
    show nmV xs p n=_
    simp[nmV,hi]
   have HI:Hid (inB xs.length p n=false):=hi
   have hor:p<0\/(0<=p/\((xs.length:Int)<(n:Int)\/(¬(xs.length:Int)<(n:Int)/\(xs.length:Int)-(n:Int)<p))):=by
    simp[inB]at hi
    omega
   clear hi
   rcases hor with g1|⟨g0,g1|⟨g1,g2⟩⟩
   all_goals
    go_enter Tryz.func92,Tryz.ntmps92
    go_wp2
    go_ret2
    exact⟨zca (by rw[hV.out];rfl) (by first | (rw[HI.out];rfl) | rfl),rfl⟩
theorem zgc(a:OA)(cap:Nat)(xs:LN)(p:Int)(w:World)(h:Rb w a cap xs)(hp:I64 p) :
 Calls Tryz.prog 91 #[.slice a xs.length cap,.int .i64 p] w fun e w'=>e=.returned (.tuple #[.int .i64 (nmV xs p 1:Int),.bool (inB xs.length p 1)])/\w=w':=by
 go_enter Tryz.func91,Tryz.ntmps91
 go_wp2_with fail
 refine(zdq a cap xs p 1 _ h hp (by decide) (by decide)).mono ?_
 rintro e u ⟨rfl,rfl⟩;go_wp2
 go_ret2
 exact⟨rfl,rfl⟩
theorem zgd(a:OA)(cap:Nat)(xs:LN)(p:Int)(w:World)(h:Rb w a cap xs)(hp:I64 p) :
 Calls Tryz.prog 47 #[.slice a xs.length cap,.int .i64 p] w fun e w'=>e=.returned (.tuple #[.int .i64 (nmV xs p 2:Int),.bool (inB xs.length p 2)])/\w=w':=by
 go_enter Tryz.func47,Tryz.ntmps47
 go_wp2_with fail
 refine(zdq a cap xs p 2 _ h hp (by decide) (by decide)).mono ?_
 rintro e u ⟨rfl,rfl⟩;go_wp2
 go_ret2
 exact⟨rfl,rfl⟩
theorem zz5(a:OA)(cap:Nat)(xs:LN)(p:Int)(w:World)(h:Rb w a cap xs)(hp:I64 p) :
 Calls Tryz.prog 147 #[.slice a xs.length cap,.int .i64 p] w fun e w'=>e=.returned (.tuple #[.int .i64 (nmV xs p 4:Int),.bool (inB xs.length p 4)])/\w=w':=by
 go_enter Tryz.func147,Tryz.ntmps147
 go_wp2_with fail
 refine(zdq a cap xs p 4 _ h hp (by decide) (by decide)).mono ?_
 rintro e u ⟨rfl,rfl⟩;go_wp2
 go_ret2
 exact⟨rfl,rfl⟩
theorem zgw(a:OA)(cap:Nat)(xs:LN)(p:Int)(w:World)(h:Rb w a cap xs)(hp:I64 p) :
 Calls Tryz.prog 90 #[.slice a xs.length cap,.int .i64 p] w fun e w'=>e=.returned (.tuple #[.int .i64 (sx16 (nmV xs p 2)),.bool (inB xs.length p 2)])/\w=w':=by
 have hlt:=zbd h.lim p 2
 obtain⟨v,hv⟩:∃v,nmV xs p 2=v:=⟨_,rfl⟩
 have HV:Hid (nmV xs p 2=v):=hv
 have hlt':v<65536:=by rw[hv]at hlt;simpa using hlt
 clear hlt
 go_enter Tryz.func90,Tryz.ntmps90
 go_wp2_with fail
 refine(zdq a cap xs p 2 _ h hp (by decide) (by decide)).mono ?_
 rintro e u ⟨rfl,rfl⟩;rw[hv];clear hv
 by_cases zle:32768<=v
 . have hs:Hid (sx16 (nmV xs p 2)=(v:Int)-65536):=by show sx16 _=_;rw[HV.out];simp[sx16,zle]
   have HB:Hid (32768<=v):=zle
   have hb':(32768:Int)<=(v:Int):=by omega
   clear zle;go_wp2
   go_ret2
   exact⟨zca (by rw[hs.out];first | rfl | exact congrArg _ (w16 HB.out hlt')) rfl,rfl⟩
 . have hs:Hid (sx16 (nmV xs p 2)=(v:Int)):=by show sx16 _=_;rw[HV.out];simp[sx16,zle]
   have hb':¬(32768:Int)<=(v:Int):=by omega
   clear zle hlt';go_wp2
   go_ret2
   exact⟨zca (by rw[hs.out];rfl) rfl,rfl⟩
theorem Rw.nil(base:Nat)(w:World):Rw 5 base w none 0 []:=⟨Byt.nil,World.ownsRow_nil w base _ 1⟩
theorem zg9(a:OA)(cap:Nat)(xs:LN)(w:World)(h:Rb w a cap xs)(hl:xs.length<=1000000000) :
 Calls Tryz.prog 81 #[.slice a xs.length cap] w fun e w'=>∃a' cap',e=.returned (.slice a' xs.length cap')/\Rw 5 w.heap.size w' a' cap' xs/\Below w.heap.size w w':=by
 obtain⟨i0,hi,hz0,hz1,hz2⟩:=info_parts zkq
 have q22:∀(w:World) (a:OA) (n c n' c':Nat),(binOp .eql 42 (.slice a n c) (.slice none n' c')).run Tryz.prog w=.ok (.bool a.isNone) w:=fun w a n c n' c'=>Lib.run_eql_slice_nil w _ _ a n c n' c' Tryz.underlying42
 cases a with
 | none =>
  have hc:cap=0:=h.2.2.2.1 rfl
  have hx:xs=[]:=by
   rcases h.fm with h0|⟨b,off,e,_⟩
   . exact h0
   . cases e
  subst hc;subst hx
  go_enter Tryz.func81,Tryz.ntmps81
  go_wp2
  go_ret
  exact⟨none,0,rfl,Rw.nil _ _,Below.refl _ _⟩
 | some ad =>
  go_enter Tryz.func81,Tryz.ntmps81
  go_wp2_with (at_builtin;refine zc4 rfl _ _ 42 rfl w.heap.size 5 i0 Tryz.underlying42 hi hz0 hz1 hz2 _ 0 [] rfl ?_ (some ad) cap _ xs rfl rfl ?_ ?_ ?_ ?_)
  . exact World.ownsRow_made w #[] 0 (Nat.le_refl _) (Nat.zero_le _) rfl
  . exact h.below (bl1 _)
  . omega
  . simp
  . intro v' w1 hown hgrow hat
    obtain⟨a',cap',rfl,hres⟩:=Rw.of h.lim hown
    go_wp2
    go_ret
    exact⟨a',cap',rfl,hres,(bl1 _).grown hgrow (by simp) (fun k hk=>by simp[Value.ownBlock]at hk;omega)⟩
def cutV(xs:LN)(p n:Int):LN:=if inB xs.length p n then (xs.drop p.toNat).take n.toNat else []
theorem zmh{xs:LN}{p n:Int}(h:inB xs.length p n=false):cutV xs p n=[]:=by simp[cutV,h]
theorem zf5{xs:LN}{p n:Int}(h:inB xs.length p n=true):cutV xs p n=(xs.drop p.toNat).take n.toNat:=by simp[cutV,h]
theorem Rb.cut{w:World}{a:OA}{cap:Nat}{xs:LN}(h:Rb w a cap xs)(q n:Nat)(hq:q+n<=xs.length):Rb w (a.map (fun x=>x.add q)) (cap-q) ((xs.drop q).take n):=by
 obtain⟨h1,h2,h3,h5,h4⟩:=h
 refine⟨(h1.drop q).take n,by simp;omega,by omega,(by simp;intro h;have:=h5 h;omega),?_⟩
 rcases h4 with rfl|⟨b,off,rfl,hb1,hc⟩
 . exact .inl (by simp)
 . have zb1:(⟨b,off,none⟩:Addr).add q=⟨b,off+q,none⟩:=by unfold Addr.add;split <;> simp_all
   refine .inr ⟨b,off+q,by simp[zb1],hb1,fun i hi=>?_⟩
   simp at hi
   rw[Nat.add_assoc,hc (q+i) (by omega)]
   simp[List.getD,show i<n by omega]
theorem z3a(a:OA)(cap:Nat)(xs:LN)(p n:Int)(w:World)(h:Rb w a cap xs)(hp:I64 p)(hn:I64 n)(hl:xs.length<=1000000000) :
 Calls Tryz.prog 148 #[.slice a xs.length cap,.int .i64 p,.int .i64 n] w fun e w'=>∃a' cap',e=.returned (.tuple #[.slice a' (cutV xs p n).length cap',.bool (inB xs.length p n)])/\Rw 5 w.heap.size w' a' cap' (cutV xs p n)/\Below w.heap.size w w':=by
 have hr:=h
 have k1:=h.le
 have k2:=h.cap
 unfold maxLen at k2
 by_cases hi:inB xs.length p n=true
 . have HI:Hid (inB xs.length p n=true):=hi
   have hi':=hi
   simp[inB]at hi'
   obtain⟨q0,q1,q2⟩:=hi'
   obtain⟨q,rfl⟩:∃q:Nat,p=(q:Int):=⟨p.toNat,by omega⟩
   obtain⟨m,rfl⟩:∃m:Nat,n=(m:Int):=⟨n.toNat,by omega⟩
   have HC:Hid (cutV xs q m=(xs.drop q).take m):=zf5 hi
   go_enter Tryz.func148,Tryz.ntmps148
   go_wp2_with fail
   refine(zdm _ _ _ _ _ _ (by omega) hp hn).mono ?_
   rintro e u ⟨rfl,rfl⟩;rw[hi];clear hi
   go_wp2_with fail
   . have hm:m=0:=by omega
     have hv:(xs.drop q).take m=[]:=by rw[hm];simp
     have hm':m=([]:LN).length:=hm
     rw[hm']
     refine(zg9 a 0 [] _ (Rb.nil w a 0 (Nat.zero_le _) (fun _=>rfl)) (by simp)).mono ?_
     rintro e u ⟨a',cap',rfl,hR,hb⟩;go_wp2
     go_ret2
     refine⟨a',cap',zca (by rw[HC.out,hv];rfl) (by rw[HI.out];rfl),?_,hb⟩
     rw[HC.out,hv]
     exact hR
   . have hl2:((xs.drop q).take m).length=m:=by simp;omega
     have hcl:=zg9 _ _ _ _ (hr.cut q m (by omega)) (by rw[hl2];omega)
     rw[hl2]at hcl
     refine hcl.mono ?_
     rintro e u ⟨a',cap',rfl,hR,hb⟩;go_wp2
     go_ret2
     refine⟨a',cap',zca (by rw[HC.out,hl2];rfl) (by rw[HI.out];rfl),?_,hb⟩
     rw[HC.out]
     exact hR
 . have hi:inB xs.length p n=false:=by simpa using hi
   have HI:Hid (inB xs.length p n=false):=hi
   have HC:Hid (cutV xs p n=[]):=zmh hi
   go_enter Tryz.func148,Tryz.ntmps148
   go_wp2_with fail
   refine(zdm _ _ _ _ _ _ (by omega) hp hn).mono ?_
   rintro e u ⟨rfl,rfl⟩;rw[hi];clear hi;go_wp2
   go_ret2
   refine⟨none,0,zca (by rw[HC.out];rfl) (by rw[HI.out];rfl),?_,Below.refl _ _⟩
   rw[HC.out]
   exact Rw.nil _ _
def str8(xs:LN):ByteArray:=strOfNums (xs.map (fun x:Nat=>(x:Int)))
theorem zro{xs:LN}(h:Byt xs):sb (str8 xs)=xs:=by
 rw[sb,str8,strOfNums_data]
 simp only[List.map_map]
 have:∀x∈xs,(UInt8.toNat ∘ (fun n:Int=>UInt8.ofNat n.toNat) ∘ fun x:Nat=>(x:Int)) x=x:=by
  intro x hx
  have:=h x hx
  simp
  omega
 rw[List.map_congr_left this,List.map_id']
theorem Rb.str{w:World}{a:OA}{cap:Nat}{xs:LN}(h:Rb w a cap xs)(hx:xs≠[]) :
 (convert 42 9 (.slice a xs.length cap)).run Tryz.prog w=.ok (.string (str8 xs)) w:=by
 rcases h.fm with h0|⟨b,off,rfl,hb,hc⟩
 . exact absurd h0 hx
 . exact run_convert_bytes_arg (P:=Tryz.prog) w 42 5 Tryz.underlying42 Tryz.underlying5 b off xs.length cap (xs.map (fun x:Nat=>(x:Int))) (by simp) (fun i hi=>by
     rw[hc i hi];simp[List.getD,hi]) 9 Tryz.underlying9
def allE(s:St):Int:=if s.no then 4 else if s.ws=[]then 0 else 1
def allB(s:St):LN:=if s.no then []else if s.ws=[]then s.bs else []
theorem Row.rb{w:World}{G:Nat->Prop}{a:OA}{c:Nat}{xs:LN}(h:Row w G (.slice a xs.length c) xs)(hB:Byt xs):Rb w a c xs:=Rw.rd (e:=5) (base:=0) ⟨hB,h.1⟩
theorem zfd(B:Nat)(G:Nat->Prop)(s:St)(w:World)(h:Pc w B G s)(hl:s.bs.length<=1048576) :
 Calls Tryz.prog 43 #[pg B] w fun e w'=>∃a' cap',e=.returned (.tuple #[.slice a' (allB s).length cap',.int .i64 (allE s)])/\Rw 5 w.heap.size w' a' cap' (allB s)/\Below w.heap.size w w':=by
 obtain⟨h1,h2,h3,vb,vm,h4,h6,h5⟩:=h;obtain⟨c0,c1,c2,c3,f0,f1,f2,f3⟩:=h4.cells
 by_cases hno:s.no=true
 . have HE:Hid (allE s=4):=by show allE s=4;simp[allE,hno]
   have HB:Hid (allB s=[]):=by show allB s=[];simp[allB,hno]
   rw[hno]at c3;clear h1 h2 h3 h4 h5 h6 hno
   go_enter Tryz.func43,Tryz.ntmps43
   go_wp2
   go_ret2
   refine⟨none,0,zca (by rw[HB.out];rfl) (by rw[HE.out];rfl),?_,Below.refl _ _⟩
   rw[HB.out]
   exact Rw.nil _ _
 . have hno:s.no=false:=by simpa using hno
   obtain⟨hR,hM⟩:=h5 hno
   rw[hno]at c3
   by_cases hws:s.ws=[]
   . have HE:Hid (allE s=0):=by show allE s=0;simp[allE,hno,hws]
     have HB:Hid (allB s=s.bs):=by show allB s=s.bs;simp[allB,hno,hws]
     obtain⟨a,c,rfl⟩:=hR.slice
     have hrb:=hR.rb h3.1
     have fin:∀(W:World),W=w->Calls Tryz.prog 81 #[.slice a s.bs.length c] W fun e w'=>∃a' cap',e=.returned (.slice a' s.bs.length cap')/\Rw 5 w.heap.size w' a' cap' s.bs/\Below w.heap.size w w':=by
      rintro W rfl
      exact zg9 a c s.bs _ hrb (by omega)
     obtain⟨l,hll⟩:∃l,s.bs.length=l:=⟨_,rfl⟩
     rw[hll]at c0 c1 hl fin
     have HL:Hid (s.bs.length=l):=hll
     clear hll
     rcases hM with ⟨rfl,_⟩|⟨m,D,rfl,hmG,hown,hhas,hsize⟩
     . clear h1 h2 h3 h4 h5 h6 hno hws hR hrb
       have hlen:=fun(w:World) ty=>Maps.len_nil (w:=w) Tryz.underlying88 ty
       go_enter Tryz.func43,Tryz.ntmps43
       go_wp2_with fail
       refine(fin _ rfl).mono ?_
       rintro e u ⟨a',cap',rfl,hR,hb⟩;go_wp2
       go_ret2
       refine⟨a',cap',zca (by rw[HB.out,HL.out];rfl) (by rw[HE.out];rfl),?_,hb⟩
       rw[HB.out]
       exact hR
     . rw[hws]at hsize
       have hs0:Maps.size D=0:=by simpa using hsize
       have hown':=hown
       clear h1 h2 h3 h4 h5 h6 hno hR hrb hhas hsize
       go_enter Tryz.func43,Tryz.ntmps43
       go_wp2_with (first | (zun;refine wpList_len_own _ rfl _ 88 rfl 3 331 Tryz.underlying88 _ m _ D rfl hown ?_;rw[hs0]) | fail)
       refine(fin _ rfl).mono ?_
       rintro e u ⟨a',cap',rfl,hR,hb⟩;go_wp2
       go_ret2
       refine⟨a',cap',zca (by rw[HB.out,HL.out];rfl) (by rw[HE.out];rfl),?_,hb⟩
       rw[HB.out]
       exact hR
   . have HE:Hid (allE s=1):=by show allE s=1;simp[allE,hno,hws]
     have HB:Hid (allB s=[]):=by show allB s=[];simp[allB,hno,hws]
     rcases hM with ⟨rfl,h0⟩|⟨m,D,rfl,hmG,hown,hhas,hsize⟩
     . exact absurd h0 hws
     . obtain⟨z,hz⟩:∃z,Maps.size D=z:=⟨_,rfl⟩
       have hz1:0<(z:Int):=by
        have:=List.length_pos_iff.2 hws
        omega
       clear h1 h2 h3 h4 h5 h6 hno hR hhas hsize hws
       go_enter Tryz.func43,Tryz.ntmps43
       go_wp2_with (first | (zun;refine wpList_len_own _ rfl _ 88 rfl 3 331 Tryz.underlying88 _ m _ D rfl hown ?_;rw[hz]) | go_in)
       go_ret2
       refine⟨none,0,zca (by rw[HB.out];rfl) (by rw[HE.out];rfl),?_,Below.refl _ _⟩
       rw[HB.out]
       exact Rw.nil _ _
def padN(l n:Nat):Nat:=(n-l%n)%n
def fil(bs:LN):LN:=bs++List.replicate (padN bs.length 4) 0
def sum4:LN->Nat
 | a::b::c::d::r=>V8 [a,b,c,d]+sum4 r
 | _=>0
def sm(bs:LN):Nat:=sum4 (fil bs)%4294967296
theorem toList_inj{a b:ByteArray}(h:a.toList=b.toList):a=b:=by
 rw[ByteArray.toList_eq,ByteArray.toList_eq]at h
 cases a;cases b
 simp only at h
 rw[Array.toList_inj.1 h]
def pw(n:Nat):Nat:=if n<2 then 1 else if n<4 then 2 else if n<8 then 4 else if n<16 then 8 else if n<32 then 16 else 32
def lg(n:Nat):Nat:=if n<2 then 0 else if n<4 then 1 else if n<8 then 2 else if n<16 then 3 else if n<32 then 4 else 5
def hdr(n:Nat):LN:=be4 65536++(be2 n++(be2 ((16*pw n:Nat):Int)++(be2 ((lg n:Nat):Int)++be2 ((16*n-16*pw n:Nat):Int))))
