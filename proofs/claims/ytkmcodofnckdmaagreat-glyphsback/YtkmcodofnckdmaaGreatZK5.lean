import Derived.Test.YtkmcodofnckdmaaGreatZK4
import Derived.Maps.AppendAt
import Derived.Maps.OwnSet
set_option maxHeartbeats 2000000
set_option maxRecDepth 100000
set_option linter.unusedSimpArgs false
set_option linter.unusedVariables false
namespace Go.Proofs.YtkmcodofnckdmaaGreat
open Go.RowKit
def crd(z:Int):Bool:=decide (-16384<=z/\z<=16384)
def fldN(z:Int):Int:=if -32768<=z/\z<=32767 then z else 0
def fldE(z:Int):Int:=if -32768<=z/\z<=32767 then 0 else 4
theorem zh4(z:Int):IntKind.i16.wrap z=if 32768<=z%65536 then z%65536-65536 else z%65536:=by
 simp[IntKind.wrap,IntKind.bits,IntKind.signed]
theorem zak(z:Int)(w:World):Calls Tryz.prog 197 #[.int .i64 z] w fun e w'=>e=.returned (.bool (crd z))/\w=w':=by
 by_cases h1:-16384<=z
 . go_enter Tryz.func197,Tryz.ntmps197
   go_wp2
   go_ret
   exact⟨za2 (by simp[crd,h1]),rfl⟩
 . go_enter Tryz.func197,Tryz.ntmps197
   go_wp2
   go_ret
   exact⟨za2 (by simp[crd];omega),rfl⟩
theorem ztr(k:Nat)(q:Rat)(v:Value)(w:World)(h:Ct w v k q)(hk:k<=100000000)(hk2:2<=k) :
 Calls Tryz.prog 67 #[v] w fun e w'=>e=.returned (.tuple #[.int .i64 (fldN (q+1/2).floor),.int .i64 (fldE (q+1/2).floor)])/\Below w.heap.size w w':=by
 have hX:=h
 obtain⟨n,xs,ys,⟨a,c,a',c',rfl,_,_⟩,hz1⟩:=h;clear hz1
 obtain⟨z,hz⟩:∃z,(q+1/2).floor=z:=⟨_,rfl⟩
 rw[hz]
 have HZ:Hid ((q+1/2).floor=z):=hz
 clear hz
 have e34:(-32768<=z/\z<=32767/\fldN z=z/\fldE z=0/\flB z=true/\flN z=z)\/(¬(-32768<=z/\z<=32767)/\fldN z=0/\fldE z=4):=by
  by_cases h1:-32768<=z/\z<=32767
  . have e1:flB z=true:=by unfold flB;exact decide_eq_true (by omega)
    exact .inl ⟨h1.1,h1.2,by unfold fldN;rw[if_pos h1],by unfold fldE;rw[if_pos h1],e1,by unfold flN;rw[if_pos e1]⟩
  . exact .inr ⟨h1,by unfold fldN;rw[if_neg h1],by unfold fldE;rw[if_neg h1]⟩
 rcases e34 with ⟨h1,h2,e3,e4,e1,e2⟩|⟨h1,e3,e4⟩
 . rw[e3,e4]
   have E1:Hid (flB z=true/\flN z=z):=⟨e1,e2⟩
   clear e1 e2 e3 e4
   go_enter Tryz.func67,Tryz.ntmps67
   go_wp2_with fail
   refine(ze1 k q _ _ (hX.below (al1 _)) hk hk2).mono ?_
   rintro e u1 ⟨rfl,hb1⟩
   obtain⟨B1,hbW⟩:=zeu hb1
   clear hb1 hX;rw[HZ.out,E1.out.1,E1.out.2];go_wp2
   go_ret2
   exact⟨rfl,hbW⟩
 rw[e3,e4];clear e3 e4
 have h3:z < -32768\/32767<z:=by omega
 clear h1
 by_cases h2:flB z=true
 . have e2:flN z=z:=by unfold flN;rw[if_pos h2]
   have e5:-9223372036854775808<=z/\z<9223372036854775808:=by unfold flB at h2;simpa using h2
   have E1:Hid (flB z=true/\flN z=z):=⟨h2,e2⟩
   have g1:(wrap64 (IntKind.i16.wrap z) != z)=true:=by
    rw[zh4 z]
    simp
    unfold wrap64
    split <;> omega
   clear h2 e2
   go_enter Tryz.func67,Tryz.ntmps67
   go_wp2_with fail
   refine(ze1 k q _ _ (hX.below (al1 _)) hk hk2).mono ?_
   rintro e u1 ⟨rfl,hb1⟩
   obtain⟨B1,hbW⟩:=zeu hb1
   clear hb1 hX;rw[HZ.out,E1.out.1,E1.out.2];go_wp2
   go_ret2
   exact⟨rfl,hbW⟩
 . have e1:flB z=false:=by simpa using h2
   have E1:Hid (flB z=false):=e1
   clear h2 e1
   go_enter Tryz.func67,Tryz.ntmps67
   go_wp2_with fail
   refine(ze1 k q _ _ (hX.below (al1 _)) hk hk2).mono ?_
   rintro e u1 ⟨rfl,hb1⟩
   obtain⟨B1,hbW⟩:=zeu hb1
   clear hb1 hX;rw[HZ.out,E1.out]
   generalize flN z=y
   go_wp2
   go_ret2
   exact⟨rfl,hbW⟩
def nr(z:Int):Bool:=decide (-1099511627776<=z/\z<=1099511627776)
theorem zwo(b:Nat)(zs:LI)(w:World)(hl:zs.length<=4)(hc:∀i,i<zs.length->w.cell? ⟨b,i,none⟩=some (.int .i64 (zs.getD i 0))) :
 Calls Tryz.prog 289 #[.slice (some ⟨b,0,none⟩) zs.length 4] w fun e w'=>e=.returned (.bool (zs.all nr))/\w=w':=by
 have HC:Hid (∀i,i<zs.length->w.cell? ⟨b,i,none⟩=some (.int .i64 (zs.getD i 0))):=hc
 clear hc
 go_enter Tryz.func289,Tryz.ntmps289
 go_wp2
 go_loop [7] (fun i=>∃k:Nat,k<=zs.length/\i=.int .i64 k/\(∀j,j<k->nr (zs.getD j 0)=true)) (fun i=>zs.length-(intOf i).toNat)
 case atStart=>exact⟨0,Nat.zero_le _,rfl,fun j hj=>by omega⟩
 case round =>
  obtain⟨k,hk,rfl,hal⟩:=hrel
  have HA:Hid (∀j,j<k->nr (zs.getD j 0)=true):=hal
  clear hal
  by_cases hkn:k<zs.length
  . have c1:=HC.out k hkn
    obtain⟨x,hx⟩:∃x,zs.getD k 0=x:=⟨_,rfl⟩
    rw[hx]at c1
    have HX:Hid (zs.getD k 0=x):=hx
    clear hx
    have hm:x∈zs:=by
     have:=HX.out
     rw[List.getD_eq_getElem?_getD,List.getElem?_eq_getElem hkn]at this
     simp at this
     exact this ▸ List.getElem_mem hkn
    by_cases h1:x < -1099511627776
    . go_wp2
      go_ret
      exact⟨za2 (by
       symm
       rw[List.all_eq_false]
       exact⟨x,hm,by simp[nr];omega⟩),rfl⟩
    . by_cases h2:1099511627776<x
      . go_wp2
        go_ret
        exact⟨za2 (by
         symm
         rw[List.all_eq_false]
         exact⟨x,hm,by simp[nr];omega⟩),rfl⟩
      . go_wp2
        go_round
        case rel=>exact⟨k+1,by omega,by go_num,fun j hj=>by
         rcases Nat.lt_or_ge j k with h|h
         . exact HA.out j h
         . have:j=k:=by omega
           subst this;rw[HX.out]
           simp[nr]
           omega⟩
        case measure=>simp[intOf];omega
  . obtain rfl:k=zs.length:=by omega
    go_wp2
    go_ret
    exact⟨za2 (by
     symm
     rw[List.all_eq_true]
     intro x hx
     obtain⟨j,hj,rfl⟩:=List.getElem_of_mem hx
     have:=HA.out j hj
     rwa [List.getD_eq_getElem?_getD,List.getElem?_eq_getElem hj]at this),rfl⟩
open Go.Lib Classical
def Two(w:World)(n:Bool)(a:OA)(c:Nat)(xs:LN)(a':OA)(c':Nat)(ys:LN)(m:Bool)(b:OA)(d:Nat)(ps:LN)(b':OA)(d':Nat)(qs:LN)(q:Rat):Prop :=
 Rd w a c xs/\Rd w a' c' ys/\Rd w b d ps/\Rd w b' d' qs/\Fmd n xs ys/\xs.length<=9/\ys.length<=9/\qv n xs ys=q/\Fmd m ps qs/\ps.length<=9/\qs.length<=9/\qv m ps qs=q
def nr4(a b n d:Int):Bool:=[a,b,n,d].all nr
def btw(a b n d:Int):Rat:=if nr4 a b n d=true then (a:Rat)+((b-a:Int):Rat)*((n:Rat)/(d:Rat))else 0
theorem z1b{a b n d:Int}(h:nr4 a b n d=true):(-1099511627776<=a/\a<=1099511627776)/\(-1099511627776<=b/\b<=1099511627776)/\(-1099511627776<=n/\n<=1099511627776)/\(-1099511627776<=d/\d<=1099511627776):=by
 simp[nr4,nr]at h
 omega
theorem zsu(a b n d:Int)(t:TypeId)(g:Nat)(w:World)(h:w.heap[g]?=some (.cells #[.int .i64 a,.int .i64 b,.int .i64 n,.int .i64 d] t (0,0))) :
 Calls Tryz.prog 289 #[.slice (some ⟨g,0,none⟩) 4 4] w fun e w'=>e=.returned (.bool (nr4 a b n d))/\w=w':=by
 refine zwo g [a,b,n,d] _ (by simp) ?_
 intro i hi
 simp at hi
 rcases (show i=0\/i=1\/i=2\/i=3 by omega)with rfl|rfl|rfl|rfl <;> simp[World.cell?,h]
theorem zhe(a b n d:Int)(w:World)(ha:-9223372036854775808<=a/\a<9223372036854775808)(hb:-9223372036854775808<=b/\b<9223372036854775808)(hn:-9223372036854775808<=n/\n<9223372036854775808)(hd:-9223372036854775808<=d/\d<9223372036854775808) :
 Calls Tryz.prog 288 #[.int .i64 a,.int .i64 b,.int .i64 n,.int .i64 d] w fun e w'=>∃v',e=.returned v'/\Fr w' v' 7 (btw a b n d)/\Below w.heap.size w w':=by
 go_enter Tryz.func288,Tryz.ntmps288
 go_wp2_with fail
 obtain⟨W,hW,B1,R1,hbW⟩:∃W,W=((w.alloc (.cells #[.bool false,.slice none 0 0,.slice none 0 0] 125)).alloc (.cells #[.int .i64 a,.int .i64 b,.int .i64 n,.int .i64 d] 3))/\Box 125 W w.heap.size (.bool false) (.slice none 0 0) (.slice none 0 0)/\W.heap[w.heap.size+1]?=some (.cells #[.int .i64 a,.int .i64 b,.int .i64 n,.int .i64 d] 3 (0,0))/\Below w.heap.size w W :=
  ⟨_,rfl,(Box.new _ _ _ _ _).alloc _,by have:=heap_alloc_new (w.alloc (.cells #[.bool false,.slice none 0 0,.slice none 0 0] 125)) (.cells #[.int .i64 a,.int .i64 b,.int .i64 n,.int .i64 d] 3);simpa using this,al2 _ _⟩
 rw[<-hW];clear hW
 refine(zsu a b n d _ _ _ R1).mono ?_
 rintro e u0 ⟨rfl,rfl⟩;clear R1
 by_cases h4:nr4 a b n d=true
 . obtain⟨ra,rb,rn,rd⟩:=z1b h4
   have HB:Hid (btw a b n d=(a:Rat)+((b-a:Int):Rat)*((n:Rat)/(d:Rat))):=by
    show btw a b n d=_
    unfold btw
    rw[if_pos h4]
   rw[h4];clear h4
   go_wp2_with fail
   refine(zae (b-a) _ (by omega) (by omega)).mono ?_
   rintro e u1 ⟨v1,rfl,hF1,hb1⟩;replace B1:=B1.below hb1
   replace hbW:Below w.heap.size w u1:=hbW.trans (hb1.mono hbW.size)
   clear hb1
   go_wp2_with fail
   refine(zi2 n d _ (by omega) (by omega) (by omega) (by omega)).mono ?_
   rintro e u2 ⟨v2,rfl,hF2,hb2⟩;replace B1:=B1.below hb2;replace hF1:=hF1.below hb2
   replace hbW:Below w.heap.size w u2:=hbW.trans (hb2.mono hbW.size)
   clear hb2
   go_wp2_with fail
   refine(zfv 2 2 _ _ _ _ _ hF1.ct hF2.ct (by decide) (by decide) (by decide) (by decide)).mono ?_
   rintro e u3 ⟨v3,rfl,hF3,hb3⟩;replace B1:=B1.below hb3
   replace hbW:Below w.heap.size w u3:=hbW.trans (hb3.mono hbW.size)
   clear hb3 hF1 hF2
   have hX:=hF3.ct
   obtain⟨n3,x3,y3,⟨a3,c3,b3,d3,rfl,_,_⟩,_⟩:=hF3
   have hs:=B1.lt
   go_wp2_with fail
   obtain⟨W2,hW2,B2,hb3⟩:∃W2,W2=u3.alloc (.cells #[.bool n3,.slice a3 x3.length c3,.slice b3 y3.length d3] 125)/\Box 125 W2 u3.heap.size (.bool n3) (.slice a3 x3.length c3) (.slice b3 y3.length d3)/\Below u3.heap.size u3 W2:=⟨_,rfl,Box.new _ _ _ _ _,al1 _⟩
   rw[<-hW2];clear hW2;replace B1:=B1.below hb3;replace hX:=hX.below hb3
   replace hbW:Below w.heap.size w W2:=hbW.trans (hb3.mono hbW.size)
   clear hb3
   have hne:u3.heap.size≠w.heap.size:=by omega
   clear hs
   generalize u3.heap.size=g at B2 hne ⊢
   obtain⟨p1,p2,p3,_⟩:=B2.cells
   go_region_held3 (fun u=>u.cell? ⟨g,0,none⟩=some (.bool n3)/\u.cell? ⟨g,1,none⟩=some (.slice a3 x3.length c3)/\u.cell? ⟨g,2,none⟩=some (.slice b3 y3.length d3)) (first | (go_keep;done) | (refine⟨(zab hne).trans p1,(zab hne).trans p2,(zab hne).trans p3⟩))
    (first
     | (go_at_call 112
        refine(zae a _ ?_ ?_).mono ?_
        . omega
        . omega
        rintro e u4 ⟨v4,rfl,hF4,hb4⟩
        replace hb4:Below W2.heap.size W2 u4:=Below.drew1.trans hb4
        replace hX:=hX.below hb4;replace B1:=B1.below hb4;replace B2:=B2.below hb4
        replace hbW:Below w.heap.size w u4:=hbW.trans (hb4.mono hbW.size)
        clear hb4 p1 p2 p3
        obtain⟨p1,p2,p3,_⟩:=B2.cells)
     | (go_at_call 111
        refine(znq 2 4 _ _ _ _ _ hF4.ct hX (by decide) (by decide) (by decide) (by decide)).mono ?_
        rintro e u5 ⟨v5,rfl,hF5,hb5⟩;replace B1:=B1.below hb5;replace B2:=B2.below hb5
        replace hbW:Below w.heap.size w u5:=hbW.trans (hb5.mono hbW.size)
        replace hF5:=hF5.eq HB.out.symm
        clear hb5 hF4 hX p1 p2 p3;obtain⟨p1,p2,p3,_⟩:=B2.cells;obtain⟨q1,q2,q3,q4,q5,q6⟩:=B1.cells
        have hs:=B1.lt
        obtain⟨n',xs',ys',⟨e1,f1,e2,f2,rfl,hx',hy'⟩,hF⟩:=hF5))
   go_wp2
   refine ret3 (v:=.agg #[.bool n',.slice e1 xs'.length f1,.slice e2 ys'.length f2]) B1 rfl (fun U hU=>by obtain⟨r1,r2,r3,_⟩:=hU.cells;simp[results,Tryz.results288,go_sem,r1,r2,r3]) (fun U hU hK=>⟨_,rfl,⟨_,_,_,⟨_,_,_,_,rfl,hK _ _ _ hx',hK _ _ _ hy'⟩,hF⟩,hU _ _ hbW (by omega)⟩)
 . have e1:nr4 a b n d=false:=by simpa using h4
   have HB:Hid (btw a b n d=0):=by
    show btw a b n d=_
    unfold btw
    rw[if_neg h4]
   rw[e1];clear h4 e1
   go_wp2_with fail
   refine(zae 0 _ (by decide) (by decide)).mono ?_
   rintro e u1 ⟨v1,rfl,hF1,hb1⟩;replace B1:=B1.below hb1
   replace hbW:Below w.heap.size w u1:=hbW.trans (hb1.mono hbW.size)
   clear hb1
   have hs:=B1.lt
   obtain⟨q1,q2,q3,q4,q5,q6⟩:=B1.cells
   replace hF1:=(hF1.eq (r:=btw a b n d) (by rw[HB.out];rfl)).le (show 2<=7 by decide)
   obtain⟨n',xs',ys',⟨b,d,b',d',rfl,hx',hy'⟩,hF⟩:=hF1;go_wp2
   refine ret3 (v:=.agg #[.bool n',.slice b xs'.length d,.slice b' ys'.length d']) B1 rfl (fun U hU=>by obtain⟨r1,r2,r3,_⟩:=hU.cells;simp[results,Tryz.results288,go_sem,r1,r2,r3]) (fun U hU hK=>⟨_,rfl,⟨_,_,_,⟨_,_,_,_,rfl,hK _ _ _ hx',hK _ _ _ hy'⟩,hF⟩,hU _ _ hbW (by omega)⟩)
def Byt(xs:LN):Prop:=∀x∈xs,x<256
theorem Byt.nil:Byt []:=by intro x hx;cases hx
theorem Byt.append{xs ys:LN}(h:Byt xs)(k:Byt ys):Byt (xs++ys):=by
 intro x hx;rcases List.mem_append.1 hx with hx | hx
 . exact h x hx
 . exact k x hx
theorem Byt.take{xs:LN}(h:Byt xs)(n:Nat):Byt (xs.take n):=fun x hx=>h x (List.mem_of_mem_take hx)
theorem Byt.drop{xs:LN}(h:Byt xs)(n:Nat):Byt (xs.drop n):=fun x hx=>h x (List.mem_of_mem_drop hx)
theorem Byt.getD{xs:LN}(h:Byt xs)(i:Nat):xs.getD i 0<256:=by
 rw[List.getD_eq_getElem?_getD]
 by_cases hi:i<xs.length
 . rw[List.getElem?_eq_getElem hi];exact h _ (List.getElem_mem hi)
 . rw[List.getElem?_eq_none (by omega)];decide
def Y(n:Nat):Value:=.int .u8 (n:Int)
def Rb(w:World)(a:OA)(cap:Nat)(xs:LN):Prop :=
 Byt xs/\xs.length<=cap/\cap<=maxLen/\(a=none->cap=0) /\
 (xs=[]\/∃b off,a=some ⟨b,off,none⟩/\b<w.heap.size/\∀i,i<xs.length->w.cell? ⟨b,off+i,none⟩=some (.int .u8 (xs.getD i 0:Nat)))
theorem Rb.lim{w:World}{a:OA}{cap:Nat}{xs:LN}(h:Rb w a cap xs):Byt xs:=h.1
theorem Rb.le{w:World}{a:OA}{cap:Nat}{xs:LN}(h:Rb w a cap xs):xs.length<=cap:=h.2.1
theorem Rb.cap{w:World}{a:OA}{cap:Nat}{xs:LN}(h:Rb w a cap xs):cap<=maxLen:=h.2.2.1
def Fb(w:World)(a:OA)(xs:LN):Prop :=
 xs=[]\/∃b off,a=some ⟨b,off,none⟩/\b<w.heap.size/\∀i,i<xs.length->w.cell? ⟨b,off+i,none⟩=some (.int .u8 (xs.getD i 0:Nat))
theorem Rb.fm{w:World}{a:OA}{cap:Nat}{xs:LN}(h:Rb w a cap xs):Fb w a xs:=h.2.2.2.2
theorem Fb.at{w wr:World}{a:OA}{xs:LN}(h:Fb w a xs)(hb:Below w.heap.size w wr)(k:Nat)(hk:k<xs.length) :
 ∃b off,a=some ⟨b,off,none⟩/\b<w.heap.size/\wr.cell? ⟨b,off+k,none⟩=some (.int .u8 (xs.getD k 0:Nat)):=by
 rcases h with rfl|⟨b,off,h1,h2,h3⟩
 . simp at hk
 . exact⟨b,off,h1,h2,(hb.cell (p:=⟨b,off+k,none⟩) h2).trans (h3 k hk)⟩
theorem Rb.keep{w w':World}{a:OA}{cap:Nat}{xs:LN}(h:Rb w a cap xs)(hs:w.heap.size<=w'.heap.size)
    (hb:∀b,b<w.heap.size->(∃o,a=some ⟨b,o,none⟩)->w'.heap[b]?=w.heap[b]?):Rb w' a cap xs:=by
 obtain⟨h1,h2,h3,h5,h4⟩:=h
 refine⟨h1,h2,h3,h5,?_⟩
 rcases h4 with h4|⟨b,off,e,hb1,hc⟩
 . exact .inl h4
 . exact .inr ⟨b,off,e,Nat.lt_of_lt_of_le hb1 hs,fun i hi=>(World.cell?_of_block (w:=w) (a:=⟨b,off+i,none⟩) (hb b hb1 ⟨off,e⟩)).trans (hc i hi)⟩
theorem Rb.below{w w':World}{a:OA}{cap:Nat}{xs:LN}(h:Rb w a cap xs)(hb:Below w.heap.size w w'):Rb w' a cap xs :=
 h.keep hb.size fun b hb1 _=>hb.block b hb1
theorem Rb.nil(w:World)(a:OA)(cap:Nat)(h:cap<=maxLen)(h0:a=none->cap=0):Rb w a cap []:=⟨Byt.nil,Nat.zero_le _,h,h0,.inl rfl⟩
def Rw(e:TypeId)(base:Nat)(w:World)(a:OA)(cap:Nat)(xs:LN):Prop :=
 Byt xs/\w.ownsRow base e 1 (.slice a xs.length cap) xs.length (xs.map Y)
theorem Rw.rd{e:TypeId}{base:Nat}{w:World}{a:OA}{cap:Nat}{xs:LN}(h:Rw e base w a cap xs):Rb w a cap xs:=by
 obtain⟨hl,h⟩:=h
 rcases h.2 with ⟨hv,h0⟩|⟨g,cap',cur,hv,hb,hg,hc1,hc2,hc3,ht⟩
 . have:xs=[]:=List.length_eq_zero_iff.1 h0
   subst this
   simp at hv
   exact Rb.nil _ _ _ (by rw[hv.2];exact Nat.zero_le _) (fun _=>hv.2)
 . simp at hv
   obtain⟨rfl,rfl⟩:=hv
   refine⟨hl,hc1,hc2,(by simp),.inr ⟨g,0,rfl,(Array.getElem?_eq_some_iff.1 hg).1,fun i hi=>?_⟩⟩
   have:=h.cells (g:=g) rfl i (Y (xs.getD i 0)) (by simp[List.getD,hi])
   have zb1:(⟨g,0,none⟩:Addr).add i=⟨g,0+i,none⟩:=by unfold Addr.add;split <;> simp_all
   rw[zb1]at this;exact this
theorem zix{w:World}{base base':Nat}{e:TypeId}{size:Nat}{v:Value}{n:Nat}{xs:LV}(h:w.ownsRow base e size v n xs)(hb:base'<=base):w.ownsRow base' e size v n xs:=by
 refine⟨h.1,?_⟩
 rcases h.2 with h0|⟨g,cap,cur,h1,h2,h3⟩
 . exact .inl h0
 . exact .inr ⟨g,cap,cur,h1,Nat.le_trans hb h2,h3⟩
theorem Rw.mono{e:TypeId}{base base':Nat}{w:World}{a:OA}{cap:Nat}{xs:LN}(h:Rw e base w a cap xs)(hb:base'<=base):Rw e base' w a cap xs:=⟨h.1,zix h.2 hb⟩
theorem Rw.of{e:TypeId}{base:Nat}{w:World}{v:Value}{n:Nat}{xs:LN}(hl:Byt xs)(h:w.ownsRow base e 1 v n (xs.map Y)):∃a cap,v=.slice a xs.length cap/\Rw e base w a cap xs:=by
 have hn:n=xs.length:=by have:=h.1;simp at this;omega
 subst hn
 rcases h.2 with ⟨hv,h0⟩|⟨g,cap,cur,hv,_⟩
 . exact⟨none,0,by rw[hv,h0],hl,by rw[h0]at h ⊢;rw[hv]at h;exact h⟩
 . subst hv;exact⟨_,cap,rfl,hl,h⟩
theorem zv8{w:World}{g:Nat}{zs:LN}{e:TypeId}(h:w.heap[g]?=some (.cells (zs.map Y).toArray e (0,0)))(hl:Byt zs)(off n cap:Nat)(h1:off+n<=zs.length)(h2:n<=cap)(h3:cap<=maxLen) :
 Rb w (some ⟨g,off,none⟩) cap ((zs.drop off).take n):=by
 refine⟨(hl.drop off).take n,by simp;omega,h3,(by simp),.inr ⟨g,off,rfl,(Array.getElem?_eq_some_iff.1 h).1,fun i hi=>?_⟩⟩
 simp at hi
 rw[cell_of_row w g (off+i) _ e (0,0) h]
 simp[List.getD,Y,show off+i<zs.length by omega,show i<n by omega]
theorem zr7(w:World)(e:TypeId)(zs:LN)(cs:Array Value)(hc:cs=(zs.map Y).toArray)(hl:Byt zs)(hm:zs.length<=maxLen):Rb (w.alloc (.cells cs e)) (some ⟨w.heap.size,0,none⟩) zs.length zs:=by
 subst hc
 have:=zv8 (heap_alloc_new w (.cells (zs.map Y).toArray e)) hl 0 zs.length zs.length (by omega) (Nat.le_refl _) hm
 simpa using this
theorem zsm(xs:LN):∀u∈xs.map Y,u.oneCell'=true:=by
 intro u hu
 obtain⟨x,_,rfl⟩:=List.mem_map.1 hu
 rfl
section
variable {P:Program} {w:World} {ops:Array Oper} {rest:List Oper} {o:Oper} {a:Act} {Q:Exit->Act->World->Prop}
theorem zc4(hgd:o.guard=none)(s x:Operand)(t:TypeId)(ho:o.op=.call { callee:=.builtin .append,args:=#[s,x],argTypes:=#[t,t] })
    (base:Nat) (e:TypeId) (i:TypeInfo) (ht:P.underlying t=some (.slice e)) (hi:P.info? e=some i) (hz:i.zero=some (.int .u8 0)) (hsize:i.size=1) (hby:i.bytes=1)
    (v:Value) (n:Nat) (ys:LN) (hs:a.eval s=v) (hown:w.ownsRow base e 1 v n (ys.map Y))
    (ad:OA) (c m:Nat) (zs:LN) (hx:a.eval x=.slice ad m c) (hm:m=zs.length) (hrd:Rb w ad c zs) (hlen:n+zs.length<=2000000000) (hbase:base<=w.heap.size)
    (h:∀v' w',w'.ownsRow base e 1 v' (n+zs.length) ((ys++zs).map Y)->w.grownBy w' v.ownBlock->(v'.ownBlock=v.ownBlock\/v'.ownBlock=some w.heap.size)->wpList P ops Q rest (a.put o.dst v') w'):wpList P ops Q (o::rest) a w:=by
 subst hm
 cases ad with
 | none =>
  have hc:c=0:=hrd.2.2.2.1 rfl
  have hzs:zs=[]:=by
   rcases hrd.2.2.2.2 with h0|⟨b,off,e',_⟩
   . exact h0
   . cases e'
  subst hzs;subst hc
  refine wpList_append_own_none hgd s x t ho base e i 1 ht hi v n (ys.map Y) hs hown hx (h v w (by simpa using hown) (World.grownBy.refl w _) (.inl rfl))
 | some ad =>
  refine wpList_append_own_at w hgd s x t ho base e i (.int .u8 0) 1 1 ht hi hz hsize hby rfl (by decide) v n (ys.map Y) hs hown ad zs.length c (zs.map Y) hx (by simp) ?_ (zsm zs) (by unfold maxLen;omega) (by omega) hbase ?_
  . intro j u hj
    rcases hrd.2.2.2.2 with rfl|⟨b,off,e',hb,hc⟩
    . simp at hj
    . simp at e';subst e'
      have hjl:j<zs.length:=by
       rcases Nat.lt_or_ge j zs.length with h1|h1
       . exact h1
       . rw[List.getElem?_eq_none (by simpa using h1)]at hj;cases hj
      have zb1:(⟨b,off,none⟩:Addr).add j=⟨b,off+j,none⟩:=by unfold Addr.add;split <;> simp_all
      rw[zb1,hc j hjl]
      rw[List.getElem?_map,List.getElem?_eq_getElem hjl]at hj
      simp at hj;rw[<-hj];simp[List.getD,hjl,Y]
  . intro v' w' h1 h2 _ h3
    exact h v' w' (by rw[List.map_append];exact h1) h2 h3
end
structure Keep(G:Nat->Prop)(w w':World):Prop where
 os:w'.os=w.os
 tape:w'.tape=w.tape
 output:w'.output=w.output
 size:w.heap.size<=w'.heap.size
 block:∀k,G k->w'.heap[k]?=w.heap[k]?
theorem Keep.refl(G:Nat->Prop)(w:World):Keep G w w:=⟨rfl,rfl,rfl,Nat.le_refl _,fun _ _=>rfl⟩
theorem Keep.trans{G:Nat->Prop}{a b c:World}(h:Keep G a b)(k:Keep G b c):Keep G a c :=
 ⟨k.os.trans h.os,k.tape.trans h.tape,k.output.trans h.output,Nat.le_trans h.size k.size,fun i hi=>(k.block i hi).trans (h.block i hi)⟩
theorem Keep.mono{G G':Nat->Prop}{w w':World}(h:Keep G w w')(hG:∀k,G' k->G k):Keep G' w w':=⟨h.os,h.tape,h.output,h.size,fun k hk=>h.block k (hG k hk)⟩
theorem Keep.of_below{G:Nat->Prop}{w w':World}{B:Nat}(h:Below B w w')(hG:∀k,G k->k<B):Keep G w w':=⟨h.os,h.tape,h.output,h.size,fun k hk=>h.block k (hG k hk)⟩
theorem Keep.below{G:Nat->Prop}{w w':World}{B:Nat}(h:Keep G w w')(hG:∀k,k<B->G k):Below B w w':=⟨h.os,h.tape,h.output,h.size,fun k hk=>h.block k (hG k hk)⟩
theorem Keep.alloc{G:Nat->Prop}{a w:World}(h:Keep G a w)(hG:∀k,G k->k<w.heap.size)(o:Obj):Keep G a (w.alloc o) :=
 h.trans (Keep.of_below ((Below.refl w.heap.size w).alloc (Nat.le_refl _) o) hG)
theorem Keep.setCell{G:Nat->Prop}{a w:World}(h:Keep G a w){p:Addr}(hp:¬G p.block)(u:Value):Keep G a (w.setCell p u) :=
 h.trans ⟨rfl,rfl,rfl,by simp[World.setCell],fun k hk=>Below.heap_setCell _ _ _ _ (fun e=>hp (e ▸ hk))⟩
theorem Keep.grown{G:Nat->Prop}{a w w':World}{row:Option Nat}(h:Keep G a w)(hg:w.grownBy w' row)(hG:∀k,G k->k<w.heap.size)(hr:∀k,row=some k->¬G k):Keep G a w' :=
 h.trans ⟨hg.os,hg.tape,hg.output,hg.size,fun k hk=>hg.block k (hG k hk) (fun e=>hr k e.symm hk)⟩
theorem Keep.cell{G:Nat->Prop}{w w':World}(h:Keep G w w'){p:Addr}(hp:G p.block):w'.cell? p=w.cell? p:=World.cell?_of_block (w:=w) (h.block p.block hp)
theorem Rb.kept{G:Nat->Prop}{w w':World}{a:OA}{cap:Nat}{xs:LN}(h:Rb w a cap xs)(hk:Keep G w w')(hG:∀b o,a=some ⟨b,o,none⟩->G b):Rb w' a cap xs :=
 h.keep hk.size fun b _ ⟨o,e⟩=>hk.block b (hG b o e)
def I64(n:Int):Prop:=-9223372036854775808<=n/\n<=9223372036854775807
theorem zaa{a b:Bool}(h:a=b):Ending.returned (.bool a)=.returned (.bool b):=by rw[h]
theorem z33{a b:Int}{k:IntKind}(h:a=b):Ending.returned (.int k a)=.returned (.int k b):=by rw[h]
theorem bl1{w:World}(o:Obj):Below w.heap.size w (w.alloc o):=(Below.refl _ _).alloc (Nat.le_refl _) o
theorem bl2{w:World}(o o':Obj):Below w.heap.size w ((w.alloc o).alloc o'):=(bl1 o).alloc (by simp) o'
def fdB(n:Int):Bool:=decide (-32768<=n/\n<=32767)
theorem zce{n:Int}:fdB n=true ↔ -32768<=n/\n<=32767:=by unfold fdB;exact decide_eq_true_iff
def nbT(t:List Bool)(f:Nat->Nat)(m:Nat):Option Nat:=((List.range m).map f).find? (fun j=>t.getD j false)
theorem zei(t:List Bool)(f:Nat->Nat)(m:Nat):nbT t f (m+1)=(nbT t f m).or (if t.getD (f m) false=true then some (f m)else none):=by
 unfold nbT
 rw[List.range_succ,List.map_append,List.find?_append]
 by_cases h:t.getD (f m) false=true
 . simp only[List.map_cons,List.map_nil,List.find?_cons,h,if_true]
 . have h':t.getD (f m) false=false:=by simpa using h
   simp only[List.map_cons,List.map_nil,List.find?_cons,List.find?_nil,h']
   rfl
theorem zny{t:List Bool}{f:Nat->Nat}{m:Nat}(h:∀j,j<m->t.getD (f j) false=false):nbT t f m=none:=by
 induction m with
 | zero=>rfl
 | succ m ih=>rw[zei,ih (fun j hj=>h j (by omega)),h m (by omega)];rfl
theorem zwp{t:List Bool}{f:Nat->Nat}{m k:Nat}(hk:k<m)(h:∀j,j<k->t.getD (f j) false=false)(ht:t.getD (f k) false=true):nbT t f m=some (f k):=by
 induction m with
 | zero=>omega
 | succ m ih =>
  rw[zei]
  by_cases hkm:k<m
  . rw[ih hkm];rfl
  . obtain rfl:k=m:=by omega
    rw[zny h,if_pos ht];rfl
theorem znx(t:List Bool)(f:Nat->Nat)(m:Nat):(nbT t f m=none/\∀j,j<m->t.getD (f j) false=false)\/∃k,k<m/\nbT t f m=some (f k)/\t.getD (f k) false=true:=by
 induction m with
 | zero=>exact .inl ⟨rfl,fun j hj=>by omega⟩
 | succ m ih =>
  rcases ih with ⟨h1,h2⟩|⟨k,hk,h1,h2⟩
  . by_cases hm:t.getD (f m) false=true
    . exact .inr ⟨m,by omega,by rw[zei,h1,if_pos hm];rfl,hm⟩
    . refine .inl ⟨by rw[zei,h1,if_neg hm];rfl,fun j hj=>?_⟩
      by_cases hjm:j<m
      . exact h2 j hjm
      . obtain rfl:j=m:=by omega
        simpa using hm
  . exact .inr ⟨k,by omega,by rw[zei,h1];rfl,h2⟩
def wyA(n i k:Nat):Nat:=if k<i then i-1-k else i+n-1-k
def wyB(n i k:Nat):Nat:=if i+1+k<n then i+1+k else i+1+k-n
theorem mod2{x n:Nat}(h:x<2*n):x%n=if x<n then x else x-n:=by
 by_cases hx:x<n
 . rw[if_pos hx,Nat.mod_eq_of_lt hx]
 . rw[if_neg hx,Nat.mod_eq_sub_mod (by omega),Nat.mod_eq_of_lt (by omega)]
theorem zqp{n i k:Nat}(hi:i<n)(hk:k<n):wyA n i k<n:=by unfold wyA;split <;> omega
theorem zqo{n i k:Nat}(hi:i<n)(hk:k<n):wyB n i k<n:=by unfold wyB;split <;> omega
theorem zyl{n i k:Nat}(hi:i<n)(hk:k<n-1):wyA n i k≠i:=by unfold wyA;split <;> omega
theorem zyk{n i k:Nat}(hi:i<n)(hk:k<n-1):wyB n i k≠i:=by unfold wyB;split <;> omega
theorem zzw{n i:Nat}(hi:i<n):wyA n i (n-1)=i:=by unfold wyA;split <;> omega
theorem zzv{n i:Nat}(hi:i<n):wyB n i (n-1)=i:=by unfold wyB;split <;> omega
theorem zu1{n i:Nat}(hi:i<n):(i+(n-1))%n=wyA n i 0:=by rw[mod2 (by omega)];unfold wyA;split <;> split <;> omega
theorem zuy{n i:Nat}(hi:i<n):(i+1)%n=wyB n i 0:=by rw[mod2 (by omega)];unfold wyB;rw[Nat.add_zero]
theorem zu2{n i k:Nat}(hi:i<n)(hk:k+1<n):(wyA n i k+(n-1))%n=wyA n i (k+1):=by
 rw[mod2 (by have:=zqp hi (show k<n by omega);omega)]
 unfold wyA
 split <;> split <;> split <;> omega
theorem zuz{n i k:Nat}(hi:i<n)(hk:k+1<n):(wyB n i k+1)%n=wyB n i (k+1):=by
 rw[mod2 (by have:=zqo hi (show k<n by omega);omega)]
 unfold wyB
 split <;> split <;> split <;> omega
theorem zu3{n i j:Nat}(hi:i<n)(hj:j<n)(hne:j≠i):∃k,k<n-1/\wyA n i k=j:=by
 by_cases h:j<i
 . exact⟨i-1-j,by omega,by unfold wyA;rw[if_pos (by omega)];omega⟩
 . exact⟨i+n-1-j,by omega,by unfold wyA;rw[if_neg (by omega)];omega⟩
theorem zu0{n i j:Nat}(hi:i<n)(hj:j<n)(hne:j≠i):∃k,k<n-1/\wyB n i k=j:=by
 by_cases h:j<i
 . exact⟨j+n-1-i,by omega,by unfold wyB;rw[if_neg (by omega)];omega⟩
 . exact⟨j-1-i,by omega,by unfold wyB;rw[if_pos (by omega)];omega⟩
def nbA(t:List Bool)(i:Nat):Option Nat:=nbT t (wyA t.length i) (t.length-1)
def nbB(t:List Bool)(i:Nat):Option Nat:=nbT t (wyB t.length i) (t.length-1)
theorem zwq{t:List Bool}{i:Nat}(hi:i<t.length):(nbA t i=none/\∀j,j<t.length->j≠i->t.getD j false=false)\/∃a,a<t.length/\a≠i/\nbA t i=some a/\t.getD a false=true:=by
 rcases znx t (wyA t.length i) (t.length-1)with ⟨h1,h2⟩|⟨k,hk,h1,h2⟩
 . refine .inl ⟨h1,fun j hj hne=>?_⟩
   obtain⟨k,hk,e⟩:=zu3 hi hj hne
   rw[<-e]
   exact h2 k hk
 . exact .inr ⟨_,zqp hi (by omega),zyl hi hk,h1,h2⟩
theorem znz{t:List Bool}{i:Nat}(hi:i<t.length):(nbB t i=none/\∀j,j<t.length->j≠i->t.getD j false=false)\/∃a,a<t.length/\a≠i/\nbB t i=some a/\t.getD a false=true:=by
 rcases znx t (wyB t.length i) (t.length-1)with ⟨h1,h2⟩|⟨k,hk,h1,h2⟩
 . refine .inl ⟨h1,fun j hj hne=>?_⟩
   obtain⟨k,hk,e⟩:=zu0 hi hj hne
   rw[<-e]
   exact h2 k hk
 . exact .inr ⟨_,zqo hi (by omega),zyk hi hk,h1,h2⟩
theorem nbAB{t:List Bool}{i:Nat}(hi:i<t.length):(nbA t i=none/\nbB t i=none/\∀j,j<t.length->j≠i->t.getD j false=false)\/∃a b,nbA t i=some a/\nbB t i=some b/\a<t.length/\b<t.length/\a≠i/\b≠i/\t.getD a false=true/\t.getD b false=true:=by
 rcases zwq hi with ⟨h1,h2⟩|⟨a,h1,h2,h3,h4⟩
 . rcases znz hi with ⟨k1,k2⟩|⟨b,k1,k2,k3,k4⟩
   . exact .inl ⟨h1,k1,h2⟩
   . rw[h2 b k1 k2]at k4;cases k4
 . rcases znz hi with ⟨k1,k2⟩|⟨b,k1,k2,k3,k4⟩
   . rw[k2 a h1 h2]at h4;cases h4
   . exact .inr ⟨a,b,h3,k3,h1,k1,h2,k2,h4,k4⟩
def segQ(a x b y c:Int):Rat:=if c<=a then (x:Rat)else if b<=c then (y:Rat)else btw x y (c-a) (b-a)
def infQ(a x b y c:Int):Rat:=if a=b then (if x=y then (x:Rat)else 0)else if a<b then segQ a x b y c else segQ b y a x c
def fiQ(ns:LI)(ts:List Bool)(cs:LI)(i:Nat):Rat :=
 if ts.getD i false=true then ((cs.getD i 0:Int):Rat) else
  match nbA ts i,nbB ts i with
  | some a,some b=>infQ (ns.getD a 0) (cs.getD a 0) (ns.getD b 0) (cs.getD b 0) (ns.getD i 0)
  | _,_=>0
def fitB(ns:LI)(ts:List Bool)(cs:LI):Bool:=decide (ts.length=ns.length/\cs.length=ns.length/\ns.length<=80)&&(ns.all fdB&&cs.all fdB)
def fillQ(ns:LI)(ts:List Bool)(cs:LI):List Rat:=if fitB ns ts cs=true then (List.range ns.length).map (fiQ ns ts cs)else []
theorem zoj{ns:LI}{ts:List Bool}{cs:LI}(h:fitB ns ts cs=false):fillQ ns ts cs=[]:=by
 unfold fillQ
 rw[h]
 rfl
theorem zk0{ns:LI}{ts:List Bool}{cs:LI}(h:fitB ns ts cs=true):fillQ ns ts cs=(List.range ns.length).map (fiQ ns ts cs):=if_pos h
theorem zg3{ns:LI}{ts:List Bool}{cs:LI}(h:fitB ns ts cs=true):(fillQ ns ts cs).length=ns.length:=by rw[zk0 h];simp
theorem zjc{ns:LI}{ts:List Bool}{cs:LI}:fitB ns ts cs=true↔(ts.length=ns.length/\cs.length=ns.length/\ns.length<=80)/\(∀z∈ns,-32768<=z/\z<=32767)/\∀z∈cs,-32768<=z/\z<=32767:=by
 unfold fitB
 simp only[Bool.and_eq_true,decide_eq_true_iff,List.all_eq_true,zce]
theorem zd8{l:LI}(h:∀z∈l,-32768<=z/\z<=32767)(i:Nat):-32768<=l.getD i 0/\l.getD i 0<=32767:=by
 by_cases hi:i<l.length
 . rw[List.getD_eq_getElem?_getD,List.getElem?_eq_getElem hi,Option.getD_some]
   exact h _ (List.getElem_mem hi)
 . rw[List.getD_eq_getElem?_getD,List.getElem?_eq_none (by omega),Option.getD_none]
   omega
theorem z2v{ns:LI}{ts:List Bool}{cs:LI}{i:Nat}(h:ts.getD i false=true):fiQ ns ts cs i=((cs.getD i 0:Int):Rat):=if_pos h
theorem z2u{ns:LI}{ts:List Bool}{cs:LI}{i a b:Nat}(h:ts.getD i false=false)(ha:nbA ts i=some a)(hb:nbB ts i=some b):fiQ ns ts cs i=infQ (ns.getD a 0) (cs.getD a 0) (ns.getD b 0) (cs.getD b 0) (ns.getD i 0):=by
 unfold fiQ
 rw[h,ha,hb]
 rfl
theorem z2w{ns:LI}{ts:List Bool}{cs:LI}{i:Nat}(h:ts.getD i false=false)(ha:nbA ts i=none):fiQ ns ts cs i=0:=by
 unfold fiQ
 rw[h,ha]
 rfl
