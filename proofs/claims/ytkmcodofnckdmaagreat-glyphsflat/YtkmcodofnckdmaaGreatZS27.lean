import Derived.Test.YtkmcodofnckdmaaGreatZS26
set_option maxHeartbeats 4000000
set_option maxRecDepth 100000
set_option linter.unusedSimpArgs false
set_option linter.unusedVariables false
namespace Go.Proofs.YtkmcodofnckdmaaGreat
open Go.RowKit Classical
theorem za7(z:Int)(w:World):Calls Tryz.prog 279 #[.int .i64 z] w fun e w'=>e=.returned (.bool (nr z))/\w=w':=by
 by_cases h1:-1099511627776<=z
 . go_enter Tryz.func279,Tryz.ntmps279
   go_wp2
   go_ret
   exact⟨zav (by simp[nr,h1]),rfl⟩
 . go_enter Tryz.func279,Tryz.ntmps279
   go_wp2
   go_ret
   exact⟨zav (by simp[nr];omega),rfl⟩
theorem ze5(k:Nat)(q:Rat)(v:Value)(w:World)(h:Ct w v k q)(hk:k<=100000)(hk2:2<=k) :
 Calls Tryz.prog 69 #[v] w fun e w'=>e=.returned (.tuple #[.int .i64 (fldN (q+1/2).floor),.int .i64 (fldE (q+1/2).floor)])/\Below w.heap.size w w':=by
 have hX:=h
 obtain⟨n,xs,ys,⟨a,c,a',c',rfl,_,_⟩,hz1⟩:=h;clear hz1
 obtain⟨z,hz⟩:∃z,(q+1/2).floor=z:=⟨_,rfl⟩
 rw[hz]
 have HZ:Hid ((q+1/2).floor=z):=hz
 clear hz
 have e34:(-32768<=z/\z<=32767/\fldN z=z/\fldE z=0/\flB z=true/\flN z=z)\/(¬(-32768<=z/\z<=32767)/\fldN z=0/\fldE z=4):=by
  by_cases h1:-32768<=z/\z<=32767
  . have e1:flB z=true:=by unfold flB;exact decide_eq_true (by omega)
    exact .inl ⟨h1.1,h1.2,by unfold fldN;rw[if_pos h1],by unfold fldE;rw[if_pos h1],e1,by unfold flN;rw[if_pos e1]⟩
  . exact .inr ⟨h1,by unfold fldN;rw[if_neg h1],by unfold fldE;rw[if_neg h1]⟩
 rcases e34 with ⟨h1,h2,e3,e4,e1,e2⟩|⟨h1,e3,e4⟩
 . rw[e3,e4]
   have E1:Hid (flB z=true/\flN z=z):=⟨e1,e2⟩
   clear e1 e2 e3 e4
   go_enter Tryz.func69,Tryz.ntmps69
   go_wp2_with fail
   refine(ze3 k q _ _ (hX.below (al1 _)) hk hk2).mono ?_
   rintro e u1 ⟨rfl,hb1⟩
   obtain⟨B1,hbW⟩:=zb2 hb1
   clear hb1 hX;rw[HZ.out,E1.out.1,E1.out.2];go_wp2
   go_ret2
   exact⟨rfl,hbW⟩
 rw[e3,e4];clear e3 e4
 by_cases h2:flB z=true
 . have e2:flN z=z:=by unfold flN;rw[if_pos h2]
   have E1:Hid (flB z=true/\flN z=z):=⟨h2,e2⟩
   clear h2 e2
   rcases (show z < -32768\/(-32768<=z/\32767<z) by omega)with h3|⟨h3,h4⟩
   all_goals
    clear h1
    go_enter Tryz.func69,Tryz.ntmps69
    go_wp2_with fail
    refine(ze3 k q _ _ (hX.below (al1 _)) hk hk2).mono ?_
    rintro e u1 ⟨rfl,hb1⟩
    obtain⟨B1,hbW⟩:=zb2 hb1
    clear hb1 hX;rw[HZ.out,E1.out.1,E1.out.2];go_wp2
    go_ret2
    exact⟨rfl,hbW⟩
 . have e1:flB z=false:=by simpa using h2
   have E1:Hid (flB z=false):=e1
   clear h2 e1 h1
   go_enter Tryz.func69,Tryz.ntmps69
   go_wp2_with fail
   refine(ze3 k q _ _ (hX.below (al1 _)) hk hk2).mono ?_
   rintro e u1 ⟨rfl,hb1⟩
   obtain⟨B1,hbW⟩:=zb2 hb1
   clear hb1 hX;rw[HZ.out,E1.out]
   generalize flN z=y
   go_wp2
   go_ret2
   exact⟨rfl,hbW⟩
theorem zjl(a b n d:Int)(w:World)(ha:-9223372036854775808<=a/\a<9223372036854775808)(hb:-9223372036854775808<=b/\b<9223372036854775808)(hn:-9223372036854775808<=n/\n<9223372036854775808)(hd:-9223372036854775808<=d/\d<9223372036854775808) :
 Calls Tryz.prog 268 #[.int .i64 a,.int .i64 b,.int .i64 n,.int .i64 d] w fun e w'=>∃v',e=.returned v'/\Fr w' v' 7 (btw a b n d)/\Below w.heap.size w w':=by
 have zero:nr4 a b n d=false->∀u:World,Box 130 u w.heap.size (.bool false) (.slice none 0 0) (.slice none 0 0)->Below w.heap.size w u ->
     Calls Tryz.prog 177 #[] u fun e w'=>∃n' xs' ys' b1 d1 b2 d2,e=.returned (.agg #[.bool n',.slice b1 (List.length xs') d1,.slice b2 (List.length ys') d2])/\Rd w' b1 d1 xs'/\Rd w' b2 d2 ys'/\(Fmd n' xs' ys'/\xs'.length<=7/\ys'.length<=7/\qv n' xs' ys'=btw a b n d)/\Box 130 w' w.heap.size (.bool false) (.slice none 0 0) (.slice none 0 0)/\Below w.heap.size w w':=by
  intro h4 u B1 hbW
  refine(zba u).mono ?_
  rintro e u1 ⟨v1,rfl,hF1,hb1⟩
  replace hF1:=(hF1.eq (r:=btw a b n d) (by unfold btw;rw[h4];rfl)).le (show 2<=7 by decide)
  obtain⟨n',xs',ys',⟨b,d,b',d',rfl,hx',hy'⟩,hF⟩:=hF1
  exact⟨n',xs',ys',b,d,b',d',rfl,hx',hy',hF,B1.below hb1,hbW.trans (hb1.mono hbW.size)⟩
 obtain⟨za,hza⟩:∃z,nr a=z:=⟨_,rfl⟩
 obtain⟨zb,hzb⟩:∃z,nr b=z:=⟨_,rfl⟩
 obtain⟨zn,hzn⟩:∃z,nr n=z:=⟨_,rfl⟩
 obtain⟨zd,hzd⟩:∃z,nr d=z:=⟨_,rfl⟩
 have h4:nr4 a b n d=(za&&(zb&&(zn&&zd))):=by simp[nr4,hza,hzb,hzn,hzd]
 have N1:Hid (nr a=za/\nr b=zb/\nr n=zn/\nr d=zd):=⟨hza,hzb,hzn,hzd⟩
 have HZ:Hid (nr4 a b n d=false->∀u:World,Box 130 u w.heap.size (.bool false) (.slice none 0 0) (.slice none 0 0)->Below w.heap.size w u ->
     Calls Tryz.prog 177 #[] u fun e w'=>∃n' xs' ys' b1 d1 b2 d2,e=.returned (.agg #[.bool n',.slice b1 (List.length xs') d1,.slice b2 (List.length ys') d2])/\Rd w' b1 d1 xs'/\Rd w' b2 d2 ys'/\(Fmd n' xs' ys'/\xs'.length<=7/\ys'.length<=7/\qv n' xs' ys'=btw a b n d)/\Box 130 w' w.heap.size (.bool false) (.slice none 0 0) (.slice none 0 0)/\Below w.heap.size w w'):=zero
 clear zero hza hzb hzn hzd
 have H4:Hid (nr4 a b n d=(za&&(zb&&(zn&&zd)))):=h4
 clear h4
 by_cases hall:(za&&(zb&&(zn&&zd)))=true
 . have h4:nr4 a b n d=true:=by rw[H4.out,hall]
   obtain⟨ra,rb,rn,rd⟩:=zp7 h4
   have HB:Hid (btw a b n d=(a:Rat)+((b-a:Int):Rat)*((n:Rat)/(d:Rat))):=by
    show btw a b n d=_
    unfold btw
    rw[if_pos h4]
   obtain⟨rfl,rfl,rfl,rfl⟩:za=true/\zb=true/\zn=true/\zd=true:=by simpa using hall
   clear h4 hall H4 HZ
   go_enter Tryz.func268,Tryz.ntmps268
   go_wp2_with fail
   refine(za7 a _).mono ?_
   rintro e u ⟨rfl,rfl⟩;rw[N1.out.1]
   go_wp2_with fail
   refine(za7 b _).mono ?_
   rintro e u ⟨rfl,rfl⟩;rw[N1.out.2.1]
   go_wp2_with fail
   refine(za7 n _).mono ?_
   rintro e u ⟨rfl,rfl⟩;rw[N1.out.2.2.1]
   go_wp2_with fail
   refine(za7 d _).mono ?_
   rintro e u ⟨rfl,rfl⟩;rw[N1.out.2.2.2]
   obtain⟨W,hW,B1,hbW⟩:∃W,W=w.alloc (.cells #[.bool false,.slice none 0 0,.slice none 0 0] 130)/\Box 130 W w.heap.size (.bool false) (.slice none 0 0) (.slice none 0 0)/\Below w.heap.size w W:=⟨_,rfl,Box.new _ _ _ _ _,al1 _⟩
   rw[<-hW];clear hW
   go_wp2_with fail
   refine(zam (b-a) _ (by omega) (by omega)).mono ?_
   rintro e u1 ⟨v1,rfl,hF1,hb1⟩;replace B1:=B1.below hb1
   replace hbW:Below w.heap.size w u1:=hbW.trans (hb1.mono hbW.size)
   clear hb1
   go_wp2_with fail
   refine(zec n d _ (by omega) (by omega) (by omega) (by omega)).mono ?_
   rintro e u2 ⟨v2,rfl,hF2,hb2⟩;replace B1:=B1.below hb2;replace hF1:=hF1.below hb2
   replace hbW:Below w.heap.size w u2:=hbW.trans (hb2.mono hbW.size)
   clear hb2
   go_wp2_with fail
   refine(zbl 2 2 _ _ _ _ _ hF1.ct hF2.ct (by decide) (by decide) (by decide) (by decide)).mono ?_
   rintro e u3 ⟨v3,rfl,hF3,hb3⟩;replace B1:=B1.below hb3
   replace hbW:Below w.heap.size w u3:=hbW.trans (hb3.mono hbW.size)
   clear hb3 hF1 hF2
   have hX:=hF3.ct
   obtain⟨n3,x3,y3,⟨a3,c3,b3,d3,rfl,_,_⟩,_⟩:=hF3
   have hs:=B1.lt
   go_wp2_with fail
   obtain⟨W2,hW2,B2,hb3⟩:∃W2,W2=u3.alloc (.cells #[.bool n3,.slice a3 x3.length c3,.slice b3 y3.length d3] 130)/\Box 130 W2 u3.heap.size (.bool n3) (.slice a3 x3.length c3) (.slice b3 y3.length d3)/\Below u3.heap.size u3 W2:=⟨_,rfl,Box.new _ _ _ _ _,al1 _⟩
   rw[<-hW2];clear hW2;replace B1:=B1.below hb3;replace hX:=hX.below hb3
   replace hbW:Below w.heap.size w W2:=hbW.trans (hb3.mono hbW.size)
   clear hb3
   have hne:u3.heap.size≠w.heap.size:=by omega
   clear hs
   generalize u3.heap.size=g at B2 hne ⊢
   obtain⟨p1,p2,p3,_⟩:=B2.cells
   go_region_held3 (fun u=>u.cell? ⟨g,0,none⟩=some (.bool n3)/\u.cell? ⟨g,1,none⟩=some (.slice a3 x3.length c3)/\u.cell? ⟨g,2,none⟩=some (.slice b3 y3.length d3)) (first | (go_keep;done) | (refine⟨(zab hne).trans p1,(zab hne).trans p2,(zab hne).trans p3⟩))
    (first
     | (go_at_call 116
        refine(zam a _ ?_ ?_).mono ?_
        . omega
        . omega
        rintro e u4 ⟨v4,rfl,hF4,hb4⟩
        replace hb4:Below W2.heap.size W2 u4:=Below.drew1.trans hb4
        replace hX:=hX.below hb4;replace B1:=B1.below hb4;replace B2:=B2.below hb4
        replace hbW:Below w.heap.size w u4:=hbW.trans (hb4.mono hbW.size)
        clear hb4 p1 p2 p3
        obtain⟨p1,p2,p3,_⟩:=B2.cells)
     | (go_at_call 115
        refine(zbp 2 4 _ _ _ _ _ hF4.ct hX (by decide) (by decide) (by decide) (by decide)).mono ?_
        rintro e u5 ⟨v5,rfl,hF5,hb5⟩;replace B1:=B1.below hb5;replace B2:=B2.below hb5
        replace hbW:Below w.heap.size w u5:=hbW.trans (hb5.mono hbW.size)
        replace hF5:=hF5.eq HB.out.symm
        clear hb5 hF4 hX p1 p2 p3;obtain⟨p1,p2,p3,_⟩:=B2.cells;obtain⟨q1,q2,q3,q4,q5,q6⟩:=B1.cells
        have hs:=B1.lt
        obtain⟨n',xs',ys',⟨e1,f1,e2,f2,rfl,hx',hy'⟩,hF⟩:=hF5))
   go_wp2
   refine ret3 (v:=.agg #[.bool n',.slice e1 xs'.length f1,.slice e2 ys'.length f2]) B1 rfl (fun U hU=>by obtain⟨r1,r2,r3,_⟩:=hU.cells;simp[results,Tryz.results268,go_sem,r1,r2,r3]) (fun U hU hK=>⟨_,rfl,⟨_,_,_,⟨_,_,_,_,rfl,hK _ _ _ hx',hK _ _ _ hy'⟩,hF⟩,hU _ _ hbW (by omega)⟩)
 . have h4:nr4 a b n d=false:=by rw[H4.out];simpa using hall
   replace HZ:Hid (∀u:World,Box 130 u w.heap.size (.bool false) (.slice none 0 0) (.slice none 0 0)->Below w.heap.size w u ->
    Calls Tryz.prog 177 #[] u fun e w'=>∃n' xs' ys' b1 d1 b2 d2,e=.returned (.agg #[.bool n',.slice b1 (List.length xs') d1,.slice b2 (List.length ys') d2])/\Rd w' b1 d1 xs'/\Rd w' b2 d2 ys'/\(Fmd n' xs' ys'/\xs'.length<=7/\ys'.length<=7/\qv n' xs' ys'=btw a b n d)/\Box 130 w' w.heap.size (.bool false) (.slice none 0 0) (.slice none 0 0)/\Below w.heap.size w w'):=HZ.out h4
   have hc:za=false\/(za=true/\zb=false)\/(za=true/\zb=true/\zn=false)\/(za=true/\zb=true/\zn=true/\zd=false):=by
    cases za <;> cases zb <;> cases zn <;> cases zd <;> simp_all
   clear h4 hall H4
   rcases hc with rfl|⟨rfl,rfl⟩|⟨rfl,rfl,rfl⟩|⟨rfl,rfl,rfl,rfl⟩
   . go_enter Tryz.func268,Tryz.ntmps268
     obtain⟨W,hW,B1,hbW⟩:∃W,W=w.alloc (.cells #[.bool false,.slice none 0 0,.slice none 0 0] 130)/\Box 130 W w.heap.size (.bool false) (.slice none 0 0) (.slice none 0 0)/\Below w.heap.size w W:=⟨_,rfl,Box.new _ _ _ _ _,al1 _⟩
     go_wp2_with fail
     refine(za7 a _).mono ?_
     rintro e u ⟨rfl,rfl⟩;rw[N1.out.1];rw[<-hW];clear hW
     go_wp2_with fail
     refine(HZ.out _ B1 hbW).mono ?_
     clear B1 hbW;rintro e u1 ⟨n',xs',ys',b1,d1,b2,d2,rfl,hx',hy',hF,B1,hbW⟩
     have hs:=B1.lt
     obtain⟨q1,q2,q3,q4,q5,q6⟩:=B1.cells;go_wp2
     refine ret3 (v:=.agg #[.bool n',.slice b1 xs'.length d1,.slice b2 ys'.length d2]) B1 rfl (fun U hU=>by obtain⟨r1,r2,r3,_⟩:=hU.cells;simp[results,Tryz.results268,go_sem,r1,r2,r3]) (fun U hU hK=>⟨_,rfl,⟨_,_,_,⟨_,_,_,_,rfl,hK _ _ _ hx',hK _ _ _ hy'⟩,hF⟩,hU _ _ hbW (by omega)⟩)
   . go_enter Tryz.func268,Tryz.ntmps268
     obtain⟨W,hW,B1,hbW⟩:∃W,W=w.alloc (.cells #[.bool false,.slice none 0 0,.slice none 0 0] 130)/\Box 130 W w.heap.size (.bool false) (.slice none 0 0) (.slice none 0 0)/\Below w.heap.size w W:=⟨_,rfl,Box.new _ _ _ _ _,al1 _⟩
     go_wp2_with fail
     refine(za7 a _).mono ?_
     rintro e u ⟨rfl,rfl⟩;rw[N1.out.1]
     go_wp2_with fail
     refine(za7 b _).mono ?_
     rintro e u ⟨rfl,rfl⟩;rw[N1.out.2.1];rw[<-hW];clear hW
     go_wp2_with fail
     refine(HZ.out _ B1 hbW).mono ?_
     clear B1 hbW;rintro e u1 ⟨n',xs',ys',b1,d1,b2,d2,rfl,hx',hy',hF,B1,hbW⟩
     have hs:=B1.lt
     obtain⟨q1,q2,q3,q4,q5,q6⟩:=B1.cells;go_wp2
     refine ret3 (v:=.agg #[.bool n',.slice b1 xs'.length d1,.slice b2 ys'.length d2]) B1 rfl (fun U hU=>by obtain⟨r1,r2,r3,_⟩:=hU.cells;simp[results,Tryz.results268,go_sem,r1,r2,r3]) (fun U hU hK=>⟨_,rfl,⟨_,_,_,⟨_,_,_,_,rfl,hK _ _ _ hx',hK _ _ _ hy'⟩,hF⟩,hU _ _ hbW (by omega)⟩)
   . go_enter Tryz.func268,Tryz.ntmps268
     obtain⟨W,hW,B1,hbW⟩:∃W,W=w.alloc (.cells #[.bool false,.slice none 0 0,.slice none 0 0] 130)/\Box 130 W w.heap.size (.bool false) (.slice none 0 0) (.slice none 0 0)/\Below w.heap.size w W:=⟨_,rfl,Box.new _ _ _ _ _,al1 _⟩
     go_wp2_with fail
     refine(za7 a _).mono ?_
     rintro e u ⟨rfl,rfl⟩;rw[N1.out.1]
     go_wp2_with fail
     refine(za7 b _).mono ?_
     rintro e u ⟨rfl,rfl⟩;rw[N1.out.2.1]
     go_wp2_with fail
     refine(za7 n _).mono ?_
     rintro e u ⟨rfl,rfl⟩;rw[N1.out.2.2.1];rw[<-hW];clear hW
     go_wp2_with fail
     refine(HZ.out _ B1 hbW).mono ?_
     clear B1 hbW;rintro e u1 ⟨n',xs',ys',b1,d1,b2,d2,rfl,hx',hy',hF,B1,hbW⟩
     have hs:=B1.lt
     obtain⟨q1,q2,q3,q4,q5,q6⟩:=B1.cells;go_wp2
     refine ret3 (v:=.agg #[.bool n',.slice b1 xs'.length d1,.slice b2 ys'.length d2]) B1 rfl (fun U hU=>by obtain⟨r1,r2,r3,_⟩:=hU.cells;simp[results,Tryz.results268,go_sem,r1,r2,r3]) (fun U hU hK=>⟨_,rfl,⟨_,_,_,⟨_,_,_,_,rfl,hK _ _ _ hx',hK _ _ _ hy'⟩,hF⟩,hU _ _ hbW (by omega)⟩)
   . go_enter Tryz.func268,Tryz.ntmps268
     obtain⟨W,hW,B1,hbW⟩:∃W,W=w.alloc (.cells #[.bool false,.slice none 0 0,.slice none 0 0] 130)/\Box 130 W w.heap.size (.bool false) (.slice none 0 0) (.slice none 0 0)/\Below w.heap.size w W:=⟨_,rfl,Box.new _ _ _ _ _,al1 _⟩
     go_wp2_with fail
     refine(za7 a _).mono ?_
     rintro e u ⟨rfl,rfl⟩;rw[N1.out.1]
     go_wp2_with fail
     refine(za7 b _).mono ?_
     rintro e u ⟨rfl,rfl⟩;rw[N1.out.2.1]
     go_wp2_with fail
     refine(za7 n _).mono ?_
     rintro e u ⟨rfl,rfl⟩;rw[N1.out.2.2.1]
     go_wp2_with fail
     refine(za7 d _).mono ?_
     rintro e u ⟨rfl,rfl⟩;rw[N1.out.2.2.2];rw[<-hW];clear hW
     go_wp2_with fail
     refine(HZ.out _ B1 hbW).mono ?_
     clear B1 hbW;rintro e u1 ⟨n',xs',ys',b1,d1,b2,d2,rfl,hx',hy',hF,B1,hbW⟩
     have hs:=B1.lt
     obtain⟨q1,q2,q3,q4,q5,q6⟩:=B1.cells;go_wp2
     refine ret3 (v:=.agg #[.bool n',.slice b1 xs'.length d1,.slice b2 ys'.length d2]) B1 rfl (fun U hU=>by obtain⟨r1,r2,r3,_⟩:=hU.cells;simp[results,Tryz.results268,go_sem,r1,r2,r3]) (fun U hU hK=>⟨_,rfl,⟨_,_,_,⟨_,_,_,_,rfl,hK _ _ _ hx',hK _ _ _ hy'⟩,hF⟩,hU _ _ hbW (by omega)⟩)
open Go.Maps
theorem zhd(f r:Nat->Nat)(s:Int)(i:Nat)(a:Option Addr)(cap:Nat)(ts:List Bool)(w:World)(h:Rl w a cap ts)(hi:i<ts.length)(hl:ts.length<=1000000)(hs:-1<=s/\s<=1)
    (f0:Int.tmod ((i:Int)+s+(ts.length:Int)) (ts.length:Int)=(f 0:Int)) (f1:∀k,k+1<ts.length->Int.tmod ((f k:Int)+s+(ts.length:Int)) (ts.length:Int)=(f (k+1):Int)) (f2:∀k,k<ts.length->f k<ts.length) (f3:∀k,k<ts.length-1->f k≠i) (f4:f (ts.length-1)=i) (f5:∀k,k<ts.length->r (f k)=k) :
    Calls Tryz.prog 233 #[.slice a ts.length cap,.int .i64 (i:Int),.int .i64 s] w fun e w'=>e=.returned (.int .i64 (((nbT ts f (ts.length-1)).getD i:Nat):Int))/\w=w':=by
 have HF1:Hid (∀k,k+1<ts.length->Int.tmod ((f k:Int)+s+(ts.length:Int)) (ts.length:Int)=(f (k+1):Int)):=f1
 have HF2:Hid (∀k,k<ts.length->f k<ts.length):=f2
 have HF3:Hid (∀k,k<ts.length-1->f k≠i):=f3
 have HF4:Hid (f (ts.length-1)=i):=f4
 have HF5:Hid (∀k,k<ts.length->r (f k)=k):=f5
 have HH:Hid (Rl w a cap ts):=h
 obtain⟨n,hn⟩:∃n,ts.length=n:=⟨_,rfl⟩
 have HN:Hid (ts.length=n):=hn
 rw[hn]at hi hl f0 ⊢
 have q0:=f0
 have hf0:f 0<n:=by have:=f2 0 (by omega);omega
 have g0:¬((n:Int)=0):=by omega
 clear hn h f0 f1 f2 f3 f4
 go_enter Tryz.func233,Tryz.ntmps233
 go_wp2
 go_loopw [8] (fun v wr=>∃k:Nat,k<n/\v=.int .i64 ((f k:Nat):Int)/\(∀j,j<k->ts.getD (f j) false=false)/\w=wr) (fun v _=>n-r (intOf v).toNat)
 case atStart=>exact⟨0,by omega,rfl,(fun j hj=>by omega),rfl⟩
 case round =>
  obtain⟨k,hk,rfl,hok,rfl⟩:=hrel
  have HOK:Hid (∀j,j<k->ts.getD (f j) false=false):=hok
  have hfk:f k<n:=by have:=HF2.out k (by rw[HN.out];exact hk);rw[HN.out]at this;exact this
  clear hok q0 hf0
  by_cases hkn:k<n-1
  . have hne:f k≠i:=HF3.out k (by rw[HN.out];exact hkn)
    obtain⟨b,off,ea,hb,d0⟩:=HH.out.at (Below.refl _ _) (f k) (by rw[HN.out];exact hfk)
    subst ea
    obtain⟨z,hzz⟩:∃z,ts.getD (f k) false=z:=⟨_,rfl⟩
    rw[hzz]at d0
    have hnx:=HF1.out k (by rw[HN.out];omega)
    have hf1:f (k+1)<n:=by have:=HF2.out (k+1) (by rw[HN.out];omega);rw[HN.out]at this;exact this
    have hr0:r (f k)=k:=HF5.out k (by rw[HN.out];omega)
    have hr1:r (f (k+1))=k+1:=HF5.out (k+1) (by rw[HN.out];omega)
    have HR:Hid (r (f k)=k/\r (f (k+1))=k+1):=⟨hr0,hr1⟩
    rw[HN.out]at hnx
    have q1:=hnx
    have HFK:Hid (k+1<n):=by show _<_;omega
    cases z with
    | true =>
     have zw4:Hid (nbT ts f (n-1)=some (f k)):=zmq hkn HOK.out hzz
     clear HOK hzz hnx hr0 hr1 HR
     generalize f k=x at *
     have g1:¬((x:Int)=(i:Int)):=by omega
     have i1:(0:Int)<=(x:Int):=by omega
     have i2:(x:Int)<(n:Int):=by omega
     go_wp2
     go_ret
     exact⟨by rw[zw4.out];rfl,rfl⟩
    | false =>
     have zdl:Hid (∀j,j<k+1->ts.getD (f j) false=false):=za4 HOK.out hzz
     clear HOK hzz hnx hr0 hr1
     obtain⟨x,hx⟩:∃x,f k=x:=⟨_,rfl⟩
     obtain⟨y,hy⟩:∃y,f (k+1)=y:=⟨_,rfl⟩
     have HX:Hid (f k=x):=hx
     have HY:Hid (f (k+1)=y):=hy
     rw[hx]at hfk hne d0 q1 ⊢;rw[hy]at hf1 q1;clear hx hy
     have g1:¬((x:Int)=(i:Int)):=by omega
     have i1:(0:Int)<=(x:Int):=by omega
     have i2:(x:Int)<(n:Int):=by omega
     go_wp2
     go_roundw
     case rel=>exact⟨k+1,HFK.out,by rw[HY.out],zdl.out,trivial⟩
     case measure =>
      have h1:=HR.out.1
      have h2:=HR.out.2
      have h3:=HFK.out
      rw[HX.out]at h1;rw[HY.out]at h2
      simp[intOf]
      omega
  . obtain rfl:k=n-1:=by omega
    have zw4:Hid (nbT ts f (n-1)=none):=zih HOK.out
    have hfe:f (n-1)=i:=by have:=HF4.out;rw[HN.out]at this;exact this
    rw[hfe]
    have g1:((i:Int)=(i:Int)):=rfl
    clear HOK hfe;go_wp2
    go_ret
    exact⟨by rw[zw4.out];rfl,rfl⟩
theorem tmodA{n i:Nat}(hi:i<n):Int.tmod ((i:Int)+(-1)+(n:Int)) (n:Int)=(((i+(n-1))%n:Nat):Int):=by
 rw[<-zh8,show((i+(n-1):Nat):Int)=(i:Int)+(-1)+(n:Int) by omega]
theorem tmodB{n i:Nat}(hi:i<n):Int.tmod ((i:Int)+1+(n:Int)) (n:Int)=(((i+1)%n:Nat):Int):=by
 rw[show(i:Int)+1+(n:Int)=((i+1+n:Nat):Int) by omega,zh8,Nat.add_mod_right]
theorem zn4(i:Nat)(a:Option Addr)(cap:Nat)(ts:List Bool)(w:World)(h:Rl w a cap ts)(hi:i<ts.length)(hl:ts.length<=1000000) :
 Calls Tryz.prog 233 #[.slice a ts.length cap,.int .i64 (i:Int),.int .i64 (-1)] w fun e w'=>e=.returned (.int .i64 (((nbA ts i).getD i:Nat):Int))/\w=w' :=
 zhd (wyA ts.length i) (fun v=>if v<i then i-1-v else i+ts.length-1-v) (-1) i a cap ts w h hi hl (by omega) (by rw[tmodA hi,zl4 hi]) (fun k hk=>by rw[tmodA (zi8 hi (by omega)),zl5 hi hk]) (fun k hk=>zi8 hi hk) (fun k hk=>zo3 hi hk) (zo4 hi) (fun k hk=>by unfold wyA;split <;> split <;> omega)
theorem zn3(i:Nat)(a:Option Addr)(cap:Nat)(ts:List Bool)(w:World)(h:Rl w a cap ts)(hi:i<ts.length)(hl:ts.length<=1000000) :
 Calls Tryz.prog 233 #[.slice a ts.length cap,.int .i64 (i:Int),.int .i64 1] w fun e w'=>e=.returned (.int .i64 (((nbB ts i).getD i:Nat):Int))/\w=w' :=
 zhd (wyB ts.length i) (fun v=>if i<v then v-1-i else v+ts.length-1-i) 1 i a cap ts w h hi hl (by omega) (by rw[tmodB hi,zl2 hi]) (fun k hk=>by rw[tmodB (zi7 hi (by omega)),zl3 hi hk]) (fun k hk=>zi7 hi hk) (fun k hk=>zo1 hi hk) (zo2 hi) (fun k hk=>by unfold wyB;split <;> split <;> omega)
theorem zpl(a x b y c:Int)(w:World)(ha:-32768<=a/\a<=32767)(hx:-32768<=x/\x<=32767)(hb:-32768<=b/\b<=32767)(hy:-32768<=y/\y<=32767)(hc:-32768<=c/\c<=32767)(hab:a<b) :
 Calls Tryz.prog 234 #[.int .i64 c,.int .i64 a,.int .i64 b,.int .i64 x,.int .i64 y] w fun e w'=>∃v',e=.returned v'/\Fr w' v' 7 (infQ a x b y c)/\Below w.heap.size w w':=by
 obtain⟨W,hW,B1,hbW⟩:∃W,W=w.alloc (.cells #[.bool false,.slice none 0 0,.slice none 0 0] 130)/\Box 130 W w.heap.size (.bool false) (.slice none 0 0) (.slice none 0 0)/\Below w.heap.size w W:=⟨_,rfl,Box.new _ _ _ _ _,al1 _⟩
 by_cases h1:c<=a
 . have HE:Hid (infQ a x b y c=(x:Rat)):=by
     show _=_
     unfold infQ segQ
     rw[if_neg (by omega),if_pos hab,if_pos h1]
   have g0:(a==b)=false:=beq_false_of_ne (by omega)
   have g1b:¬b<a:=by omega
   go_enter Tryz.func234,Tryz.ntmps234
   go_wp2_with fail
   rw[<-hW];clear hW
   refine(zam x _ (by omega) (by omega)).mono ?_
   rintro e u1 ⟨v1,rfl,hF1,hb2⟩
   replace hF1:=(hF1.eq (r:=infQ a x b y c) (by rw[HE.out])).le (show 2<=7 by decide)
   replace B1:=B1.below hb2
   replace hbW:Below w.heap.size w u1:=hbW.trans (hb2.mono hbW.size)
   clear hb2
   have hs:=B1.lt
   obtain⟨q1,q2,q3,q4,q5,q6⟩:=B1.cells;obtain⟨n',xs',ys',⟨e1,f1,e2,f2,rfl,hx',hy'⟩,hF⟩:=hF1;go_wp2
   refine ret3 (v:=.agg #[.bool n',.slice e1 xs'.length f1,.slice e2 ys'.length f2]) B1 rfl (fun U hU=>by obtain⟨r1,r2,r3,_⟩:=hU.cells;simp[results,Tryz.results234,go_sem,r1,r2,r3]) (fun U hU hK=>⟨_,rfl,⟨_,_,_,⟨_,_,_,_,rfl,hK _ _ _ hx',hK _ _ _ hy'⟩,hF⟩,hU _ _ hbW (by omega)⟩)
 . by_cases h2:b<=c
   . have HE:Hid (infQ a x b y c=(y:Rat)):=by
       show _=_
       unfold infQ segQ
       rw[if_neg (by omega),if_pos hab,if_neg h1,if_pos h2]
     have g0:(a==b)=false:=beq_false_of_ne (by omega)
     have g1b:¬b<a:=by omega
     have g2:¬c<=a:=h1
     go_enter Tryz.func234,Tryz.ntmps234
     go_wp2_with fail
     rw[<-hW];clear hW
     refine(zam y _ (by omega) (by omega)).mono ?_
     rintro e u1 ⟨v1,rfl,hF1,hb2⟩
     replace hF1:=(hF1.eq (r:=infQ a x b y c) (by rw[HE.out])).le (show 2<=7 by decide)
     replace B1:=B1.below hb2
     replace hbW:Below w.heap.size w u1:=hbW.trans (hb2.mono hbW.size)
     clear hb2
     have hs:=B1.lt
     obtain⟨q1,q2,q3,q4,q5,q6⟩:=B1.cells;obtain⟨n',xs',ys',⟨e1,f1,e2,f2,rfl,hx',hy'⟩,hF⟩:=hF1;go_wp2
     refine ret3 (v:=.agg #[.bool n',.slice e1 xs'.length f1,.slice e2 ys'.length f2]) B1 rfl (fun U hU=>by obtain⟨r1,r2,r3,_⟩:=hU.cells;simp[results,Tryz.results234,go_sem,r1,r2,r3]) (fun U hU hK=>⟨_,rfl,⟨_,_,_,⟨_,_,_,_,rfl,hK _ _ _ hx',hK _ _ _ hy'⟩,hF⟩,hU _ _ hbW (by omega)⟩)
   . have HE:Hid (infQ a x b y c=btw x y (c-a) (b-a)):=by
       show _=_
       unfold infQ segQ
       rw[if_neg (by omega),if_pos hab,if_neg h1,if_neg h2]
     have g0:(a==b)=false:=beq_false_of_ne (by omega)
     have g1b:¬b<a:=by omega
     have g2:¬c<=a:=h1
     have g3:¬c ≥ b:=by omega
     go_enter Tryz.func234,Tryz.ntmps234
     go_wp2_with fail
     rw[<-hW];clear hW
     refine(zjl x y (c-a) (b-a) _ (by omega) (by omega) (by omega) (by omega)).mono ?_
     rintro e u1 ⟨v1,rfl,hF1,hb2⟩
     replace hF1:=(hF1.eq (r:=infQ a x b y c) (by rw[HE.out])).le (show 7<=7 by decide)
     replace B1:=B1.below hb2
     replace hbW:Below w.heap.size w u1:=hbW.trans (hb2.mono hbW.size)
     clear hb2
     have hs:=B1.lt
     obtain⟨q1,q2,q3,q4,q5,q6⟩:=B1.cells;obtain⟨n',xs',ys',⟨e1,f1,e2,f2,rfl,hx',hy'⟩,hF⟩:=hF1;go_wp2
     refine ret3 (v:=.agg #[.bool n',.slice e1 xs'.length f1,.slice e2 ys'.length f2]) B1 rfl (fun U hU=>by obtain⟨r1,r2,r3,_⟩:=hU.cells;simp[results,Tryz.results234,go_sem,r1,r2,r3]) (fun U hU hK=>⟨_,rfl,⟨_,_,_,⟨_,_,_,_,rfl,hK _ _ _ hx',hK _ _ _ hy'⟩,hF⟩,hU _ _ hbW (by omega)⟩)
theorem zso(a x b y c:Int)(w:World)(ha:-32768<=a/\a<=32767)(hx:-32768<=x/\x<=32767)(hb:-32768<=b/\b<=32767)(hy:-32768<=y/\y<=32767)(hc:-32768<=c/\c<=32767) :
 Calls Tryz.prog 234 #[.int .i64 c,.int .i64 a,.int .i64 b,.int .i64 x,.int .i64 y] w fun e w'=>∃v',e=.returned v'/\Fr w' v' 7 (infQ a x b y c)/\Below w.heap.size w w':=by
 rcases Int.lt_trichotomy a b with hab|hab|hab
 . exact zpl a x b y c w ha hx hb hy hc hab
 . obtain⟨W,hW,B1,hbW⟩:∃W,W=w.alloc (.cells #[.bool false,.slice none 0 0,.slice none 0 0] 130)/\Box 130 W w.heap.size (.bool false) (.slice none 0 0) (.slice none 0 0)/\Below w.heap.size w W:=⟨_,rfl,Box.new _ _ _ _ _,al1 _⟩
   by_cases hxy:x=y
   . have HE:Hid (infQ a x b y c=(x:Rat)):=by
       show _=_
       unfold infQ
       rw[if_pos hab,if_pos hxy]
     have g0:(a==b)=true:=by rw[hab];exact beq_self_eq_true b
     have gx:(x==y)=true:=by rw[hxy];exact beq_self_eq_true y
     clear hab hxy
     go_enter Tryz.func234,Tryz.ntmps234
     go_wp2_with fail
     rw[<-hW];clear hW
     refine(zam x _ (by omega) (by omega)).mono ?_
     rintro e u1 ⟨v1,rfl,hF1,hb2⟩
     replace hF1:=(hF1.eq (r:=infQ a x b y c) (by rw[HE.out])).le (show 2<=7 by decide)
     replace B1:=B1.below hb2
     replace hbW:Below w.heap.size w u1:=hbW.trans (hb2.mono hbW.size)
     clear hb2
     have hs:=B1.lt
     obtain⟨q1,q2,q3,q4,q5,q6⟩:=B1.cells;obtain⟨n',xs',ys',⟨e1,f1,e2,f2,rfl,hx',hy'⟩,hF⟩:=hF1;go_wp2
     refine ret3 (v:=.agg #[.bool n',.slice e1 xs'.length f1,.slice e2 ys'.length f2]) B1 rfl (fun U hU=>by obtain⟨r1,r2,r3,_⟩:=hU.cells;simp[results,Tryz.results234,go_sem,r1,r2,r3]) (fun U hU hK=>⟨_,rfl,⟨_,_,_,⟨_,_,_,_,rfl,hK _ _ _ hx',hK _ _ _ hy'⟩,hF⟩,hU _ _ hbW (by omega)⟩)
   . have HE:Hid (infQ a x b y c=0):=by
       show _=_
       unfold infQ
       rw[if_pos hab,if_neg hxy]
     have g0:(a==b)=true:=by rw[hab];exact beq_self_eq_true b
     have gx:(x==y)=false:=beq_false_of_ne hxy
     clear hab
     go_enter Tryz.func234,Tryz.ntmps234
     go_wp2_with fail
     rw[<-hW];clear hW
     refine(zba _).mono ?_
     rintro e u1 ⟨v1,rfl,hF1,hb2⟩
     replace hF1:=(hF1.eq (r:=infQ a x b y c) (by rw[HE.out])).le (show 2<=7 by decide)
     replace B1:=B1.below hb2
     replace hbW:Below w.heap.size w u1:=hbW.trans (hb2.mono hbW.size)
     clear hb2
     have hs:=B1.lt
     obtain⟨q1,q2,q3,q4,q5,q6⟩:=B1.cells;obtain⟨n',xs',ys',⟨e1,f1,e2,f2,rfl,hx',hy'⟩,hF⟩:=hF1;go_wp2
     refine ret3 (v:=.agg #[.bool n',.slice e1 xs'.length f1,.slice e2 ys'.length f2]) B1 rfl (fun U hU=>by obtain⟨r1,r2,r3,_⟩:=hU.cells;simp[results,Tryz.results234,go_sem,r1,r2,r3]) (fun U hU hK=>⟨_,rfl,⟨_,_,_,⟨_,_,_,_,rfl,hK _ _ _ hx',hK _ _ _ hy'⟩,hF⟩,hU _ _ hbW (by omega)⟩)
 . obtain⟨W,hW,B1,hbW⟩:∃W,W=w.alloc (.cells #[.bool false,.slice none 0 0,.slice none 0 0] 130)/\Box 130 W w.heap.size (.bool false) (.slice none 0 0) (.slice none 0 0)/\Below w.heap.size w W:=⟨_,rfl,Box.new _ _ _ _ _,al1 _⟩
   have HE:Hid (infQ a x b y c=infQ b y a x c):=by
    show _=_
    exact zqp _ _ _ _ _
   have g0:(a==b)=false:=beq_false_of_ne (by omega)
   have g1:b<a:=hab
   go_enter Tryz.func234,Tryz.ntmps234
   go_wp2_with fail
   rw[<-hW];clear hW
   refine(zpl b y a x c _ hb hy ha hx hc hab).mono ?_
   rintro e u1 ⟨v1,rfl,hF1,hb2⟩
   replace hF1:=(hF1.eq (r:=infQ a x b y c) (by rw[HE.out])).le (show 7<=7 by decide)
   replace B1:=B1.below hb2
   replace hbW:Below w.heap.size w u1:=hbW.trans (hb2.mono hbW.size)
   clear hb2
   have hs:=B1.lt
   obtain⟨q1,q2,q3,q4,q5,q6⟩:=B1.cells;obtain⟨n',xs',ys',⟨e1,f1,e2,f2,rfl,hx',hy'⟩,hF⟩:=hF1;go_wp2
   refine ret3 (v:=.agg #[.bool n',.slice e1 xs'.length f1,.slice e2 ys'.length f2]) B1 rfl (fun U hU=>by obtain⟨r1,r2,r3,_⟩:=hU.cells;simp[results,Tryz.results234,go_sem,r1,r2,r3]) (fun U hU hK=>⟨_,rfl,⟨_,_,_,⟨_,_,_,_,rfl,hK _ _ _ hx',hK _ _ _ hy'⟩,hF⟩,hU _ _ hbW (by omega)⟩)
theorem za3(z:Int)(w:World) :
 Calls Tryz.prog 108 #[.int .i64 z] w fun e w'=>e=.returned (.bool (fdB z))/\w=w':=by
 by_cases h1:-32768<=z
 . have g1:decide (-32768<=z)=true:=decide_eq_true h1
   have HE:Hid (decide (z<=32767)=fdB z):=by show _=_;rw[fdB];exact decide_eq_decide.2 ⟨fun h=>⟨h1,h⟩,fun h=>h.2⟩
   go_enter Tryz.func108,Tryz.ntmps108
   go_wp2
   go_ret
   exact⟨zaa HE.out,rfl⟩
 . have g1:decide (-32768<=z)=false:=decide_eq_false h1
   have HE:Hid (false=fdB z):=by show _=_;rw[fdB];exact(decide_eq_false (fun h=>h1 h.1)).symm
   go_enter Tryz.func108,Tryz.ntmps108
   go_wp2
   go_ret
   exact⟨zaa HE.out,rfl⟩
def CT(ts:List Bool)(k c l:Nat):Prop:=c<=k/\(c=0->∀j,j<k->ts.getD j false=false)/\(c=1->l<k/\ts.getD l false=true/\∀j,j<k->ts.getD j false=true->j=l)/\(2<=c->∃j,j<k/\ts.getD j false=true)
theorem CT.zero(ts:List Bool):CT ts 0 0 0:=⟨Nat.le_refl _,(fun _ j hj=>by omega),(fun h=>by omega),(fun h=>by omega)⟩
theorem CT.skip{ts:List Bool}{k c l:Nat}(h:CT ts k c l)(ht:ts.getD k false=false):CT ts (k+1) c l:=by
 obtain⟨h1,h2,h3,h4⟩:=h
 refine⟨by omega,fun h0 j hj=>?_,fun h0=>?_,fun h0=>?_⟩
 . by_cases e:j=k
   . rw[e];exact ht
   . exact h2 h0 j (by omega)
 . obtain⟨a,b,d⟩:=h3 h0
   refine⟨by omega,b,fun j hj htj=>?_⟩
   by_cases e:j=k
   . rw[e,ht]at htj;cases htj
   . exact d j (by omega) htj
 . obtain⟨j,a,b⟩:=h4 h0
   exact⟨j,by omega,b⟩
theorem CT.hit{ts:List Bool}{k c l:Nat}(h:CT ts k c l)(ht:ts.getD k false=true):CT ts (k+1) (c+1) k:=by
 obtain⟨h1,h2,h3,h4⟩:=h
 refine⟨by omega,(fun h0=>by omega),fun h0=>⟨by omega,ht,fun j hj htj=>?_⟩,fun h0=>⟨k,by omega,ht⟩⟩
 by_cases e:j=k
 . exact e
 . rw[h2 (by omega) j (by omega)]at htj;cases htj
theorem zji(a:Option Addr)(ca:Nat)(ns:List Int)(ta:Option Addr)(tc:Nat)(ts:List Bool)(da:Option Addr)(dc:Nat)(cs:List Int)(w:World)(hn:Ri w a ca ns)(ht:Rl w ta tc ts)(hc:Ri w da dc cs) :
 Calls Tryz.prog 184 #[.slice a ns.length ca,.slice ta ts.length tc,.slice da cs.length dc] w fun e w'=>∃a' c',e=.returned (.slice a' (fillQ ns ts cs).length c')/\Rf w' a' c' 7 (fillQ ns ts cs)/\Below w.heap.size w w':=by
 have b1:=hn.lenB
 have b2:=ht.lenB
 have b3:=hc.lenB
 have zkl:¬(ts.length=ns.length/\cs.length=ns.length/\ns.length<=80)->fillQ ns ts cs=[]:=fun h=>zf1 (by unfold fitB;rw[decide_eq_false h];rfl)
 by_cases l1:ts.length=ns.length
 rotate_left
 . rw[zkl (fun h=>l1 h.1)]
   clear hn ht hc zkl
   generalize ns.length=n at *
   generalize ts.length=m at *
   generalize cs.length=m2 at *
   have g1:((n:Int) != (m:Int))=true:=by simp;omega
   go_enter Tryz.func184,Tryz.ntmps184
   go_wp2
   go_ret
   exact⟨none,0,rfl,Rf.nil _ _,Below.refl _ _⟩
 by_cases l2:cs.length=ns.length
 rotate_left
 . rw[zkl (fun h=>l2 h.2.1),l1]
   clear hn ht hc zkl
   generalize ns.length=n at *
   generalize cs.length=m2 at *
   have g1:((n:Int) != (m2:Int))=true:=by simp;omega
   go_enter Tryz.func184,Tryz.ntmps184
   go_wp2
   go_ret
   exact⟨none,0,rfl,Rf.nil _ _,Below.refl _ _⟩
 by_cases l3:ns.length<=80
 rotate_left
 . rw[zkl (fun h=>l3 h.2.2),l1,l2]
   clear hn ht hc zkl
   generalize ns.length=n at *
   have g1:(n:Int) > 80:=by omega
   go_enter Tryz.func184,Tryz.ntmps184
   go_wp2
   go_ret
   exact⟨none,0,rfl,Rf.nil _ _,Below.refl _ _⟩
 have zyj:∀k,k<ns.length->¬(fdB (ns.getD k 0)=true/\fdB (cs.getD k 0)=true)->fillQ ns ts cs=[]:=fun k hk h=>zf1 (by
  cases h9:fitB ns ts cs with
  | false=>rfl
  | true =>
   obtain⟨_,f1,f2⟩:=zdu.1 h9
   exact absurd ⟨zbv.2 (zbn f1 k),zbv.2 (zbn f2 k)⟩ h)
 have HBAD:Hid (∀k,k<ns.length->¬(fdB (ns.getD k 0)=true/\fdB (cs.getD k 0)=true)->fillQ ns ts cs=[]):=zyj
 obtain⟨n,hnn⟩:∃n,ns.length=n:=⟨_,rfl⟩
 have HL:Hid (ns.length=n/\ts.length=n/\cs.length=n):=⟨hnn,by omega,by omega⟩
 have HN:Hid (Ri w a ca ns):=hn
 have HT:Hid (Rl w ta tc ts):=ht
 have HC:Hid (Ri w da dc cs):=hc
 rw[l1,l2,hnn];rw[hnn]at l3;clear hn ht hc zkl l1 l2 hnn zyj b1 b2 b3
 have g1:¬(n:Int) > 80:=by omega
 go_enter Tryz.func184,Tryz.ntmps184
 go_wp2
 go_loopw [8,9,10] (fun cv lv i wr=>∃k c l:Nat,k<=n/\i=.int .i64 k/\cv=.int .i64 c/\lv=.int .i64 l/\CT ts k c l/\(∀j,j<k->fdB (ns.getD j 0)=true/\fdB (cs.getD j 0)=true)/\w=wr) (fun _ _ i _=>n-(intOf i).toNat)
 case atStart=>exact⟨0,0,0,Nat.zero_le _,rfl,rfl,rfl,CT.zero ts,(fun j hj=>by omega),rfl⟩
 case round =>
  obtain⟨k,c,l,hk,rfl,rfl,rfl,hCT,hok,rfl⟩:=hrel
  have hcn:=hCT.1
  by_cases hkn:k<n
  . obtain⟨b0,o0,e0,hb0,d0⟩:=HN.out.at (Below.refl _ _) k (by rw[HL.out.1];exact hkn)
    subst e0
    obtain⟨b1,o1,e1,hb1,d1⟩:=HC.out.at (Below.refl _ _) k (by rw[HL.out.2.2];exact hkn)
    subst e1
    obtain⟨b2,o2,e2,hb2,d2⟩:=HT.out.at (Below.refl _ _) k (by rw[HL.out.2.1];exact hkn)
    subst e2
    have HBK:Hid (¬(fdB (ns.getD k 0)=true/\fdB (cs.getD k 0)=true)->fillQ ns ts cs=[]):=HBAD.out k (by rw[HL.out.1];exact hkn)
    have HCT:Hid (CT ts k c l):=hCT
    have HOK:Hid (∀j,j<k->fdB (ns.getD j 0)=true/\fdB (cs.getD j 0)=true):=hok
    have HNX:Hid (fdB (ns.getD k 0)=true/\fdB (cs.getD k 0)=true->∀j,j<k+1->fdB (ns.getD j 0)=true/\fdB (cs.getD j 0)=true):=fun h=>za4 hok h
    obtain⟨z,hz⟩:∃z,ns.getD k 0=z:=⟨_,rfl⟩
    obtain⟨x,hx⟩:∃z,cs.getD k 0=z:=⟨_,rfl⟩
    obtain⟨tz,htz⟩:∃z,ts.getD k false=z:=⟨_,rfl⟩
    have HTZ:Hid (ts.getD k false=tz):=htz
    rw[hz]at d0 HBK HNX;rw[hx]at d1 HBK HNX;rw[htz]at d2
    have i1:(0:Int)<=(k:Int):=by omega
    have i2:(k:Int)<(n:Int):=by omega
    clear hz hx htz hCT hok
    have hf1:=za3 z w
    have hf2:=za3 x w
    cases hq1:fdB z with
    | false =>
     have HE:Hid (fillQ ns ts cs=[]):=HBK.out (fun h=>by rw[hq1]at h;cases h.1)
     rw[hq1]at hf1;clear hq1 HBK HNX
     go_wp2_with fail
     refine hf1.mono ?_
     rintro e u0 ⟨rfl,rfl⟩;go_wp2
     go_ret
     exact⟨none,0,by rw[HE.out];rfl,by rw[HE.out];exact Rf.nil _ _,Below.refl _ _⟩
    | true =>
    cases hq2:fdB x with
    | false =>
     have HE:Hid (fillQ ns ts cs=[]):=HBK.out (fun h=>by rw[hq2]at h;cases h.2)
     rw[hq1]at hf1;rw[hq2]at hf2;clear hq1 hq2 HBK HNX
     go_wp2_with fail
     refine hf1.mono ?_
     rintro e u0 ⟨rfl,rfl⟩
     go_wp2_with fail
     refine hf2.mono ?_
     rintro e u0 ⟨rfl,rfl⟩;go_wp2
     go_ret
     exact⟨none,0,by rw[HE.out];rfl,by rw[HE.out];exact Rf.nil _ _,Below.refl _ _⟩
    | true =>
    replace HNX:Hid (∀j,j<k+1->fdB (ns.getD j 0)=true/\fdB (cs.getD j 0)=true):=HNX.out ⟨hq1,hq2⟩
    rw[hq1]at hf1;rw[hq2]at hf2;clear hq1 hq2 HBK
    go_wp2_with fail
    refine hf1.mono ?_
    rintro e u0 ⟨rfl,rfl⟩
    go_wp2_with fail
    refine hf2.mono ?_
    rintro e u0 ⟨rfl,rfl⟩;clear hf1 hf2
    cases tz with
    | false =>
     go_wp2
     go_roundw
     case rel=>exact⟨k+1,c,l,by omega,by go_num,rfl,rfl,HCT.out.skip HTZ.out,HNX.out,trivial⟩
     case measure=>simp[intOf];omega
    | true =>
     go_wp2
     go_roundw
     case rel=>exact⟨k+1,c+1,k,by omega,by go_num,by go_num,rfl,HCT.out.hit HTZ.out,HNX.out,trivial⟩
     case measure=>simp[intOf];omega
  . obtain rfl:n=k:=by omega
    have g2:¬(n:Int)<(n:Int):=by omega
    have hF:fitB ns ts cs=true:=zdu.2 ⟨⟨by rw[HL.out.1,HL.out.2.1],by rw[HL.out.1,HL.out.2.2],by rw[HL.out.1];exact l3⟩,fun z hz=>by
     obtain⟨j,hj,e⟩:=List.getElem_of_mem hz
     have:=(hok j (by rw[HL.out.1]at hj;exact hj)).1
     rw[List.getD_eq_getElem?_getD,List.getElem?_eq_getElem hj,Option.getD_some,e]at this
     exact zbv.1 this,fun z hz=>by
     obtain⟨j,hj,e⟩:=List.getElem_of_mem hz
     have:=(hok j (by rw[HL.out.2.2]at hj;exact hj)).2
     rw[List.getD_eq_getElem?_getD,List.getElem?_eq_getElem hj,Option.getD_some,e]at this
     exact zbv.1 this⟩
    obtain⟨_,f1,f2⟩:=zdu.1 hF
    have HF1:Hid (∀z∈ns,-32768<=z/\z<=32767):=f1
    have HF2:Hid (∀z∈cs,-32768<=z/\z<=32767):=f2
    have HCT:Hid (CT ts n c l):=hCT
    have HR:Hid (fillQ ns ts cs=(List.range n).map (fiQ ns ts cs)):=by have:=zgt hF;rw[HL.out.1]at this;exact this
    clear hCT hok hF f1 f2 HBAD;go_wp2
    go_loopw [11,12] (fun v i wr=>∃k:Nat,k<=n/\i=.int .i64 k/\Ro 130 w.heap.size wr v 7 ((List.range k).map (fiQ ns ts cs))/\Below w.heap.size w wr) (fun _ i _=>n-(intOf i).toNat)
    case atStart=>exact⟨0,Nat.zero_le _,rfl,Ro.nil _ _ _ _,Below.refl _ _⟩
    case round =>
     obtain⟨k,hk,rfl,hT,hB⟩:=hrel;obtain⟨a2,c2,rfl,hts⟩:=hT.rf
     have hlen:((List.range k).map (fiQ ns ts cs)).length=k:=by simp
     rw[hlen]at hT ⊢
     have HT2:Hid (Ro 130 w.heap.size wr (.slice a2 k c2) 7 ((List.range k).map (fiQ ns ts cs))):=hT
     have HTS:Hid (Rf wr a2 c2 7 ((List.range k).map (fiQ ns ts cs))):=hts
     clear hT hts
     have hsz:=hB.size
     by_cases hkn:k<n
     . have HS:Hid (_):=zgg (fiQ ns ts cs) k
       have hll:((List.range k).map (fiQ ns ts cs)).length+[fiQ ns ts cs k].length<=1000000:=by rw[hlen];simp;omega
       by_cases hc0:c=0
       . have HQ:Hid (fiQ ns ts cs k=0):=zto (by rw[HL.out.2.1];exact hkn) (fun j hj=>HCT.out.2.1 hc0 j (by rw[HL.out.2.1]at hj;exact hj))
         have gc:((c:Int)==0)=true:=by simp;omega
         clear hc0
         generalize (List.range k).map (fiQ ns ts cs)=L at *
         go_wp2_with fail
         refine(zba _).mono ?_
         rintro e u1 ⟨v1,rfl,hF1,hb1⟩
         replace hF1:=(hF1.eq (r:=fiQ ns ts cs k) HQ.out.symm).le (show 2<=7 by decide)
         obtain⟨z1,x1,x2,x3,x4,x5,x6,rfl⟩:=hF1.cells3'
         obtain⟨V,hV,B4,hb4⟩:∃V,V=u1.alloc (.cells #[.bool z1,.slice x1 x2 x3,.slice x4 x5 x6] 130)/\Box 130 V u1.heap.size (.bool z1) (.slice x1 x2 x3) (.slice x4 x5 x6)/\Below u1.heap.size u1 V:=⟨_,rfl,Box.new _ _ _ _ _,bl1 _⟩
         have hbv:Below wr.heap.size wr V:=hb1.trans (hb4.mono hb1.size)
         obtain⟨r0,r1,r2,_⟩:=B4.cells
         have zbj:=Rz.one B4.lt r0 r1 r2 (hF1.below hb4)
         have hown:=HT2.out.below hbv
         have hbs:w.heap.size<=V.heap.size:=Nat.le_trans hsz hbv.size
         have hBV:Below w.heap.size w V:=hB.trans (hbv.mono hsz)
         have zqr:∀g,(Value.slice a2 k c2).ownBlock=some g->w.heap.size<=g:=fun g hg=>(HT2.out.lo hg).1
         clear hF1 hb1 hb4 hbv B4 r0 r1 r2
         go_wp2_with (at_builtin;rw[<-hV];refine zag 134 130 Tryz.underlying134 zbq rfl _ _ rfl w.heap.size (.slice a2 k c2) 7 _ _ rfl hown _ 1 1 rfl rfl zbj (fun e=>by cases e) (fun ad e=>by cases e;exact⟨_,_,rfl⟩) hll hbs ?_)
         intro v9 w9 hT9 hgrow _
         rw[<-hV]at hgrow
         have hB9:Below w.heap.size w w9:=hBV.grown hgrow hbs zqr
         rw[<-HS.out]at hT9;clear hgrow hbs hll HS zbj hown hV;go_wp2
         go_roundw
         case rel=>exact⟨k+1,by omega,by go_num,hT9,hB9⟩
         case measure=>simp[intOf];omega
       have gc:((c:Int)==0)=false:=by simp;omega
       obtain⟨tb,to',et,htb,dt⟩:=HT.out.at hB k (by rw[HL.out.2.1];exact hkn)
       subst et
       obtain⟨tz,htz⟩:∃z,ts.getD k false=z:=⟨_,rfl⟩
       rw[htz]at dt
       have i1:(0:Int)<=(k:Int):=by omega
       have i2:(k:Int)<(n:Int):=by omega
       cases tz with
       | true =>
        obtain⟨b1,o1,e1,zcp,d1⟩:=HC.out.at hB k (by rw[HL.out.2.2];exact hkn)
        subst e1
        have hzb:=zbn HF2.out k
        have HQ:Hid (fiQ ns ts cs k=((cs.getD k 0:Int):Rat)):=zll htz
        obtain⟨z,hz⟩:∃z,cs.getD k 0=z:=⟨_,rfl⟩
        rw[hz]at d1 hzb HQ
        generalize (List.range k).map (fiQ ns ts cs)=L at *
        clear hz htz
        go_wp2_with fail
        refine(zam z _ (by omega) (by omega)).mono ?_
        rintro e u1 ⟨v1,rfl,hF1,hb1⟩
        replace hF1:=(hF1.eq (r:=fiQ ns ts cs k) HQ.out.symm).le (show 2<=7 by decide)
        obtain⟨z1,x1,x2,x3,x4,x5,x6,rfl⟩:=hF1.cells3'
        obtain⟨V,hV,B4,hb4⟩:∃V,V=u1.alloc (.cells #[.bool z1,.slice x1 x2 x3,.slice x4 x5 x6] 130)/\Box 130 V u1.heap.size (.bool z1) (.slice x1 x2 x3) (.slice x4 x5 x6)/\Below u1.heap.size u1 V:=⟨_,rfl,Box.new _ _ _ _ _,bl1 _⟩
        have hbv:Below wr.heap.size wr V:=hb1.trans (hb4.mono hb1.size)
        obtain⟨r0,r1,r2,_⟩:=B4.cells
        have zbj:=Rz.one B4.lt r0 r1 r2 (hF1.below hb4)
        have hown:=HT2.out.below hbv
        have hbs:w.heap.size<=V.heap.size:=Nat.le_trans hsz hbv.size
        have hBV:Below w.heap.size w V:=hB.trans (hbv.mono hsz)
        have zqr:∀g,(Value.slice a2 k c2).ownBlock=some g->w.heap.size<=g:=fun g hg=>(HT2.out.lo hg).1
        clear hF1 hb1 hb4 hbv B4 r0 r1 r2
        go_wp2_with (at_builtin;rw[<-hV];refine zag 134 130 Tryz.underlying134 zbq rfl _ _ rfl w.heap.size (.slice a2 k c2) 7 _ _ rfl hown _ 1 1 rfl rfl zbj (fun e=>by cases e) (fun ad e=>by cases e;exact⟨_,_,rfl⟩) hll hbs ?_)
        intro v9 w9 hT9 hgrow _
        rw[<-hV]at hgrow
        have hB9:Below w.heap.size w w9:=hBV.grown hgrow hbs zqr
        rw[<-HS.out]at hT9;clear hgrow hbs hll HS zbj hown hV;go_wp2
        go_roundw
        case rel=>exact⟨k+1,by omega,by go_num,hT9,hB9⟩
        case measure=>simp[intOf];omega
       | false =>
        by_cases hc1:c=1
        . obtain⟨zhn,hlt,hlu⟩:=HCT.out.2.2.1 hc1
          have gc1:((c:Int)==1)=true:=by simp;omega
          obtain⟨b1,o1,e1,zcp,d1⟩:=HC.out.at hB l (by rw[HL.out.2.2];exact zhn)
          subst e1
          have hzb:=zbn HF2.out l
          have HQ:Hid (fiQ ns ts cs k=((cs.getD l 0:Int):Rat)):=zwi (by rw[HL.out.2.1];exact hkn) (by rw[HL.out.2.1];exact zhn) hlt (fun j hj=>hlu j (by rw[HL.out.2.1]at hj;exact hj))
          obtain⟨z,hz⟩:∃z,cs.getD l 0=z:=⟨_,rfl⟩
          rw[hz]at d1 hzb HQ
          have i3:(0:Int)<=(l:Int):=by omega
          have i4:(l:Int)<(n:Int):=by omega
          generalize (List.range k).map (fiQ ns ts cs)=L at *
          clear hz htz hlu hlt hc1
          go_wp2_with fail
          refine(zam z _ (by omega) (by omega)).mono ?_
          rintro e u1 ⟨v1,rfl,hF1,hb1⟩
          replace hF1:=(hF1.eq (r:=fiQ ns ts cs k) HQ.out.symm).le (show 2<=7 by decide)
          obtain⟨z1,x1,x2,x3,x4,x5,x6,rfl⟩:=hF1.cells3'
          obtain⟨V,hV,B4,hb4⟩:∃V,V=u1.alloc (.cells #[.bool z1,.slice x1 x2 x3,.slice x4 x5 x6] 130)/\Box 130 V u1.heap.size (.bool z1) (.slice x1 x2 x3) (.slice x4 x5 x6)/\Below u1.heap.size u1 V:=⟨_,rfl,Box.new _ _ _ _ _,bl1 _⟩
          have hbv:Below wr.heap.size wr V:=hb1.trans (hb4.mono hb1.size)
          obtain⟨r0,r1,r2,_⟩:=B4.cells
          have zbj:=Rz.one B4.lt r0 r1 r2 (hF1.below hb4)
          have hown:=HT2.out.below hbv
          have hbs:w.heap.size<=V.heap.size:=Nat.le_trans hsz hbv.size
          have hBV:Below w.heap.size w V:=hB.trans (hbv.mono hsz)
          have zqr:∀g,(Value.slice a2 k c2).ownBlock=some g->w.heap.size<=g:=fun g hg=>(HT2.out.lo hg).1
          clear hF1 hb1 hb4 hbv B4 r0 r1 r2
          go_wp2_with (at_builtin;rw[<-hV];refine zag 134 130 Tryz.underlying134 zbq rfl _ _ rfl w.heap.size (.slice a2 k c2) 7 _ _ rfl hown _ 1 1 rfl rfl zbj (fun e=>by cases e) (fun ad e=>by cases e;exact⟨_,_,rfl⟩) hll hbs ?_)
          intro v9 w9 hT9 hgrow _
          rw[<-hV]at hgrow
          have hB9:Below w.heap.size w w9:=hBV.grown hgrow hbs zqr
          rw[<-HS.out]at hT9;clear hgrow hbs hll HS zbj hown hV;go_wp2
          go_roundw
          case rel=>exact⟨k+1,by omega,by go_num,hT9,hB9⟩
          case measure=>simp[intOf];omega
        . have gc1:((c:Int)==1)=false:=by simp;omega
          have hkt:k<ts.length:=by rw[HL.out.2.1];exact hkn
          have hA:=zn4 k (some ⟨tb,to',none⟩) tc ts wr (HT.out.below hB) hkt (by rw[HL.out.2.1];omega)
          have hBn:=zn3 k (some ⟨tb,to',none⟩) tc ts wr (HT.out.below hB) hkt (by rw[HL.out.2.1];omega)
          rcases nbAB hkt with ⟨k1,k2,k3⟩|⟨p,q,k1,k2,k3,k4,k5,k6,k7,k8⟩
          . obtain⟨j,hj1,hj2⟩:=HCT.out.2.2.2 (by omega)
            by_cases ej:j=k
            . rw[ej,htz]at hj2;cases hj2
            . rw[k3 j (by rw[HL.out.2.1];exact hj1) ej]at hj2;cases hj2
          . have HQ0:Hid (fiQ ns ts cs k=infQ (ns.getD p 0) (cs.getD p 0) (ns.getD q 0) (cs.getD q 0) (ns.getD k 0)):=zlk htz k1 k2
            rw[k1]at hA;rw[k2]at hBn
            dsimp only[Option.getD]at hA hBn
            rw[HL.out.2.1]at hA hBn k3 k4
            obtain⟨b0,o0,e0,zti,-⟩:=HN.out.at hB k (by rw[HL.out.1];exact hkn)
            subst e0
            obtain⟨b1,o1,e1,zxd,-⟩:=HC.out.at hB k (by rw[HL.out.2.2];exact hkn)
            subst e1
            have bk:=zbn HF1.out k
            have bp1:=zbn HF1.out p
            have bp2:=zbn HF2.out p
            have bq1:=zbn HF1.out q
            have bq2:=zbn HF2.out q
            obtain⟨zk,ezk⟩:∃z,ns.getD k 0=z:=⟨_,rfl⟩
            obtain⟨zp,ezp⟩:∃z,ns.getD p 0=z:=⟨_,rfl⟩
            obtain⟨yp,eyp⟩:∃z,cs.getD p 0=z:=⟨_,rfl⟩
            obtain⟨zq,ezq⟩:∃z,ns.getD q 0=z:=⟨_,rfl⟩
            obtain⟨yq,eyq⟩:∃z,cs.getD q 0=z:=⟨_,rfl⟩
            have d0:=HN.out.cell hB (k:=k) (by rw[HL.out.1];exact hkn) ezk
            have d1:=HN.out.cell hB (k:=p) (by rw[HL.out.1];exact k3) ezp
            have d2:=HN.out.cell hB (k:=q) (by rw[HL.out.1];exact k4) ezq
            have d3:=HC.out.cell hB (k:=p) (by rw[HL.out.2.2];exact k3) eyp
            have d4:=HC.out.cell hB (k:=q) (by rw[HL.out.2.2];exact k4) eyq
            have HQ:Hid (fiQ ns ts cs k=infQ zp yp zq yq zk):=by show _=_;rw[HQ0.out,ezk,ezp,eyp,ezq,eyq]
            rw[ezk]at bk;rw[ezp]at bp1;rw[eyp]at bp2;rw[ezq]at bq1;rw[eyq]at bq2
            have i3:(0:Int)<=(p:Int):=by omega
            have i4:(p:Int)<(n:Int):=by omega
            have i5:(0:Int)<=(q:Int):=by omega
            have i6:(q:Int)<(n:Int):=by omega
            clear HQ0 k1 k2 k5 k6 k7 k8 ezk ezp eyp ezq eyq htz hkt
            generalize (List.range k).map (fiQ ns ts cs)=L at *
            go_wp2_with fail
            refine hA.mono ?_
            rintro e u0 ⟨rfl,rfl⟩;clear hA
            go_wp2_with fail
            refine hBn.mono ?_
            rintro e u0 ⟨rfl,rfl⟩;clear hBn dt
            go_wp2_with fail
            refine wp_region_held_drew (S:=fun w9=>w9.cell? ⟨b0,o0+k,none⟩=some (.int .i64 zk)/\w9.cell? ⟨b0,o0+p,none⟩=some (.int .i64 zp)/\w9.cell? ⟨b0,o0+q,none⟩=some (.int .i64 zq)/\w9.cell? ⟨b1,o1+p,none⟩=some (.int .i64 yp)/\w9.cell? ⟨b1,o1+q,none⟩=some (.int .i64 yq)) (by kernel_rfl) ?_ (fun hH=>?_)
            . (try dsimp only)
              go_keep
            have hdr:Below wr.heap.size wr wr.drew:=Below.drew1
            generalize wr.drew=Z at hdr hH ⊢
            have hBq:Below w.heap.size w Z:=hB.trans (hdr.mono hB.size)
            have hown:=HT2.out.below hdr
            clear hdr d0 d1 d2 d3 d4;refine hT 0 hH ?_;refine hT 1 hH ?_;refine hT 2 hH ?_;refine hT 3 hH ?_;refine hT 4 hH ?_;refine hT 5 hH ?_;refine hT 6 hH ?_;refine hT 7 hH ?_;refine hT 8 hH ?_;refine hT 9 hH ?_;refine hT 10 hH ?_;refine hT 11 hH ?_
            refine hT 12 hH ?_;refine hT 13 hH ?_;refine hT 14 hH ?_;refine hT 15 hH ?_;refine hT 16 hH ?_;refine hT 17 hH ?_;refine hT 18 hH ?_;refine hT 19 hH ?_;refine hT 20 hH ?_
            refine hCall (i:=21) rfl (by kernel_rfl) (by rfl) (fun K hK=>?_)
            go_simp
            refine(zso zp yp zq yq zk Z bp1 bp2 bq1 bq2 bk).mono ?_
            rintro e u1 ⟨v1,rfl,hF1,hb1⟩
            replace hF1:=hF1.eq (r:=fiQ ns ts cs k) HQ.out.symm
            have hHz:u1.cell? ⟨b0,o0+k,none⟩=some (.int .i64 zk)/\u1.cell? ⟨b0,o0+p,none⟩=some (.int .i64 zp)/\u1.cell? ⟨b0,o0+q,none⟩=some (.int .i64 zq)/\u1.cell? ⟨b1,o1+p,none⟩=some (.int .i64 yp)/\u1.cell? ⟨b1,o1+q,none⟩=some (.int .i64 yq):=by
             exact⟨(hb1.cell (p:=⟨b0,o0+k,none⟩) (Nat.lt_of_lt_of_le zti hBq.size)).trans hH.1,(hb1.cell (p:=⟨b0,o0+p,none⟩) (Nat.lt_of_lt_of_le zti hBq.size)).trans hH.2.1,(hb1.cell (p:=⟨b0,o0+q,none⟩) (Nat.lt_of_lt_of_le zti hBq.size)).trans hH.2.2.1,(hb1.cell (p:=⟨b1,o1+p,none⟩) (Nat.lt_of_lt_of_le zxd hBq.size)).trans hH.2.2.2.1,(hb1.cell (p:=⟨b1,o1+q,none⟩) (Nat.lt_of_lt_of_le zxd hBq.size)).trans hH.2.2.2.2⟩
            replace hBq:=hBq.trans (hb1.mono hBq.size)
            replace hown:=hown.below hb1;clear hb1;obtain⟨z1,x1,x2,x3,x4,x5,x6,rfl⟩:=hF1.cells3'
            go_wp2_with fail
            refine hK.out _ _ ?_ (fun hH=>?_)
            . (try dsimp only)
              exact hHz
            clear hK K hHz
            try simp only[Act.put,pZ]
            obtain⟨V,hV,B4,hb4⟩:∃V,V=u1.alloc (.cells #[.bool z1,.slice x1 x2 x3,.slice x4 x5 x6] 130)/\Box 130 V u1.heap.size (.bool z1) (.slice x1 x2 x3) (.slice x4 x5 x6)/\Below u1.heap.size u1 V:=⟨_,rfl,Box.new _ _ _ _ _,bl1 _⟩
            obtain⟨r0,r1,r2,_⟩:=B4.cells
            have zbj:=Rz.one B4.lt r0 r1 r2 (hF1.below hb4)
            refine hCall (i:=22) rfl (by kernel_rfl) (by rfl) (fun K hK=>?_)
            go_simp;rw[<-hV];clear hV
            have hHz:V.cell? ⟨b0,o0+k,none⟩=some (.int .i64 zk)/\V.cell? ⟨b0,o0+p,none⟩=some (.int .i64 zp)/\V.cell? ⟨b0,o0+q,none⟩=some (.int .i64 zq)/\V.cell? ⟨b1,o1+p,none⟩=some (.int .i64 yp)/\V.cell? ⟨b1,o1+q,none⟩=some (.int .i64 yq):=by
             exact⟨(hb4.cell (p:=⟨b0,o0+k,none⟩) (Nat.lt_of_lt_of_le zti hBq.size)).trans hH.1,(hb4.cell (p:=⟨b0,o0+p,none⟩) (Nat.lt_of_lt_of_le zti hBq.size)).trans hH.2.1,(hb4.cell (p:=⟨b0,o0+q,none⟩) (Nat.lt_of_lt_of_le zti hBq.size)).trans hH.2.2.1,(hb4.cell (p:=⟨b1,o1+p,none⟩) (Nat.lt_of_lt_of_le zxd hBq.size)).trans hH.2.2.2.1,(hb4.cell (p:=⟨b1,o1+q,none⟩) (Nat.lt_of_lt_of_le zxd hBq.size)).trans hH.2.2.2.2⟩
            replace hBq:=hBq.trans (hb4.mono hBq.size)
            replace hown:=hown.below hb4;clear hb4 hF1 r0 r1 r2 B4
            refine hK.out _ _ ?_ (fun hH=>?_)
            . (try dsimp only)
              exact hHz
            clear hK K hHz
            try simp only[Act.put,pZ]
            refine hCall (i:=23) rfl (by kernel_rfl) (by rfl) (fun K hK=>?_)
            refine za6 134 130 Tryz.underlying134 zbq _ _ rfl w.heap.size (.slice a2 k c2) 7 _ _ rfl hown _ 1 1 rfl rfl zbj (fun e=>by cases e) (fun ad e=>by cases e;exact⟨_,_,rfl⟩) hll hBq.size ?_
            intro v9 w9 hT9 hgrow _
            have hB9:Below w.heap.size w w9:=hBq.grown hgrow hBq.size (fun g hg=>(HT2.out.lo hg).1)
            rw[<-HS.out]at hT9
            have hHz:w9.cell? ⟨b0,o0+k,none⟩=some (.int .i64 zk)/\w9.cell? ⟨b0,o0+p,none⟩=some (.int .i64 zp)/\w9.cell? ⟨b0,o0+q,none⟩=some (.int .i64 zq)/\w9.cell? ⟨b1,o1+p,none⟩=some (.int .i64 yp)/\w9.cell? ⟨b1,o1+q,none⟩=some (.int .i64 yq):=by
             have hk:∀b,b<w.heap.size->w9.heap[b]?=V.heap[b]?:=fun b hb=>hgrow.block b (Nat.lt_of_lt_of_le hb hBq.size) (fun e=>by have:=(HT2.out.lo (g:=b) e.symm).1;omega)
             exact⟨(World.cell?_of_block (w:=V) (a:=⟨b0,o0+k,none⟩) (hk b0 zti)).trans hH.1,(World.cell?_of_block (w:=V) (a:=⟨b0,o0+p,none⟩) (hk b0 zti)).trans hH.2.1,(World.cell?_of_block (w:=V) (a:=⟨b0,o0+q,none⟩) (hk b0 zti)).trans hH.2.2.1,(World.cell?_of_block (w:=V) (a:=⟨b1,o1+p,none⟩) (hk b1 zxd)).trans hH.2.2.2.1,(World.cell?_of_block (w:=V) (a:=⟨b1,o1+q,none⟩) (hk b1 zxd)).trans hH.2.2.2.2⟩
            refine hK.out _ _ ?_ (fun hH=>?_)
            . (try dsimp only)
              exact hHz
            clear hK K hHz hgrow hown zbj
            try simp only[Act.put,pZ]
            refine hT 24 hH ?_
            refine wpAnyH_done (by kernel_rfl) ?_ _
            clear hH;go_wp2
            go_roundw
            case rel=>exact⟨k+1,by omega,by go_num,hT9,hB9⟩
            case measure=>simp[intOf];omega
     . obtain rfl:k=n:=by omega
       have g4:¬(k:Int)<(k:Int):=by omega
       go_wp2
       go_ret
       exact⟨a2,c2,by rw[HR.out,hlen];rfl,by rw[HR.out];exact HTS.out,hB⟩
def PnF(p:Pn):Prop:=(-32768<=p.x/\p.x<=32767)/\(-32768<=p.y/\p.y<=32767)
