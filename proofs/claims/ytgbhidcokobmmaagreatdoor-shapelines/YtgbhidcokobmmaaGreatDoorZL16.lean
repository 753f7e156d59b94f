import Derived.Test.YtgbhidcokobmmaaGreatDoorZL14
import Derived.Test.YtgbhidcokobmmaaGreatDoorZL15
set_option maxHeartbeats 2000000
set_option maxRecDepth 100000
set_option linter.unusedSimpArgs false
set_option linter.unusedVariables false
namespace Go.Proofs.YtgbhidcokobmmaaGreatDoor
structure Tu where
 rg:List Te
 al:Bool
 pts:List Int
 dx:List Int
 dy:List Int
def Tu.none:Tu:=⟨[],false,[],[],[]⟩
structure Gl where
 o:Ol
 ts:List Tu
 ab:Int
 ar:Int
 mr:Bool
def Gl.none:Gl:=⟨Ol.none,[],0,0,false⟩
def gAt(l:List Gl)(g:Int):Option Gl:=if 0<=g then l[g.toNat]? else none
theorem zwp{l:List Gl}{g:Int}(h:g<0):gAt l g=none:=if_neg (by omega)
theorem zwr{l:List Gl}{g:Int}(h:(l.length:Int)<=g):gAt l g=none:=by
 unfold gAt
 rw[if_pos (by omega),List.getElem?_eq_none (by omega)]
theorem zwq{l:List Gl}{k:Nat}(h:k<l.length):gAt l (k:Int)=some (l.getD k Gl.none):=by
 unfold gAt
 rw[if_pos (by omega),Int.toNat_natCast,List.getElem?_eq_getElem h]
 simp[List.getD,h]
theorem zte{l:List Gl}{g:Int}(h:gAt l g=none):g<0\/(l.length:Int)<=g:=by
 unfold gAt at h
 split at h
 . have:=List.getElem?_eq_none_iff.1 h
   omega
 . omega
def ptn(x:Gl):Nat:=x.o.cs.flatten.length
def sqs(f:Int->Nat):List Pa->Nat
 | []=>0
 | p::ps=>f p.g+sqs f ps
def sq(l:List Gl):Nat->Int->Nat
 | 0,g=>match gAt l g with | none=>0 | some x=>ptn x+sqs (fun _=>0) x.o.ps
 | n+1,g=>match gAt l g with | none=>0 | some x=>ptn x+sqs (sq l n) x.o.ps
def cap(n:Nat):Nat:=min n 2001
open Go.RowKit Go.Maps
def TeE:El Te:=(El.int.cat (El.int.cat El.int)).via (fun t=>(t.st,t.pk,t.en)) Te.none
def teV(t:Te):List Value:=[.int .i64 t.st,.int .i64 t.pk,.int .i64 t.en]
theorem zrr{S:Nat->Prop}{w:World}{vs:List Value}{p:Te}:TeE.rep S w vs p↔vs=teV p/\Tw p:=by
 constructor
 . rintro ⟨us,ts,rfl,⟨rfl,h1⟩,us2,ts2,rfl,⟨rfl,h2⟩,⟨rfl,h3⟩⟩
   exact⟨rfl,h1,h2,h3⟩
 . rintro ⟨rfl,h1,h2,h3⟩
   exact⟨[_],_,rfl,⟨rfl,h1⟩,[_],[_],rfl,⟨rfl,h2⟩,⟨rfl,h3⟩⟩
theorem Gr.tz{S:Nat->Prop}{w:World}{a:Option Addr}{cap:Nat}{l:List Te}(h:Gr TeE S w a cap l):Tz w a cap l:=by
 refine⟨h.1,h.2.1,fun t ht=>?_,h.2.2.1,fun i hi=>?_⟩
 . obtain⟨i,hi,e⟩:=List.getElem_of_mem ht
   obtain⟨b,off,vs,e1,hb,hr,hc⟩:=h.2.2.2 i hi
   have h2:=(zrr.1 hr).2
   rw[List.getD_eq_getElem?_getD,List.getElem?_eq_getElem hi,Option.getD_some,e]at h2
   exact h2
 . obtain⟨b,off,vs,e1,hb,hr,hc⟩:=h.2.2.2 i hi
   obtain⟨rfl,h2⟩:=zrr.1 hr
   exact⟨b,off,e1,hb,hc 0 (by decide),hc 1 (by decide),hc 2 (by decide)⟩
def TuE:El Tu:=(TeE.row.cat (El.bool.cat (El.int.row.cat (El.int.row.cat El.int.row)))).via (fun t=>(t.rg,t.al,t.pts,t.dx,t.dy)) Tu.none
def TuC(S:Nat->Prop)(w:World)(ra:Option Addr)(rc:Nat)(pa:Option Addr)(pc:Nat)(xa:Option Addr)(xc:Nat)(ya:Option Addr)(yc:Nat)(t:Tu):Prop :=
 TeE.row.rep S w [.slice ra t.rg.length rc] t.rg/\El.int.row.rep S w [.slice pa t.pts.length pc] t.pts/\El.int.row.rep S w [.slice xa t.dx.length xc] t.dx/\El.int.row.rep S w [.slice ya t.dy.length yc] t.dy
theorem zw9{S:Nat->Prop}{w:World}{vs:List Value}{t:Tu}:TuE.rep S w vs t ↔ ∃ra rc pa pc xa xc ya yc,vs=[.slice ra t.rg.length rc,.bool t.al,.slice pa t.pts.length pc,.slice xa t.dx.length xc,.slice ya t.dy.length yc]/\TuC S w ra rc pa pc xa xc ya yc t:=by
 constructor
 . rintro ⟨us,ts,rfl,h1,us2,ts2,rfl,h2,us3,ts3,rfl,h3,us4,ts4,rfl,h4,h5⟩
   have h2:us2=[.bool t.al]:=h2
   subst h2
   have r1:=h1
   obtain⟨ra,rc,e1,_⟩:=h1
   have r3:=h3
   obtain⟨pa,pc,e3,_⟩:=h3
   have r4:=h4
   obtain⟨xa,xc,e4,_⟩:=h4
   have r5:=h5
   obtain⟨ya,yc,e5,_⟩:=h5;subst e1 e3 e4 e5
   exact⟨ra,rc,pa,pc,xa,xc,ya,yc,rfl,r1,r3,r4,r5⟩
 . rintro ⟨ra,rc,pa,pc,xa,xc,ya,yc,rfl,h1,h2,h3,h4⟩
   exact⟨_,_,rfl,h1,[.bool t.al],_,rfl,rfl,_,_,rfl,h2,_,_,rfl,h3,h4⟩
theorem zda{α:Type}{E:El α}{S:Nat->Prop}{w:World}{a:Option Addr}{c:Nat}{l:List α}(h:E.row.rep S w [.slice a l.length c] l):Gr E S w a c l/\l.length<=140737488351232:=by
 obtain⟨a',c',e,_,h1,h2⟩:=h;injection e with e;injection e with e1 e2 e3;subst e1 e3
 exact⟨h1,h2⟩
theorem TuC.len{S:Nat->Prop}{w:World}{ra:Option Addr}{rc:Nat}{pa:Option Addr}{pc:Nat}{xa:Option Addr}{xc:Nat}{ya:Option Addr}{yc:Nat}{t:Tu}(h:TuC S w ra rc pa pc xa xc ya yc t):t.rg.length<=140737488351232/\t.pts.length<=140737488351232/\t.dx.length<=140737488351232/\t.dy.length<=140737488351232:=⟨(zda h.1).2,(zda h.2.1).2,(zda h.2.2.1).2,(zda h.2.2.2).2⟩
theorem Gr.tu{S:Nat->Prop}{w wr:World}{a:Option Addr}{cap:Nat}{l:List Tu}(h:Gr TuE S w a cap l)(hb:Below w.heap.size w wr)(k:Nat)(hk:k<l.length) :
 ∃b off ra rc pa pc xa xc ya yc,a=some ⟨b,off,none⟩/\b<w.heap.size/\TuC S wr ra rc pa pc xa xc ya yc (l.getD k Tu.none) /\
     wr.cell? ⟨b,off+k*5,none⟩=some (.slice ra (l.getD k Tu.none).rg.length rc)/\wr.cell? ⟨b,off+k*5+1,none⟩=some (.bool (l.getD k Tu.none).al)/\wr.cell? ⟨b,off+k*5+2,none⟩=some (.slice pa (l.getD k Tu.none).pts.length pc)/\wr.cell? ⟨b,off+k*5+3,none⟩=some (.slice xa (l.getD k Tu.none).dx.length xc)/\wr.cell? ⟨b,off+k*5+4,none⟩=some (.slice ya (l.getD k Tu.none).dy.length yc):=by
 obtain⟨b,off,vs,e,h1,hr,hc⟩:=h.at hb k hk
 obtain⟨ra,rc,pa,pc,xa,xc,ya,yc,rfl,ht⟩:=zw9.1 hr
 exact⟨b,off,ra,rc,pa,pc,xa,xc,ya,yc,e,h1,ht,hc 0 (by decide),hc 1 (by decide),hc 2 (by decide),hc 3 (by decide),hc 4 (by decide)⟩
def GlE:El Gl:=(PnE.row.row.cat (PaE.row.cat (TuE.row.cat (El.int.cat (El.int.cat El.bool))))).via (fun x=>(x.o.cs,x.o.ps,x.ts,x.ab,x.ar,x.mr)) Gl.none
def GlC(S:Nat->Prop)(w:World)(ca:Option Addr)(cc:Nat)(pa:Option Addr)(pc:Nat)(ta:Option Addr)(tc:Nat)(x:Gl):Prop :=
 PnE.row.row.rep S w [.slice ca x.o.cs.length cc] x.o.cs/\PaE.row.rep S w [.slice pa x.o.ps.length pc] x.o.ps/\TuE.row.rep S w [.slice ta x.ts.length tc] x.ts/\I64 x.ab/\I64 x.ar
theorem zrw{S:Nat->Prop}{w:World}{vs:List Value}{x:Gl}:GlE.rep S w vs x ↔ ∃ca cc pa pc ta tc,vs=[.slice ca x.o.cs.length cc,.slice pa x.o.ps.length pc,.slice ta x.ts.length tc,.int .i64 x.ab,.int .i64 x.ar,.bool x.mr]/\GlC S w ca cc pa pc ta tc x:=by
 constructor
 . rintro ⟨us,ts,rfl,h1,us2,ts2,rfl,h2,us3,ts3,rfl,h3,us4,ts4,rfl,⟨rfl,h4⟩,us5,ts5,rfl,⟨rfl,h5⟩,h6⟩
   have h6:ts5=[.bool x.mr]:=h6
   subst h6
   have r1:=h1
   obtain⟨ca,cc,e1,_⟩:=h1
   have r2:=h2
   obtain⟨pa,pc,e2,_⟩:=h2
   have r3:=h3
   obtain⟨ta,tc,e3,_⟩:=h3;subst e1 e2 e3
   exact⟨ca,cc,pa,pc,ta,tc,rfl,r1,r2,r3,h4,h5⟩
 . rintro ⟨ca,cc,pa,pc,ta,tc,rfl,h1,h2,h3,h4,h5⟩
   exact⟨_,_,rfl,h1,_,_,rfl,h2,_,_,rfl,h3,[.int .i64 x.ab],_,rfl,⟨rfl,h4⟩,[.int .i64 x.ar],[.bool x.mr],rfl,⟨rfl,h5⟩,rfl⟩
theorem GlC.cs{S:Nat->Prop}{w:World}{ca:Option Addr}{cc:Nat}{pa:Option Addr}{pc:Nat}{ta:Option Addr}{tc:Nat}{x:Gl}(h:GlC S w ca cc pa pc ta tc x):Gr PnE.row S w ca cc x.o.cs:=(zda h.1).1
theorem GlC.ps{S:Nat->Prop}{w:World}{ca:Option Addr}{cc:Nat}{pa:Option Addr}{pc:Nat}{ta:Option Addr}{tc:Nat}{x:Gl}(h:GlC S w ca cc pa pc ta tc x):Gr PaE S w pa pc x.o.ps:=(zda h.2.1).1
theorem GlC.ts{S:Nat->Prop}{w:World}{ca:Option Addr}{cc:Nat}{pa:Option Addr}{pc:Nat}{ta:Option Addr}{tc:Nat}{x:Gl}(h:GlC S w ca cc pa pc ta tc x):Gr TuE S w ta tc x.ts:=(zda h.2.2.1).1
theorem GlC.below{S:Nat->Prop}{w w':World}{ca:Option Addr}{cc:Nat}{pa:Option Addr}{pc:Nat}{ta:Option Addr}{tc:Nat}{x:Gl}(h:GlC S w ca cc pa pc ta tc x)(hb:Below w.heap.size w w'):GlC S w' ca cc pa pc ta tc x :=
 ⟨PnE.row.row.stay h.1 hb.size (fun k hk hl=>⟨hk,hb.block k hl⟩),PaE.row.stay h.2.1 hb.size (fun k hk hl=>⟨hk,hb.block k hl⟩),TuE.row.stay h.2.2.1 hb.size (fun k hk hl=>⟨hk,hb.block k hl⟩),h.2.2.2⟩
theorem Gr.gl{S:Nat->Prop}{w wr:World}{a:Option Addr}{cap:Nat}{l:List Gl}(h:Gr GlE S w a cap l)(hb:Below w.heap.size w wr)(k:Nat)(hk:k<l.length) :
 ∃b off ca cc pa pc ta tc,a=some ⟨b,off,none⟩/\b<w.heap.size/\GlC S wr ca cc pa pc ta tc (l.getD k Gl.none) /\
     wr.cell? ⟨b,off+k*6,none⟩=some (.slice ca (l.getD k Gl.none).o.cs.length cc)/\wr.cell? ⟨b,off+k*6+1,none⟩=some (.slice pa (l.getD k Gl.none).o.ps.length pc)/\wr.cell? ⟨b,off+k*6+2,none⟩=some (.slice ta (l.getD k Gl.none).ts.length tc)/\wr.cell? ⟨b,off+k*6+3,none⟩=some (.int .i64 (l.getD k Gl.none).ab)/\wr.cell? ⟨b,off+k*6+4,none⟩=some (.int .i64 (l.getD k Gl.none).ar)/\wr.cell? ⟨b,off+k*6+5,none⟩=some (.bool (l.getD k Gl.none).mr):=by
 obtain⟨b,off,vs,e,h1,hr,hc⟩:=h.at hb k hk
 obtain⟨ca,cc,pa,pc,ta,tc,rfl,ht⟩:=zrw.1 hr
 exact⟨b,off,ca,cc,pa,pc,ta,tc,e,h1,ht,hc 0 (by decide),hc 1 (by decide),hc 2 (by decide),hc 3 (by decide),hc 4 (by decide),hc 5 (by decide)⟩
theorem Bk.six{t:TypeId}{w:World}{g:Nat}{x y z u v s:Value}(h:Bk t w g [x,y,z,u,v,s]):w.cell? ⟨g,0,none⟩=some x/\w.cell? ⟨g,1,none⟩=some y/\w.cell? ⟨g,2,none⟩=some z/\w.cell? ⟨g,3,none⟩=some u/\w.cell? ⟨g,4,none⟩=some v/\w.cell? ⟨g,5,none⟩=some s/\∀j,w.frozen? ⟨g,j,none⟩=false :=
 ⟨h.cell 0 (by simp),h.cell 1 (by simp),h.cell 2 (by simp),h.cell 3 (by simp),h.cell 4 (by simp),h.cell 5 (by simp),fun j=>h.fz j⟩
def Tzz(w:World)(a:Option Addr)(cap:Nat)(g:List (List Te)):Prop :=
 g.length<=cap/\cap<=maxLen /\
 ∀i,i<g.length->∃b off a' cap',a=some ⟨b,off,none⟩/\b<w.heap.size/\w.cell? ⟨b,off+i,none⟩=some (.slice a' (g.getD i []).length cap')/\Tz w a' cap' (g.getD i [])
theorem Tzz.at{w wr:World}{a:Option Addr}{cap:Nat}{m:List (List Te)}(h:Tzz w a cap m)(hb:Below w.heap.size w wr)(k:Nat)(hk:k<m.length) :
 ∃b off a' cap',a=some ⟨b,off,none⟩/\b<w.heap.size/\wr.cell? ⟨b,off+k,none⟩=some (.slice a' (m.getD k []).length cap')/\Tz wr a' cap' (m.getD k []):=by
 obtain⟨b,off,a',cap',h1,h2,h3,h4⟩:=h.2.2 k hk
 exact⟨b,off,a',cap',h1,h2,(hb.cell (p:=⟨b,off+k,none⟩) h2).trans h3,h4.below hb⟩
theorem Tzz.below{w w':World}{a:Option Addr}{cap:Nat}{m:List (List Te)}(h:Tzz w a cap m)(hb:Below w.heap.size w w'):Tzz w' a cap m:=by
 refine⟨h.1,h.2.1,fun i hi=>?_⟩
 obtain⟨b,off,a',cap',h1,h2,h3⟩:=h.at hb i hi
 exact⟨b,off,a',cap',h1,Nat.lt_of_lt_of_le h2 hb.size,h3⟩
theorem Tzz.lenB{w:World}{a:Option Addr}{cap:Nat}{m:List (List Te)}(h:Tzz w a cap m):m.length<=9223372036854775807:=by
 have h1:=h.1
 have h2:=h.2.1
 unfold maxLen at h2
 omega
def Rii(w:World)(a:Option Addr)(cap:Nat)(m:List (List Int)):Prop :=
 m.length<=cap/\cap<=maxLen /\
 ∀i,i<m.length->∃b off a' cap',a=some ⟨b,off,none⟩/\b<w.heap.size/\w.cell? ⟨b,off+i,none⟩=some (.slice a' (m.getD i []).length cap')/\Ri w a' cap' (m.getD i [])
theorem Rii.at{w wr:World}{a:Option Addr}{cap:Nat}{m:List (List Int)}(h:Rii w a cap m)(hb:Below w.heap.size w wr)(k:Nat)(hk:k<m.length) :
 ∃b off a' cap',a=some ⟨b,off,none⟩/\b<w.heap.size/\wr.cell? ⟨b,off+k,none⟩=some (.slice a' (m.getD k []).length cap')/\Ri wr a' cap' (m.getD k []):=by
 obtain⟨b,off,a',cap',h1,h2,h3,h4⟩:=h.2.2 k hk
 exact⟨b,off,a',cap',h1,h2,(hb.cell (p:=⟨b,off+k,none⟩) h2).trans h3,h4.below hb⟩
theorem Rii.below{w w':World}{a:Option Addr}{cap:Nat}{m:List (List Int)}(h:Rii w a cap m)(hb:Below w.heap.size w w'):Rii w' a cap m:=by
 refine⟨h.1,h.2.1,fun i hi=>?_⟩
 obtain⟨b,off,a',cap',h1,h2,h3⟩:=h.at hb i hi
 exact⟨b,off,a',cap',h1,Nat.lt_of_lt_of_le h2 hb.size,h3⟩
theorem Rii.lenB{w:World}{a:Option Addr}{cap:Nat}{m:List (List Int)}(h:Rii w a cap m):m.length<=9223372036854775807:=by
 have h1:=h.1
 have h2:=h.2.1
 unfold maxLen at h2
 omega
def BxS(w:World)(g:Nat)(x y:Value):Prop:=w.heap[g]?=some (.cells #[x,y] 27 (0,0))
theorem BxS.cells{w:World}{g:Nat}{x y:Value}(h:BxS w g x y) :
 w.cell? ⟨g,0,none⟩=some x/\w.cell? ⟨g,1,none⟩=some y/\w.frozen? ⟨g,0,none⟩=false/\w.frozen? ⟨g,1,none⟩=false :=
 ⟨cell_of_row w g 0 _ _ (0,0) h,cell_of_row w g 1 _ _ (0,0) h,frozen_of_row w g 0 _ _ h,frozen_of_row w g 1 _ _ h⟩
theorem BxS.lt{w:World}{g:Nat}{x y:Value}(h:BxS w g x y):g<w.heap.size:=(Array.getElem?_eq_some_iff.1 h).1
theorem BxS.below{w w':World}{g:Nat}{x y:Value}(h:BxS w g x y)(hb:Below w.heap.size w w'):BxS w' g x y:=(hb.block g h.lt).trans h
theorem BxS.new(w:World)(x y:Value):BxS (w.alloc (.cells #[x,y] 27)) w.heap.size x y:=heap_alloc_new w _
def BxL(w:World)(g:Nat)(x y:Value):Prop:=w.heap[g]?=some (.cells #[x,y] 62 (0,0))
theorem BxL.cells{w:World}{g:Nat}{x y:Value}(h:BxL w g x y) :
 w.cell? ⟨g,0,none⟩=some x/\w.cell? ⟨g,1,none⟩=some y/\w.frozen? ⟨g,0,none⟩=false/\w.frozen? ⟨g,1,none⟩=false :=
 ⟨cell_of_row w g 0 _ _ (0,0) h,cell_of_row w g 1 _ _ (0,0) h,frozen_of_row w g 0 _ _ h,frozen_of_row w g 1 _ _ h⟩
theorem BxL.lt{w:World}{g:Nat}{x y:Value}(h:BxL w g x y):g<w.heap.size:=(Array.getElem?_eq_some_iff.1 h).1
theorem BxL.below{w w':World}{g:Nat}{x y:Value}(h:BxL w g x y)(hb:Below w.heap.size w w'):BxL w' g x y:=(hb.block g h.lt).trans h
theorem BxL.new(w:World)(x y:Value):BxL (w.alloc (.cells #[x,y] 62)) w.heap.size x y:=heap_alloc_new w _
theorem BxL.new1(w:World)(o:Obj)(x y:Value):BxL ((w.alloc o).alloc (.cells #[x,y] 62)) (w.heap.size+1) x y:=by
 have h:=BxL.new (w.alloc o) x y
 simpa using h
theorem zn1(z:Int):(IntKind.i16.wrap z==z)=fdB z:=by
 rw[zgy,fdB,Bool.eq_iff_iff,beq_iff_eq,decide_eq_true_iff]
 split <;> omega
theorem zi9(z:Int)(w:World)(hz:I64 z) :
 Calls Tryz.prog 76 #[.int .i64 z] w fun e w'=>e=.returned (.bool (fdB z))/\w=w':=by
 have HE:Hid ((IntKind.i16.wrap z==z)=fdB z):=zn1 z
 have h1:IntKind.i64.wrap (IntKind.i16.wrap z)=IntKind.i16.wrap z:=by rw[zgy];simp only[IntKind.wrap,IntKind.bits,IntKind.signed];split <;> (simp;omega)
 go_enter Tryz.func76,Tryz.ntmps76
 go_wp2
 go_ret
 exact⟨zaa HE.out,rfl⟩
def hrB(s:Sr)(i:Int):Bool:=decide (0<=i)&&decide (i<(s.rw.length:Int))
theorem zf1(x:Value)(b:Option Addr)(cb:Nat)(s:Sr)(i:Int)(w:World)(hl:s.rw.length<=9223372036854775807)(hx:x.oneCell'=true) :
 Calls Tryz.prog 77 #[.agg #[x,.slice b s.rw.length cb],.int .i64 i] w fun e w'=>e=.returned (.bool (hrB s i))/\Below w.heap.size w w':=by
 by_cases h1:0<=i
 . have g1:decide (0<=i)=true:=decide_eq_true h1
   have HE:Hid (hrB s i=decide (i<(s.rw.length:Int))):=by show _=_;rw[hrB,g1,Bool.true_and]
   go_enter Tryz.func77,Tryz.ntmps77
   go_wp2
   go_ret
   exact⟨zaa HE.out.symm,bl1 _⟩
 . have g1:decide (0<=i)=false:=decide_eq_false h1
   have HE:Hid (hrB s i=false):=by show _=_;rw[hrB,g1,Bool.false_and]
   go_enter Tryz.func77,Tryz.ntmps77
   go_wp2
   go_ret
   exact⟨zaa HE.out.symm,bl1 _⟩
def riB(t:Te):Bool:=decide (0<=t.st)&&(decide (t.st<t.pk)&&(decide (t.pk<t.en)||(t.pk==16384&&t.en==16384)))
theorem zih(t:Te)(w:World) :
 Calls Tryz.prog 219 #[.agg #[.int .i64 t.st,.int .i64 t.pk,.int .i64 t.en]] w fun e w'=>e=.returned (.bool (riB t))/\Below w.heap.size w w':=by
 obtain⟨st,pk,en⟩:=t
 simp only[riB]
 by_cases h1:0<=st
 . have g1:decide (0<=st)=true:=decide_eq_true h1
   rw[g1]
   by_cases h2:st<pk
   . have g2:decide (st<pk)=true:=decide_eq_true h2
     rw[g2]
     by_cases h3:pk<en
     . have g3:decide (pk<en)=true:=decide_eq_true h3
       rw[g3]
       go_enter Tryz.func219,Tryz.ntmps219
       go_wp2
       go_ret
       exact⟨zaa (by simp),al1 _⟩
     . have g3:decide (pk<en)=false:=decide_eq_false h3
       rw[g3]
       by_cases h4:pk=16384
       . have g4:(pk==16384)=true:=by simp[h4]
         rw[g4];clear h4
         go_enter Tryz.func219,Tryz.ntmps219
         go_wp2
         go_ret
         exact⟨zaa (by simp),al1 _⟩
       . have g4:(pk==16384)=false:=by simp[h4]
         rw[g4];clear h4
         go_enter Tryz.func219,Tryz.ntmps219
         go_wp2
         go_ret
         exact⟨zaa (by simp),al1 _⟩
   . have g2:decide (st<pk)=false:=decide_eq_false h2
     rw[g2]
     go_enter Tryz.func219,Tryz.ntmps219
     go_wp2
     go_ret
     exact⟨zaa (by simp),al1 _⟩
 . have g1:decide (0<=st)=false:=decide_eq_false h1
   rw[g1]
   go_enter Tryz.func219,Tryz.ntmps219
   go_wp2
   go_ret
   exact⟨zaa (by simp),al1 _⟩
theorem zmm(t:Te)(w:World)(h1:crd t.st=true)(h2:crd t.pk=true)(h3:crd t.en=true) :
 Calls Tryz.prog 220 #[.agg #[.int .i64 t.st,.int .i64 t.pk,.int .i64 t.en]] w fun e w'=>e=.returned (.agg #[.int .i64 (-t.en),.int .i64 (-t.pk),.int .i64 (-t.st)])/\Below w.heap.size w w':=by
 obtain⟨st,pk,en⟩:=t;rw[crdT]at h1 h2 h3
 dsimp only at *
 have k1:IntKind.i64.wrap (-en)=-en:=zbs (by omega) (by omega)
 have k2:IntKind.i64.wrap (-pk)=-pk:=zbs (by omega) (by omega)
 have k3:IntKind.i64.wrap (-st)=-st:=zbs (by omega) (by omega)
 go_enter Tryz.func220,Tryz.ntmps220
 go_wp2
 exact bodyPost_ret (v:=.agg #[.int .i64 (-en),.int .i64 (-pk),.int .i64 (-st)]) (by simp[results,Tryz.results220,go_sem]) rfl ⟨rfl,al2 _ _⟩
theorem zoz{t:Te}:riB t=true↔(0<=t.st/\t.st<t.pk/\(t.pk<t.en\/(t.pk=16384/\t.en=16384))):=by
 simp[riB]
theorem zvd{t:Te}(h1:crd t.st=true)(h2:crd t.pk=true)(h3:crd t.en=true)(h:t.pk<0):riB ⟨-t.en,-t.pk,-t.st⟩=tfB t:=by
 rw[crdT]at h1 h2 h3;rw[Bool.eq_iff_iff,zoz,zck]
 unfold TfT
 dsimp only
 omega
theorem zvc{t:Te}(h1:crd t.st=true)(h2:crd t.pk=true)(h3:crd t.en=true)(h:¬t.pk<0)(hz:¬(t.st=0/\t.pk=0/\t.en=0)):riB t=tfB t:=by
 rw[crdT]at h1 h2 h3;rw[Bool.eq_iff_iff,zoz,zck]
 unfold TfT
 omega
theorem znw(t:Te)(w:World) :
 Calls Tryz.prog 191 #[.agg #[.int .i64 t.st,.int .i64 t.pk,.int .i64 t.en]] w fun e w'=>e=.returned (.bool (tfB t))/\Below w.heap.size w w':=by
 obtain⟨W,hW,X1,hbW⟩:∃W,W=w.alloc (.cells #[.int .i64 t.st,.int .i64 t.pk,.int .i64 t.en] 220)/\Box 220 W w.heap.size (.int .i64 t.st) (.int .i64 t.pk) (.int .i64 t.en)/\Below w.heap.size w W:=⟨_,rfl,Box.new _ _ _ _ _,al1 _⟩
 cases c1:crd t.st with
 | false =>
  have HF:Hid (tfB t=false):=zf9 (fun h=>by rw[crdT.2 h.1]at c1;cases c1)
  obtain⟨st,pk,en⟩:=t
  dsimp only at *
  go_enter Tryz.func191,Tryz.ntmps191
  go_wp2_with fail
  refine(zam st _).mono ?_
  rintro e u1 ⟨rfl,rfl⟩;rw[c1];go_wp2
  go_ret
  exact⟨zaa HF.out.symm,hW ▸ hbW⟩
 | true =>
  cases c2:crd t.pk with
  | false =>
   have HF:Hid (tfB t=false):=zf9 (fun h=>by rw[crdT.2 h.2.1]at c2;cases c2)
   obtain⟨st,pk,en⟩:=t
   dsimp only at *
   go_enter Tryz.func191,Tryz.ntmps191
   go_wp2_with fail
   refine(zam st _).mono ?_
   rintro e u1 ⟨rfl,rfl⟩;rw[c1]
   go_wp2_with fail
   refine(zam pk _).mono ?_
   rintro e u1 ⟨rfl,rfl⟩;rw[c2];go_wp2
   go_ret
   exact⟨zaa HF.out.symm,hW ▸ hbW⟩
  | true =>
   cases c3:crd t.en with
   | false =>
    have HF:Hid (tfB t=false):=zf9 (fun h=>by rw[crdT.2 h.2.2.1]at c3;cases c3)
    obtain⟨st,pk,en⟩:=t
    dsimp only at *
    go_enter Tryz.func191,Tryz.ntmps191
    go_wp2_with fail
    refine(zam st _).mono ?_
    rintro e u1 ⟨rfl,rfl⟩;rw[c1]
    go_wp2_with fail
    refine(zam pk _).mono ?_
    rintro e u1 ⟨rfl,rfl⟩;rw[c2]
    go_wp2_with fail
    refine(zam en _).mono ?_
    rintro e u1 ⟨rfl,rfl⟩;rw[c3];go_wp2
    go_ret
    exact⟨zaa HF.out.symm,hW ▸ hbW⟩
   | true =>
    by_cases hn:t.pk<0
    . have HF:Hid (riB ⟨-t.en,-t.pk,-t.st⟩=tfB t):=zvd c1 c2 c3 hn
      have ht:=fun U=>zmm t U c1 c2 c3
      have hr:=fun U=>zih ⟨-t.en,-t.pk,-t.st⟩ U
      obtain⟨st,pk,en⟩:=t
      dsimp only at *
      go_enter Tryz.func191,Tryz.ntmps191
      go_wp2_with fail
      rw[<-hW];clear hW
      refine(zam st _).mono ?_
      rintro e u1 ⟨rfl,rfl⟩;rw[c1];obtain⟨p0,p1,p2,_⟩:=X1.cells
      go_wp2_with fail
      refine(zam pk _).mono ?_
      rintro e u1 ⟨rfl,rfl⟩;rw[c2]
      go_wp2_with fail
      refine(zam en _).mono ?_
      rintro e u1 ⟨rfl,rfl⟩;rw[c3];clear c1 c2 c3
      go_wp2_with fail
      refine(ht _).mono ?_
      rintro e u1 ⟨rfl,hb1⟩
      replace hbW:=hbW.trans (hb1.mono hbW.size)
      clear ht hb1 p0 p1 p2
      go_wp2_with fail
      refine(hr _).mono ?_
      rintro e u2 ⟨rfl,hb2⟩;rw[HF.out]
      replace hbW:=hbW.trans (hb2.mono hbW.size)
      clear hr hb2;go_wp2
      go_ret
      exact⟨rfl,hbW⟩
    . have HF:Hid (¬(t.st=0/\t.pk=0/\t.en=0)->riB t=tfB t):=zvc c1 c2 c3 hn
      have HZ:Hid (t.st=0/\t.pk=0/\t.en=0->tfB t=true):=fun h=>by
       rw[zck]
       unfold TfT
       omega
      have hr:=fun U=>zih t U
      obtain⟨st,pk,en⟩:=t
      dsimp only at *
      go_enter Tryz.func191,Tryz.ntmps191
      go_wp2_with fail
      rw[<-hW];clear hW
      refine(zam st _).mono ?_
      rintro e u1 ⟨rfl,rfl⟩;rw[c1];obtain⟨p0,p1,p2,_⟩:=X1.cells
      go_wp2_with fail
      refine(zam pk _).mono ?_
      rintro e u1 ⟨rfl,rfl⟩;rw[c2]
      go_wp2_with fail
      refine(zam en _).mono ?_
      rintro e u1 ⟨rfl,rfl⟩;rw[c3];clear c1 c2 c3
      by_cases s0:st=0
      . subst s0
        by_cases q0:pk=0
        . subst q0
          by_cases e0:en=0
          . subst e0
            go_wp2
            go_ret
            exact⟨zaa (HZ.out (by simp)).symm,hbW⟩
          . go_wp2_with fail
            refine(hr _).mono ?_
            rintro e u2 ⟨rfl,hb2⟩
            rw[HF.out (by omega)]
            replace hbW:=hbW.trans (hb2.mono hbW.size)
            clear hr hb2;go_wp2
            go_ret
            exact⟨rfl,hbW⟩
        . go_wp2_with fail
          refine(hr _).mono ?_
          rintro e u2 ⟨rfl,hb2⟩
          rw[HF.out (by omega)]
          replace hbW:=hbW.trans (hb2.mono hbW.size)
          clear hr hb2;go_wp2
          go_ret
          exact⟨rfl,hbW⟩
      . go_wp2_with fail
        refine(hr _).mono ?_
        rintro e u2 ⟨rfl,hb2⟩
        rw[HF.out (by omega)]
        replace hbW:=hbW.trans (hb2.mono hbW.size)
        clear hr hb2;go_wp2
        go_ret
        exact⟨rfl,hbW⟩
theorem zkl(a:Option Addr)(cap:Nat)(cs:List Int)(k:Nat)(w:World)(h:Ri w a cap cs)(hk:k<=1000000) :
 Calls Tryz.prog 150 #[.slice a cs.length cap,.int .i64 (k:Int)] w fun e w'=>e=.returned (.int .i64 (cs.getD k 0))/\Below w.heap.size w w':=by
 have k1:=h.lenB
 by_cases hkn:k<cs.length
 . obtain⟨b,off,ea,hb,d0⟩:=h.at (Below.refl _ _) k hkn
   subst ea
   have g1:(k:Int)<(cs.length:Int):=by omega
   generalize cs.getD k 0=z at *
   clear h
   go_enter Tryz.func150,Tryz.ntmps150
   go_wp2
   go_ret
   exact⟨rfl,Below.refl _ _⟩
 . have g1:¬(k:Int)<(cs.length:Int):=by omega
   have HZ:Hid (cs.getD k 0=0):=by show _=_;rw[List.getD_eq_getElem?_getD,List.getElem?_eq_none (by omega)];rfl
   clear h
   go_enter Tryz.func150,Tryz.ntmps150
   go_wp2
   go_ret
   exact⟨zbf (by first | rfl | exact HZ.out.symm),Below.refl _ _⟩
