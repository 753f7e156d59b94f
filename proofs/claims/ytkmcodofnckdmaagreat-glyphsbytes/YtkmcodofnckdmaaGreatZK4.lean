import Derived.Test.YtkmcodofnckdmaaGreatZK3
import Derived.Deep.RegionHeld3
set_option maxHeartbeats 400000
set_option maxRecDepth 100000
set_option linter.unusedSimpArgs false
set_option linter.unusedVariables false
namespace Go.Proofs.YtkmcodofnckdmaaGreat
open Tryz Go.RowKit Classical
def Box(t:TypeId)(w:World)(b:Nat)(x y z:Value):Prop:=w.heap[b]?=some (.cells #[x,y,z] t (0,0))
theorem Box.lt{t:TypeId}{w:World}{b:Nat}{x y z:Value}(h:Box t w b x y z):b<w.heap.size:=(Array.getElem?_eq_some_iff.1 h).1
theorem Box.below{t:TypeId}{w w':World}{b:Nat}{x y z:Value}(h:Box t w b x y z)(hb:Below w.heap.size w w'):Box t w' b x y z:=(hb.block b h.lt).trans h
theorem Box.cells{t:TypeId}{w:World}{b:Nat}{x y z:Value}(h:Box t w b x y z) :
 w.cell? ⟨b,0,none⟩=some x/\w.cell? ⟨b,1,none⟩=some y/\w.cell? ⟨b,2,none⟩=some z/\w.frozen? ⟨b,0,none⟩=false/\w.frozen? ⟨b,1,none⟩=false/\w.frozen? ⟨b,2,none⟩=false:=by
 refine⟨cell_of_row w b 0 _ t (0,0) h,cell_of_row w b 1 _ t (0,0) h,cell_of_row w b 2 _ t (0,0) h,frozen_of_row w b 0 _ t h,frozen_of_row w b 1 _ t h,frozen_of_row w b 2 _ t h⟩
theorem Box.new(t:TypeId)(w:World)(x y z:Value):Box t (w.alloc (.cells #[x,y,z] t)) w.heap.size x y z:=heap_alloc_new w (.cells #[x,y,z] t)
theorem Box.alloc{t:TypeId}{w:World}{b:Nat}{x y z:Value}(h:Box t w b x y z)(o:Obj):Box t (w.alloc o) b x y z:=h.below ((Below.refl _ _).alloc (qE _) o)
theorem al1{w:World}(o:Obj):Below w.heap.size w (w.alloc o):=(Below.refl _ _).alloc (qE _) o
theorem al2{w:World}(o o':Obj):Below w.heap.size w ((w.alloc o).alloc o'):=(al1 o).alloc (by simp) o'
theorem al3{w:World}(o o' o'':Obj):Below w.heap.size w (((w.alloc o).alloc o').alloc o''):=(al2 o o').alloc (by simp;omega) o''
theorem Box.new1(t:TypeId)(w:World)(o:Obj)(x y z:Value):Box t ((w.alloc o).alloc (.cells #[x,y,z] t)) (w.heap.size+1) x y z:=by
 have h:=Box.new t (w.alloc o) x y z;simpa using h
theorem Box.new2(t:TypeId)(w:World)(o o':Obj)(x y z:Value):Box t (((w.alloc o).alloc o').alloc (.cells #[x,y,z] t)) (w.heap.size+1+1) x y z:=by
 have h:=Box.new t ((w.alloc o).alloc o') x y z;simpa using h
theorem zon{t:TypeId}{w u:World}{x y z:Value}(hb:Below (w.alloc (.cells #[x,y,z] t)).heap.size (w.alloc (.cells #[x,y,z] t)) u) :
 Box t u w.heap.size x y z/\Below w.heap.size w u :=
 ⟨(Box.new _ _ _ _ _).below hb,(al1 _).trans (hb.mono (by simp))⟩
theorem z3u{t s:TypeId}{w u:World}{x y z x' y' z':Value}(hb:Below ((w.alloc (.cells #[x,y,z] t)).alloc (.cells #[x',y',z'] s)).heap.size ((w.alloc (.cells #[x,y,z] t)).alloc (.cells #[x',y',z'] s)) u) :
 Box t u w.heap.size x y z/\Box s u (w.heap.size+1) x' y' z'/\Below w.heap.size w u :=
 ⟨((Box.new _ _ _ _ _).alloc _).below hb,(Box.new1 _ _ _ _ _ _).below hb,(al2 _ _).trans (hb.mono (by simp;omega))⟩
theorem z3t{t s r:TypeId}{w u:World}{x y z x' y' z' x'' y'' z'':Value}(hb:Below (((w.alloc (.cells #[x,y,z] t)).alloc (.cells #[x',y',z'] s)).alloc (.cells #[x'',y'',z''] r)).heap.size (((w.alloc (.cells #[x,y,z] t)).alloc (.cells #[x',y',z'] s)).alloc (.cells #[x'',y'',z''] r)) u) :
 Box t u w.heap.size x y z/\Box s u (w.heap.size+1) x' y' z'/\Box r u (w.heap.size+1+1) x'' y'' z''/\Below w.heap.size w u :=
 ⟨(((Box.new _ _ _ _ _).alloc _).alloc _).below hb,((Box.new1 _ _ _ _ _ _).alloc _).below hb,(Box.new2 _ _ _ _ _ _ _).below hb,(al3 _ _ _).trans (hb.mono (by simp;omega))⟩
theorem z3m(t s r:TypeId)(w:World)(x y z x' y' z' x'' y'' z'':Value) :
 ∃W,W=(((w.alloc (.cells #[x,y,z] t)).alloc (.cells #[x',y',z'] s)).alloc (.cells #[x'',y'',z''] r))/\Box t W w.heap.size x y z/\Box s W (w.heap.size+1) x' y' z'/\Box r W (w.heap.size+1+1) x'' y'' z''/\Below w.heap.size w W :=
 ⟨_,rfl,z3t (Below.refl _ _)⟩
theorem Box.set3{t:TypeId}{w:World}{b:Nat}{x y z:Value}(h:Box t w b x y z)(x' y' z':Value) :
 Box t (((w.setCell ⟨b,0,none⟩ x').setCell ⟨b,1,none⟩ y').setCell ⟨b,2,none⟩ z') b x' y' z':=by
 have h1:=heap_setCell_same w b 0 _ t x' h;have h2:=heap_setCell_same _ b 1 _ t y' h1;have h3:=heap_setCell_same _ b 2 _ t z' h2;exact h3
theorem zp5{B b:Nat}{w u:World}(h:Below B w u)(hb:B<=b)(x' y' z':Value):Below B w (((u.setCell ⟨b,0,none⟩ x').setCell ⟨b,1,none⟩ y').setCell ⟨b,2,none⟩ z') :=
 ((h.setCell (p:=⟨b,0,none⟩) hb x').setCell (p:=⟨b,1,none⟩) hb y').setCell (p:=⟨b,2,none⟩) hb z'
theorem Rd.apart{t:TypeId}{u U:World}{b:Nat}{n:Bool}{a a':OA}{l c l' c':Nat}(B:Box t u b (.bool n) (.slice a l c) (.slice a' l' c'))(hs:u.heap.size<=U.heap.size)
    (hU:∀k,k≠b->U.heap[k]?=u.heap[k]?) {r:OA} {cp:Nat} {xs:LN} (h:Rd u r cp xs):Rd U r cp xs:=by
 obtain⟨h1,h2,h3,h5,h4⟩:=h;refine⟨h1,h2,h3,h5,?_⟩;rcases h4 with h4|⟨g,off,e,hg,hc⟩
 . exact .inl h4
 . by_cases hx:xs=[]
   . exact .inl hx
   refine .inr ⟨g,off,e,qN hg hs,fun i hi=>?_⟩;have hne:g≠b:=by
    rintro rfl;have hc0:=hc 0 (List.length_pos_iff.2 hx);have hb:=cell_of_row u g (off+0) _ t (0,0) B;rw[hc0]at hb
    match off,hb with
    | 0,hb=>simp at hb
    | 1,hb=>simp at hb
    | 2,hb=>simp at hb
    | (k+3),hb=>simp at hb
   exact(World.cell?_of_block (w:=u) (a:=⟨g,off+i,none⟩) (hU g hne)).trans (hc i hi)
theorem zis(u:World)(b:Nat)(x y z:Value)(k:Nat)(hk:k≠b):(((u.setCell ⟨b,0,none⟩ x).setCell ⟨b,1,none⟩ y).setCell ⟨b,2,none⟩ z).heap[k]?=u.heap[k]?:=by
 rw[Below.heap_setCell _ ⟨b,2,none⟩ z k hk,Below.heap_setCell _ ⟨b,1,none⟩ y k hk,Below.heap_setCell _ ⟨b,0,none⟩ x k hk]
theorem za5{u:World}{b:Nat}{x y z:Value}{k i:Nat}(hk:k≠b):(((u.setCell ⟨b,0,none⟩ x).setCell ⟨b,1,none⟩ y).setCell ⟨b,2,none⟩ z).cell? ⟨k,i,none⟩=u.cell? ⟨k,i,none⟩ :=
 World.cell?_of_block (w:=u) (a:=⟨k,i,none⟩) (zis u b x y z k hk)
theorem ret3{P:Program}{fn:Func}{R:Ending->World->Prop}{ac:Act}{t:TypeId}{u:World}{b:Nat}{n:Bool}{a a':OA}{l c l' c':Nat}{x' y' z' v:Value}(B:Box t u b (.bool n) (.slice a l c) (.slice a' l' c'))
    (hd:ac.defers=[]) (hr:∀U,Box t U b x' y' z'->(results fn ac.tmps).run P U=.ok v U)
    (hR:∀U,(∀B w,Below B w u->B<=b->Below B w U)->(∀a c xs,Rd u a c xs->Rd U a c xs)->R (.returned v) U) :
    bodyPost P fn R .ret ac (((u.setCell ⟨b,0,none⟩ x').setCell ⟨b,1,none⟩ y').setCell ⟨b,2,none⟩ z') :=
 bodyPost_ret (hr _ (B.set3 x' y' z')) hd (hR _ (fun _ _ h hb=>zp5 h hb x' y' z') fun _ _ _ h=>Rd.apart B (by simp[World.setCell]) (zis u b x' y' z') h)
theorem zmv(z:Int):IntKind.u64.wrap z=z%18446744073709551616:=by
 unfold IntKind.wrap;simp[IntKind.bits,IntKind.signed]
theorem zzb(z:Int)(w:World)(h1:-9223372036854775808<=z)(h2:z<9223372036854775808) :
 Calls Tryz.prog 164 #[.int .i64 z] w fun e w'=>e=.returned (.int .u64 (z.natAbs:Nat))/\w=w':=by
 by_cases hz:z<0
 . go_enter func164,ntmps164
   go_wp2;go_ret;exact⟨by simp[zmv];omega,rfl⟩
 . go_enter func164,ntmps164
   go_wp2;go_ret;exact⟨by simp[zmv];omega,rfl⟩
theorem zcm{xs:LN}(t:Tr xs)(h:V xs<18446744073709551616):xs.length<=2:=zei t h
theorem zwk{m:Nat}(h:m<9223372036854775808):wrap64 (m:Int)=(m:Int):=by
 unfold wrap64;omega
theorem zyp{a b:Int}{c d:Bool}(h:a=b)(k:c=d):Ending.returned (.tuple #[.int .i64 a,.bool c])=.returned (.tuple #[.int .i64 b,.bool d]):=by rw[h,k]
