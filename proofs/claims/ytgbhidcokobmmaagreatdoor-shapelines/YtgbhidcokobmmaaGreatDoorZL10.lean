import Derived.Test.YtgbhidcokobmmaaGreatDoorZL9
import Derived.Laws.BitsAllLaws
import Derived.Lib.Strings
import Derived.Lib.Walk
set_option maxHeartbeats 1600000
set_option maxRecDepth 100000
set_option linter.unusedSimpArgs false
set_option linter.unusedVariables false
namespace Go.Proofs.YtgbhidcokobmmaaGreatDoor
open Go.RowKit
theorem zan(w:World)(e:TypeId)(q:Int)(z:Nat)(h:q=(z:Int)):(w.alloc (.cells #[.int .u32 q] e)).cell? ⟨w.heap.size,0,none⟩=some (.int .u32 (z:Int)):=by
 subst h
 rw[cell_of_row _ w.heap.size 0 #[Value.int .u32 (z:Int)] e (0,0) (heap_alloc_new w _)]
 rfl
theorem zcc{zs L S:List Nat}{k cy x y s:Nat}(hz:zs.length=k)(he:V zs+4294967296 ^ k*cy=V (L.take k)+V (S.take k))(hx:L.getD k 0=x)(hy:S.getD k 0=y)(hs:s=x+cy+y) :
 V (zs++[s%4294967296])+4294967296 ^ (k+1)*(s/4294967296)=V (L.take (k+1))+V (S.take (k+1)):=by
 rw[zd4,hz,zao,zao,hx,hy,Nat.pow_succ]
 have hd:=Nat.mod_add_div s 4294967296
 generalize s%4294967296=r at hd ⊢
 generalize s/4294967296=d at hd ⊢
 subst hs
 generalize 4294967296 ^ k=p at he ⊢
 generalize V zs=o at he ⊢
 generalize V (L.take k)=A at he ⊢
 generalize V (S.take k)=C at he ⊢
 grind
theorem zrp(a:Option Addr)(cap:Nat)(xs:List Nat)(b:Option Addr)(cbp:Nat)(ys:List Nat)(w:World)(ha:Rd w a cap xs)(hb:Rd w b cbp ys)(hla:xs.length<=500000000)(hlb:ys.length<=500000000) :
 Calls Tryz.prog 143 #[.slice a xs.length cap,.slice b ys.length cbp] w fun e w' =>
     ∃a' cap' zs,e=.returned (.slice a' zs.length cap')/\V zs=V xs+V ys/\Tr zs/\Res 211 w.heap.size w' a' cap' zs/\Below w.heap.size w w':=by
 obtain⟨i0,hi,hz0,hz1,hz2⟩:=info_parts za3
 have Xr:=ha.strip
 have Yr:=hb.strip
 have lx:=zag xs
 have ly:=zag ys
 go_enter Tryz.func143,Tryz.ntmps143
 go_wp2_with fail
 refine(zby a cap xs _ ha).mono ?_
 rintro e w' ⟨rfl,rfl⟩
 go_wp2_with fail
 refine(zby b cbp ys _ hb).mono ?_
 rintro e w' ⟨rfl,rfl⟩
 clear ha hb
 generalize hX:strip xs=X at Xr lx ⊢
 generalize hY:strip ys=Y at Yr ly ⊢
 by_cases hlt:X.length<Y.length
 . have hL2:=Yr.le
   have hL3:=Yr.cap
   unfold maxLen at hL3
   have lL:=Yr.lim
   have lS:=Xr.lim
   have fL:=Yr.fm
   have fS:=Xr.fm
   have HV:Hid (V Y+V X=V xs+V ys):=by show _=_;rw[<-hY,<-hX,zaj,zaj];omega
   clear Yr Xr
   go_wp2_with (at_make;refine wpList_make_own _ rfl _ _ 94 rfl w.heap.size 211 i0 (.int .u32 0) 1 Tryz.underlying94 hi hz0 hz1 _ _ _ (Y.length+1) rfl rfl (by omega) (by rw[hz2];omega) (by unfold maxLen;omega) (Nat.le_refl _) ?_)
   intro u0 zcm zbo
   have hb0:Below w.heap.size w u0:=(Below.refl _ _).grown zbo (Nat.le_refl _) (fun k h=>by cases h)
   go_wp2
   go_loopw [5,6,27] (fun out c i wr=>∃(k:Nat) (zs:List Nat) (cy:Nat),k<=Y.length/\i=.int .i64 k/\c=.int .u64 cy/\cy<=1/\zs.length=k/\Lim zs/\V zs+4294967296 ^ k*cy=V (Y.take k)+V (X.take k)/\wr.ownsRow w.heap.size 211 1 out k (zs.map U)/\Below w.heap.size w wr) (fun _ _ i _=>Y.length-(intOf i).toNat)
   case atStart=>exact⟨0,[],0,Nat.zero_le _,rfl,rfl,Nat.zero_le _,rfl,Lim.nil,by simp[V],zcm,hb0⟩
   case round =>
    obtain⟨k,zs,cy,hk,rfl,rfl,hcy,hzl,lz,heq,hown,hnx⟩:=hrel
    have HE:Hid (V zs+4294967296 ^ k*cy=V (Y.take k)+V (X.take k)):=heq
    have HZ:Hid (zs.length=k):=hzl
    have hsz:=hnx.size
    clear heq hzl
    by_cases hkn:k<Y.length
    . obtain⟨bl,ol,rfl,_,hcl⟩:=fL.at hnx k hkn
      obtain⟨x,hx⟩:∃x,Y.getD k 0=x:=⟨_,rfl⟩
      obtain⟨y,hy⟩:∃y,X.getD k 0=y:=⟨_,rfl⟩
      have bx:x<4294967296:=by rw[<-hx];exact lL.getD k
      have byy:y<4294967296:=by rw[<-hy];exact lS.getD k
      rw[hx]at hcl
      have HX:Hid (Y.getD k 0=x):=hx
      have HY:Hid (X.getD k 0=y):=hy
      clear hx hy
      by_cases hkm:k<X.length
      . obtain⟨bs,os,rfl,_,hcs⟩:=fS.at hnx k hkm
        rw[HY.out]at hcs
        go_wp2_with (at_builtin;refine zae rfl _ _ 94 rfl w.heap.size 211 i0 Tryz.underlying94 hi hz0 hz1 hz2 _ k zs rfl (hown.alloc _) wr.heap.size ((x+cy+y)%4294967296) rfl (zan _ _ _ _ (by omega)) (by omega) (by simp;omega) ?_)
        intro v' w1 hown1 zaq
        have hb1:Below w.heap.size w w1:=(hnx.alloc hsz _).grown zaq (by simp;omega) (fun k hk=>(hown.lt k hk).1)
        clear hcl hcs hown;go_wp2
        go_roundw
        case rel =>
         exact⟨k+1,zs++[(x+cy+y)%4294967296],(x+cy+y)/4294967296,by omega,by go_num,by go_num,by omega,by simp[HZ.out],lz.snoc (by omega),zcc HZ.out HE.out HX.out HY.out rfl,zat hown1,hb1⟩
        case measure=>simp[intOf];omega
      . have y0:y=0:=by rw[<-HY.out];exact za5 _ _ (by omega)
        subst y0
        go_wp2_with (at_builtin;refine zae rfl _ _ 94 rfl w.heap.size 211 i0 Tryz.underlying94 hi hz0 hz1 hz2 _ k zs rfl (hown.alloc _) wr.heap.size ((x+cy)%4294967296) rfl (zan _ _ _ _ (by omega)) (by omega) (by simp;omega) ?_)
        intro v' w1 hown1 zaq
        have hb1:Below w.heap.size w w1:=(hnx.alloc hsz _).grown zaq (by simp;omega) (fun k hk=>(hown.lt k hk).1)
        clear hcl hown;go_wp2
        go_roundw
        case rel =>
         exact⟨k+1,zs++[(x+cy)%4294967296],(x+cy)/4294967296,by omega,by go_num,by go_num,by omega,by simp[HZ.out],lz.snoc (by omega),zcc HZ.out HE.out HX.out HY.out (by omega),zat hown1,hb1⟩
        case measure=>simp[intOf];omega
    . obtain rfl:k=Y.length:=by omega
      go_wp2_with (at_builtin;refine zae rfl _ _ 94 rfl w.heap.size 211 i0 Tryz.underlying94 hi hz0 hz1 hz2 _ _ zs rfl (hown.alloc _) wr.heap.size cy rfl (zan _ _ _ _ (by omega)) (by omega) (by simp;omega) ?_)
      intro v' w1 hown1 zaq
      have hb1:Below w.heap.size w w1:=(hnx.alloc hsz _).grown zaq (by simp;omega) (fun k hk=>(hown.lt k hk).1)
      have o1:=zat hown1
      have lts:=lz.snoc (show cy<4294967296 by omega)
      obtain⟨ts,hts⟩:∃ts,zs++[cy]=ts:=⟨_,rfl⟩
      have htl:ts.length<=1000000000:=by rw[<-hts];simp[HZ.out];omega
      rw[hts]at o1 lts
      have HT:Hid (zs++[cy]=ts):=hts
      obtain⟨a',cap',rfl,hres⟩:=Res.of lts o1
      clear hown1 hown hts o1
      go_wp2_with fail
      refine(zbz _ _ _ _ hres.rd htl).mono ?_
      rintro e w2 ⟨a2,c2,rfl,hr2,hb2⟩;go_wp2
      go_ret
      refine⟨a2,c2,_,rfl,?_,zak _,hr2.mono hb1.size,hb1.trans (hb2.mono hb1.size)⟩
      have h1:=HE.out
      rw[List.take_length,List.take_of_length_le (by omega)]at h1
      rw[zaj,<-HT.out,zd4,HZ.out,h1,HV.out]
 . have hL2:=Xr.le
   have hL3:=Xr.cap
   unfold maxLen at hL3
   have lL:=Xr.lim
   have lS:=Yr.lim
   have fL:=Xr.fm
   have fS:=Yr.fm
   have HV:Hid (V X+V Y=V xs+V ys):=by show _=_;rw[<-hX,<-hY,zaj,zaj]
   clear Xr Yr
   go_wp2_with (at_make;refine wpList_make_own _ rfl _ _ 94 rfl w.heap.size 211 i0 (.int .u32 0) 1 Tryz.underlying94 hi hz0 hz1 _ _ _ (X.length+1) rfl rfl (by omega) (by rw[hz2];omega) (by unfold maxLen;omega) (Nat.le_refl _) ?_)
   intro u0 zcm zbo
   have hb0:Below w.heap.size w u0:=(Below.refl _ _).grown zbo (Nat.le_refl _) (fun k h=>by cases h)
   go_wp2
   go_loopw [5,6,27] (fun out c i wr=>∃(k:Nat) (zs:List Nat) (cy:Nat),k<=X.length/\i=.int .i64 k/\c=.int .u64 cy/\cy<=1/\zs.length=k/\Lim zs/\V zs+4294967296 ^ k*cy=V (X.take k)+V (Y.take k)/\wr.ownsRow w.heap.size 211 1 out k (zs.map U)/\Below w.heap.size w wr) (fun _ _ i _=>X.length-(intOf i).toNat)
   case atStart=>exact⟨0,[],0,Nat.zero_le _,rfl,rfl,Nat.zero_le _,rfl,Lim.nil,by simp[V],zcm,hb0⟩
   case round =>
    obtain⟨k,zs,cy,hk,rfl,rfl,hcy,hzl,lz,heq,hown,hnx⟩:=hrel
    have HE:Hid (V zs+4294967296 ^ k*cy=V (X.take k)+V (Y.take k)):=heq
    have HZ:Hid (zs.length=k):=hzl
    have hsz:=hnx.size
    clear heq hzl
    by_cases hkn:k<X.length
    . obtain⟨bl,ol,rfl,_,hcl⟩:=fL.at hnx k hkn
      obtain⟨x,hx⟩:∃x,X.getD k 0=x:=⟨_,rfl⟩
      obtain⟨y,hy⟩:∃y,Y.getD k 0=y:=⟨_,rfl⟩
      have bx:x<4294967296:=by rw[<-hx];exact lL.getD k
      have byy:y<4294967296:=by rw[<-hy];exact lS.getD k
      rw[hx]at hcl
      have HX:Hid (X.getD k 0=x):=hx
      have HY:Hid (Y.getD k 0=y):=hy
      clear hx hy
      by_cases hkm:k<Y.length
      . obtain⟨bs,os,rfl,_,hcs⟩:=fS.at hnx k hkm
        rw[HY.out]at hcs
        go_wp2_with (at_builtin;refine zae rfl _ _ 94 rfl w.heap.size 211 i0 Tryz.underlying94 hi hz0 hz1 hz2 _ k zs rfl (hown.alloc _) wr.heap.size ((x+cy+y)%4294967296) rfl (zan _ _ _ _ (by omega)) (by omega) (by simp;omega) ?_)
        intro v' w1 hown1 zaq
        have hb1:Below w.heap.size w w1:=(hnx.alloc hsz _).grown zaq (by simp;omega) (fun k hk=>(hown.lt k hk).1)
        clear hcl hcs hown;go_wp2
        go_roundw
        case rel =>
         exact⟨k+1,zs++[(x+cy+y)%4294967296],(x+cy+y)/4294967296,by omega,by go_num,by go_num,by omega,by simp[HZ.out],lz.snoc (by omega),zcc HZ.out HE.out HX.out HY.out rfl,zat hown1,hb1⟩
        case measure=>simp[intOf];omega
      . have y0:y=0:=by rw[<-HY.out];exact za5 _ _ (by omega)
        subst y0
        go_wp2_with (at_builtin;refine zae rfl _ _ 94 rfl w.heap.size 211 i0 Tryz.underlying94 hi hz0 hz1 hz2 _ k zs rfl (hown.alloc _) wr.heap.size ((x+cy)%4294967296) rfl (zan _ _ _ _ (by omega)) (by omega) (by simp;omega) ?_)
        intro v' w1 hown1 zaq
        have hb1:Below w.heap.size w w1:=(hnx.alloc hsz _).grown zaq (by simp;omega) (fun k hk=>(hown.lt k hk).1)
        clear hcl hown;go_wp2
        go_roundw
        case rel =>
         exact⟨k+1,zs++[(x+cy)%4294967296],(x+cy)/4294967296,by omega,by go_num,by go_num,by omega,by simp[HZ.out],lz.snoc (by omega),zcc HZ.out HE.out HX.out HY.out (by omega),zat hown1,hb1⟩
        case measure=>simp[intOf];omega
    . obtain rfl:k=X.length:=by omega
      go_wp2_with (at_builtin;refine zae rfl _ _ 94 rfl w.heap.size 211 i0 Tryz.underlying94 hi hz0 hz1 hz2 _ _ zs rfl (hown.alloc _) wr.heap.size cy rfl (zan _ _ _ _ (by omega)) (by omega) (by simp;omega) ?_)
      intro v' w1 hown1 zaq
      have hb1:Below w.heap.size w w1:=(hnx.alloc hsz _).grown zaq (by simp;omega) (fun k hk=>(hown.lt k hk).1)
      have o1:=zat hown1
      have lts:=lz.snoc (show cy<4294967296 by omega)
      obtain⟨ts,hts⟩:∃ts,zs++[cy]=ts:=⟨_,rfl⟩
      have htl:ts.length<=1000000000:=by rw[<-hts];simp[HZ.out];omega
      rw[hts]at o1 lts
      have HT:Hid (zs++[cy]=ts):=hts
      obtain⟨a',cap',rfl,hres⟩:=Res.of lts o1
      clear hown1 hown hts o1
      go_wp2_with fail
      refine(zbz _ _ _ _ hres.rd htl).mono ?_
      rintro e w2 ⟨a2,c2,rfl,hr2,hb2⟩;go_wp2
      go_ret
      refine⟨a2,c2,_,rfl,?_,zak _,hr2.mono hb1.size,hb1.trans (hb2.mono hb1.size)⟩
      have h1:=HE.out
      rw[List.take_length,List.take_of_length_le (by omega)]at h1
      rw[zaj,<-HT.out,zd4,HZ.out,h1,HV.out]
def Blk(e:TypeId)(w:World)(g:Nat)(zs:List Nat):Prop :=
 ∃cur:Array Value,w.heap[g]?=some (.cells cur e (0,0))/\zs.length<=cur.size/\cur.toList.take zs.length=zs.map U
theorem Blk.cell{e:TypeId}{w:World}{g:Nat}{zs:List Nat}(h:Blk e w g zs)(i:Nat)(hi:i<zs.length):w.cell? ⟨g,i,none⟩=some (.int .u32 (zs.getD i 0:Nat)):=by
 obtain⟨cur,h1,h2,h3⟩:=h
 rw[cell_of_row w g i _ e (0,0) h1]
 have h4:(cur.toList.take zs.length)[i]?=(zs.map U)[i]?:=by rw[h3]
 rw[List.getElem?_take,if_pos hi]at h4
 simp at h4
 rw[h4]
 simp[List.getD,U,hi]
theorem Blk.frozen{e:TypeId}{w:World}{g:Nat}{zs:List Nat}(h:Blk e w g zs)(i:Nat):w.frozen? ⟨g,i,none⟩=false:=by
 obtain⟨cur,h1,_⟩:=h
 exact frozen_of_row w g i _ e h1
theorem Blk.lt{e:TypeId}{w:World}{g:Nat}{zs:List Nat}(h:Blk e w g zs):g<w.heap.size:=by
 obtain⟨cur,h1,_⟩:=h
 exact(Array.getElem?_eq_some_iff.1 h1).1
theorem Blk.set{e:TypeId}{w:World}{g:Nat}{zs:List Nat}(h:Blk e w g zs)(i:Nat)(q:Int)(z:Nat)(hi:i<zs.length)(hq:q=(z:Int)):Blk e (w.setCell ⟨g,i,none⟩ (.int .u32 q)) g (zs.set i z):=by
 subst hq;obtain⟨cur,h1,h2,h3⟩:=h
 refine⟨cur.setIfInBounds i (.int .u32 (z:Int)),heap_setCell_same w g i _ e (.int .u32 (z:Int)) h1,by simpa using h2,?_⟩
 rw[List.map_set,<-h3,Array.toList_setIfInBounds,List.length_set,List.take_set]
 rfl
theorem Blk.below{e:TypeId}{w w':World}{g:Nat}{zs:List Nat}(h:Blk e w g zs)(hb:Below w.heap.size w w'):Blk e w' g zs:=by
 have hl:=h.lt
 obtain⟨cur,h1,h2⟩:=h
 exact⟨cur,(hb.block g hl).trans h1,h2⟩
theorem Blk.other{e:TypeId}{w w':World}{g k:Nat}{zs:List Nat}(h:Blk e w g zs)(hg:w.grownBy w' (some k))(hne:g≠k):Blk e w' g zs:=by
 have hl:=h.lt
 obtain⟨cur,h1,h2⟩:=h
 exact⟨cur,(hg.block g hl (by simpa using hne)).trans h1,h2⟩
theorem Blk.rd{e:TypeId}{w:World}{g:Nat}{zs:List Nat}(h:Blk e w g zs)(hl:Lim zs)(off n cap:Nat)(h1:off+n<=zs.length)(h2:n<=cap)(h3:cap<=maxLen) :
 Rd w (some ⟨g,off,none⟩) cap ((zs.drop off).take n):=by
 refine⟨(hl.drop off).take n,by simp;omega,h3,(by simp),.inr ⟨g,off,rfl,h.lt,fun i hi=>?_⟩⟩
 simp at hi
 rw[h.cell (off+i) (by omega)]
 simp[List.getD,show off+i<zs.length by omega,show i<n by omega]
theorem za4{w wr:World}{g:Nat}(h:w.grownBy wr (some g))(i:Nat)(v:Value):w.grownBy (wr.setCell ⟨g,i,none⟩ v) (some g) :=
 ⟨h.os,h.tape,h.output,by have:=h.size;simp[World.setCell];exact this,fun k hk hne=>by rw[Below.heap_setCell wr ⟨g,i,none⟩ v k (fun e=>hne (by simp[e]))];exact h.block k hk hne⟩
theorem Fm.other{w wr:World}{g:Nat}{a:Option Addr}{xs:List Nat}(h:Fm w a xs)(hg:w.grownBy wr (some g))(hs:∀k o,a=some ⟨k,o,none⟩->xs≠[]->k≠g)(k:Nat)(hk:k<xs.length) :
 ∃b off,a=some ⟨b,off,none⟩/\b≠g/\wr.cell? ⟨b,off+k,none⟩=some (.int .u32 (xs.getD k 0:Nat)):=by
 rcases h with rfl|⟨b,off,h1,h2,h3⟩
 . simp at hk
 . have hne:b≠g:=hs b off h1 (by intro e;rw[e]at hk;simp at hk)
   exact⟨b,off,h1,hne,(World.cell?_of_block (w:=w) (a:=⟨b,off+k,none⟩) (hg.block b h2 (by simpa using hne))).trans (h3 k hk)⟩
theorem Rd.other{w wr:World}{g:Nat}{a:Option Addr}{cap:Nat}{xs:List Nat}(h:Rd w a cap xs)(hg:w.grownBy wr (some g))(hs:∀k o,a=some ⟨k,o,none⟩->xs≠[]->k≠g):Rd wr a cap xs:=by
 obtain⟨h1,h2,h3,h5,h4⟩:=h
 refine⟨h1,h2,h3,h5,?_⟩
 rcases h4 with h4|⟨b,off,e,hb1,hc⟩
 . exact .inl h4
 . by_cases hx:xs=[]
   . exact .inl hx
   . exact .inr ⟨b,off,e,Nat.lt_of_lt_of_le hb1 hg.size,fun i hi=>(World.cell?_of_block (w:=w) (a:=⟨b,off+i,none⟩) (hg.block b hb1 (by simpa using hs b off e hx))).trans (hc i hi)⟩
theorem zc7(n:Nat):(madeCells (Value.int .u32 0).cells n).toList=(List.replicate n 0).map U:=by
 apply List.ext_getElem?
 intro i
 by_cases h:i<n
 . simp[madeCells,h,U,Value.cells,Nat.mod_one]
 . simp[madeCells,h,U]
theorem ze5{e:TypeId}{w':World}{base n g:Nat}(h:w'.ownsRow base e 1 (.slice (some ⟨g,0,none⟩) n n) n (madeCells #[Value.int .u32 0] n).toList):Blk e w' g (List.replicate n 0):=by
 rw[show(#[Value.int .u32 0]:Array Value)=(Value.int .u32 0).cells from rfl,zc7]at h
 rcases h.2 with ⟨h0,_⟩|⟨g',cap,cur,h1,h2,h3,h4,h5,h6,h7⟩
 . cases h0
 . simp at h1
   obtain⟨rfl,rfl⟩:=h1
   exact⟨cur,h3,by simp;omega,by simpa using h7⟩
theorem Res.blk{e:TypeId}{base:Nat}{w:World}{a:Option Addr}{cap:Nat}{xs:List Nat}(h:Res e base w a cap xs) :
 xs=[]\/∃g,a=some ⟨g,0,none⟩/\base<=g/\Blk e w g xs:=by
 rcases h.2.2 with ⟨h0,h1⟩|⟨g,cap',cur,h1,h2,h3,h4,h5,h6,h7⟩
 . exact .inl (List.length_eq_zero_iff.1 h1)
 . simp at h1
   obtain⟨rfl,rfl⟩:=h1
   exact .inr ⟨g,rfl,h2,cur,h3,by omega,by simpa using h7⟩
def Sv(f:Nat->Nat):Nat->Nat
 | 0=>0
 | k+1=>Sv f k+4294967296 ^ k*f k
theorem zb1{f g:Nat->Nat}{k:Nat}(h:∀i,i<k->f i=g i):Sv f k=Sv g k:=by
 induction k with
 | zero=>rfl
 | succ k ih=>rw[Sv,Sv,ih (fun i hi=>h i (by omega)),h k (by omega)]
theorem zgu(f:Nat->Nat)(m n:Nat):Sv f (m+n)=Sv f m+4294967296 ^ m*Sv (fun i=>f (m+i)) n:=by
 induction n with
 | zero=>simp[Sv]
 | succ n ih=>rw[<-Nat.add_assoc,Sv,ih,Sv,Nat.pow_add,Nat.mul_add,<-Nat.add_assoc,Nat.mul_assoc]
theorem Sv_lt{f:Nat->Nat}{k:Nat}(h:∀i,i<k->f i<4294967296):Sv f k<4294967296 ^ k:=by
 induction k with
 | zero=>simp[Sv]
 | succ k ih =>
  have h1:=ih (fun i hi=>h i (by omega))
  have h2:=h k (by omega)
  have h3:4294967296 ^ k*f k<=4294967296 ^ k*4294967295:=Nat.mul_le_mul_left _ (by omega)
  rw[Sv,Nat.pow_succ];omega
theorem zrs{f:Nat->Nat}{k:Nat}(h:∀i,i<k->f i=0):Sv f k=0:=by
 induction k with
 | zero=>rfl
 | succ k ih=>rw[Sv,ih (fun i hi=>h i (by omega)),h k (by omega)];simp
theorem zcj(xs:List Nat)(k:Nat):V (xs.take k)=Sv (fun i=>xs.getD i 0) k:=by
 induction k with
 | zero=>simp[V,Sv]
 | succ k ih=>rw[zao,ih,Sv]
theorem V_Sv(xs:List Nat):V xs=Sv (fun i=>xs.getD i 0) xs.length:=by rw[<-zcj,List.take_length]
theorem zl1(xs:List Nat)(i j z:Nat):(xs.set i z).getD j 0=if i=j/\j<xs.length then z else xs.getD j 0:=by
 simp only[List.getD_eq_getElem?_getD,List.getElem?_set]
 by_cases h:i=j
 . subst h
   by_cases h2:i<xs.length
   . simp[h2]
   . simp[h2]
 . simp[h]
theorem zax(xs:List Nat)(i j z:Nat)(h:i≠j):(xs.set i z).getD j 0=xs.getD j 0:=by rw[zl1,if_neg (by omega)]
theorem za6(xs:List Nat)(i z:Nat)(h:i<xs.length):(xs.set i z).getD i 0=z:=by rw[zl1,if_pos ⟨rfl,h⟩]
theorem zro{cs zs ys:List Nat}{off k cy f y o s p:Nat}(hy:ys.getD k 0=y)(hp:y*f=p)(ho:zs.getD (off+k) 0=o)(hs:s=p+o+cy)(hlen:off+k<cs.length)
    (he:Sv (fun i=>cs.getD (off+i) 0) k+4294967296 ^ k*cy=Sv (fun i=>zs.getD (off+i) 0) k+V (ys.take k)*f) :
    Sv (fun i=>(cs.set (off+k) (s%4294967296)).getD (off+i) 0) (k+1)+4294967296 ^ (k+1)*(s/4294967296)=Sv (fun i=>zs.getD (off+i) 0) (k+1)+V (ys.take (k+1))*f:=by
 rw[Sv,Sv,zao,hy,ho,za6 _ _ _ hlen,Nat.pow_succ]
 rw[zb1 (g:=fun i=>cs.getD (off+i) 0) (fun i hi=>zax _ _ _ _ (by omega))]
 have hd:=Nat.mod_add_div s 4294967296
 generalize s%4294967296=r at hd ⊢
 generalize s/4294967296=d at hd ⊢
 subst hs;subst hp
 generalize 4294967296 ^ k=q at he ⊢
 generalize Sv (fun i=>cs.getD (off+i) 0) k=A at he ⊢
 generalize Sv (fun i=>zs.getD (off+i) 0) k=C at he ⊢
 generalize V (ys.take k)=D at he ⊢
 grind
theorem zdv{y f:Nat}(hy:y<4294967296)(hf:f<4294967296):y*f<=18446744065119617025:=by
 have:=Nat.mul_le_mul (show y<=4294967295 by omega) (show f<=4294967295 by omega)
 simpa using this
theorem zcd{a b:Int}(h:a=b):Ending.returned (.int .u32 a)=.returned (.int .u32 b):=by rw[h]
theorem zmk(g off co:Nat)(zs:List Nat)(b:Option Addr)(cb:Nat)(ys:List Nat)(f:Nat)(w:World)(hblk:Blk 211 w g zs)(lz:Lim zs)(hb:Rd w b cb ys)
    (zs9:∀k o,b=some ⟨k,o,none⟩->ys≠[]->k≠g) (hf:f<4294967296) (hlen:off+ys.length<=zs.length) (hbig:zs.length<=4000000000) :
    Calls Tryz.prog 185 #[.slice (some ⟨g,off,none⟩) ys.length co,.slice b ys.length cb,.int .u32 (f:Int)] w fun e w' =>
     ∃(cs:List Nat) (c:Nat),e=.returned (.int .u32 (c:Int))/\c<4294967296/\cs.length=zs.length/\Lim cs/\(∀i,i<off\/off+ys.length<=i->cs.getD i 0=zs.getD i 0) /\
      Sv (fun i=>cs.getD (off+i) 0) ys.length+4294967296 ^ ys.length*c=Sv (fun i=>zs.getD (off+i) 0) ys.length+V ys*f/\Blk 211 w' g cs/\w.grownBy w' (some g):=by
 have fb:=hb.fm
 have lb:=hb.lim
 clear hb
 go_enter Tryz.func185,Tryz.ntmps185
 go_wp2
 go_loopw [7,13] (fun c i wr=>∃(k:Nat) (cs:List Nat) (cy:Nat),k<=ys.length/\i=.int .i64 k/\c=.int .u64 cy/\cy<4294967296/\cs.length=zs.length/\Lim cs/\(∀i,i<off\/off+k<=i->cs.getD i 0=zs.getD i 0) /\
     Sv (fun i=>cs.getD (off+i) 0) k+4294967296 ^ k*cy=Sv (fun i=>zs.getD (off+i) 0) k+V (ys.take k)*f/\Blk 211 wr g cs/\w.grownBy wr (some g)) (fun _ i _=>ys.length-(intOf i).toNat)
 case atStart=>exact⟨0,zs,0,Nat.zero_le _,rfl,rfl,by decide,rfl,lz,fun _ _=>rfl,by simp[V,Sv],hblk,World.grownBy.refl _ _⟩
 case round =>
  obtain⟨k,cs,cy,hk,rfl,rfl,hcy,hcl,lc,zb9,heq,hB,hg⟩:=hrel
  have HE:Hid (Sv (fun i=>cs.getD (off+i) 0) k+4294967296 ^ k*cy=Sv (fun i=>zs.getD (off+i) 0) k+V (ys.take k)*f):=heq
  have HC:Hid (cs.length=zs.length):=hcl
  have HS:Hid (∀i,i<off\/off+k<=i->cs.getD i 0=zs.getD i 0):=zb9
  clear heq zb9
  by_cases hkn:k<ys.length
  . obtain⟨b1,o1,rfl,hne,c1⟩:=fb.other hg zs9 k hkn
    have c2:=hB.cell (off+k) (by omega)
    have c3:=hB.frozen (off+k)
    obtain⟨y,hy⟩:∃y,ys.getD k 0=y:=⟨_,rfl⟩
    obtain⟨o,ho⟩:∃o,cs.getD (off+k) 0=o:=⟨_,rfl⟩
    rw[hy]at c1;rw[ho]at c2
    have by1:y<4294967296:=by rw[<-hy];exact lb.getD k
    have bo1:o<4294967296:=by rw[<-ho];exact lc.getD _
    obtain⟨p,hp⟩:∃p,y*f=p:=⟨_,rfl⟩
    have bp:p<=18446744065119617025:=by rw[<-hp];exact zdv by1 hf
    have hpi:(y:Int)*(f:Int)=(p:Int):=by rw[<-hp];simp
    have HY:Hid (ys.getD k 0=y):=hy
    have HO:Hid (zs.getD (off+k) 0=o):=by show _=_;rw[<-HS.out (off+k) (by omega)];exact ho
    have HP:Hid (y*f=p):=hp
    clear hy ho hp hcl;go_wp2
    go_roundw
    case rel =>
     refine⟨k+1,cs.set (off+k) ((p+o+cy)%4294967296),(p+o+cy)/4294967296,by omega,by go_num,by go_num,by omega,by rw[List.length_set];exact HC.out,lc.set _ (by omega),fun i hi=>?_,zro HY.out HP.out HO.out rfl (by rw[HC.out];omega) HE.out,hB.set _ _ _ (by rw[HC.out];omega) (by omega),za4 hg _ _⟩
     rw[zax _ _ _ _ (by omega)];exact HS.out i (by omega)
    case measure=>simp[intOf];omega
  . obtain rfl:k=ys.length:=by omega
    go_wp2
    go_ret
    refine⟨cs,cy,zcd (by omega),hcy,HC.out,lc,fun i hi=>HS.out i hi,?_,hB,hg⟩
    have:=HE.out
    rw[List.take_length]at this;exact this
theorem zlp(l x:Nat)(hl:l<4294967296)(hx:x<4294967296):bits BinOp.or IntKind.u64 ((l:Int)*4294967296) (x:Int)=(l:Int)*4294967296+(x:Int):=by
 have h:=u64_or_nat (l*4294967296) x (by omega) (by omega)
 have e:l*4294967296 ||| x=l*4294967296+x:=by
  have:=Nat.shiftLeft_add_eq_or_of_lt (show x<2 ^ 32 by omega) l
  rw[Nat.shiftLeft_eq]at this
  exact this.symm
 rw[e]at h
 have c1:((l*4294967296:Nat):Int)=(l:Int)*4294967296:=by simp
 rw[c1]at h
 rw[h];simp
theorem zh5(n:Int):IntKind.u32.wrap n=n%4294967296:=by simp[IntKind.wrap,IntKind.bits,IntKind.signed]
theorem zey(xs:List Nat)(j:Nat):V (xs.drop j)=xs.getD j 0+4294967296*V (xs.drop (j+1)):=by
 rw[zbb (xs.drop j),List.tail_drop]
 simp[List.getD]
theorem zq6{C Z d r x p qq rr:Nat}(he:C*d+r=Z)(hq:d*qq+rr=p)(hp:r*4294967296+x=p):(qq+4294967296*C)*d+rr=x+4294967296*Z:=by
 subst he;subst hp
 grind
theorem ztj(g co:Nat)(zs:List Nat)(d:Nat)(w:World)(hblk:Blk 211 w g zs)(lz:Lim zs)(hd0:1<=d)(hd:d<4294967296)(hbig:zs.length<=4000000000) :
 Calls Tryz.prog 183 #[.slice (some ⟨g,0,none⟩) zs.length co,.int .u32 (d:Int)] w fun e w' =>
     ∃(cs:List Nat) (r:Nat),e=.returned (.int .u32 (r:Int))/\r<d/\cs.length=zs.length/\Lim cs/\V cs*d+r=V zs/\Blk 211 w' g cs/\w.grownBy w' (some g):=by
 go_enter Tryz.func183,Tryz.ntmps183
 go_wp2
 go_loopw [5,6] (fun l i wr=>∃(k:Nat) (q:Int) (cs:List Nat) (r:Nat),k<=zs.length/\q=(k:Int)-1/\i=.int .i64 q/\l=.int .u64 r/\r<d/\cs.length=zs.length/\Lim cs/\(∀j,j<k->cs.getD j 0=zs.getD j 0)/\V (cs.drop k)*d+r=V (zs.drop k)/\Blk 211 wr g cs/\w.grownBy wr (some g)) (fun _ i _=>(intOf i+1).toNat)
 case atStart=>exact⟨zs.length,_,zs,0,Nat.le_refl _,rfl,rfl,rfl,by omega,rfl,lz,fun _ _=>rfl,by simp[V],hblk,World.grownBy.refl _ _⟩
 case round =>
  obtain⟨k,q,cs,r,hk,hq,rfl,rfl,hr,hcl,lc,zb9,heq,hB,hg⟩:=hrel
  have HE:Hid (V (cs.drop k)*d+r=V (zs.drop k)):=heq
  have HC:Hid (cs.length=zs.length):=hcl
  have HS:Hid (∀j,j<k->cs.getD j 0=zs.getD j 0):=zb9
  clear heq zb9 hcl
  by_cases hk0:k=0
  . subst hk0
    obtain rfl:q=-1:=by omega
    clear hq;go_wp2
    go_ret
    exact⟨cs,r,zcd (by omega),hr,HC.out,lc,by simpa using HE.out,hB,hg⟩
  . obtain⟨j,rfl⟩:∃j,k=j+1:=⟨k-1,by omega⟩
    obtain rfl:q=(j:Int):=by omega
    clear hq
    have c2:=hB.cell j (by rw[HC.out];omega)
    have c3:=hB.frozen j
    obtain⟨x,hx⟩:∃x,cs.getD j 0=x:=⟨_,rfl⟩
    rw[hx]at c2
    have bx:x<4294967296:=by rw[<-hx];exact lc.getD _
    have HX:Hid (cs.getD j 0=x):=hx
    have hor:=zlp r x (by omega) bx
    obtain⟨p,hp⟩:∃p,r*4294967296+x=p:=⟨_,rfl⟩
    have hpi:(r:Int)*4294967296+(x:Int)=(p:Int):=by omega
    have bp:p<d*4294967296:=by omega
    have HP:Hid (r*4294967296+x=p):=hp
    have qlt:p/d<4294967296:=Nat.div_lt_of_lt_mul bp
    have rlt:p%d<d:=Nat.mod_lt _ (by omega)
    have hqd:(p:Int)/(d:Int)=((p/d:Nat):Int):=by simp
    have hrd:(p:Int)%(d:Int)=((p%d:Nat):Int):=by simp
    have HQ:Hid (d*(p/d)+p%d=p):=Nat.div_add_mod p d
    generalize p/d=qq at *
    generalize p%d=rr at *
    clear hx hp;go_wp2
    go_roundw
    case rel =>
     refine⟨j,_,cs.set j qq,rr,by omega,rfl,by go_num,congrArg (Value.int .u64) hrd,rlt,by rw[List.length_set];exact HC.out,lc.set _ qlt,fun i hi=>?_,?_,hB.set _ _ _ (by rw[HC.out];omega) rfl,za4 hg _ _⟩
     . rw[zax _ _ _ _ (by omega)];exact HS.out i (by omega)
     . rw[zey,zey zs j,za6 _ _ _ (by rw[HC.out];omega),List.drop_set_of_lt (by omega),<-HS.out j (by omega),HX.out]
       exact zq6 HE.out HQ.out HP.out
    case measure=>simp[intOf]
theorem divl_nil(a:Option Addr)(co d:Nat)(w:World) :
 Calls Tryz.prog 183 #[.slice a 0 co,.int .u32 (d:Int)] w fun e w'=>e=.returned (.int .u32 0)/\w=w':=by
 go_enter Tryz.func183,Tryz.ntmps183
 go_wp2
 go_loop [5,6] (fun l i=>l=.int .u64 0/\i=.int .i64 (-1)) (fun _ i=>(intOf i).toNat)
 case atStart=>exact⟨rfl,rfl⟩
 case round =>
  obtain⟨rfl,rfl⟩:=hrel;go_wp2
  go_ret
  exact⟨rfl,rfl⟩
theorem zh7{cs zs ys:List Nat}{off k cy f y o p z c2:Nat}(hy:ys.getD k 0=y)(hp:y*f=p)(ho:zs.getD (off+k) 0=o)(hz:z+p+cy=o+4294967296*c2)(hlen:off+k<cs.length)
    (he:Sv (fun i=>cs.getD (off+i) 0) k+V (ys.take k)*f=Sv (fun i=>zs.getD (off+i) 0) k+4294967296 ^ k*cy) :
    Sv (fun i=>(cs.set (off+k) z).getD (off+i) 0) (k+1)+V (ys.take (k+1))*f=Sv (fun i=>zs.getD (off+i) 0) (k+1)+4294967296 ^ (k+1)*c2:=by
 rw[Sv,Sv,zao,hy,ho,za6 _ _ _ hlen,Nat.pow_succ]
 rw[zb1 (g:=fun i=>cs.getD (off+i) 0) (fun i hi=>zax _ _ _ _ (by omega))]
 subst hp
 generalize 4294967296 ^ k=q at he ⊢
 generalize Sv (fun i=>cs.getD (off+i) 0) k=A at he ⊢
 generalize Sv (fun i=>zs.getD (off+i) 0) k=C at he ⊢
 generalize V (ys.take k)=D at he ⊢
 have h1:q*(z+y*f+cy)=q*(o+4294967296*c2):=by rw[hz]
 grind
theorem zrz(g off co:Nat)(zs:List Nat)(b:Option Addr)(cb:Nat)(ys:List Nat)(f:Nat)(w:World)(hblk:Blk 211 w g zs)(lz:Lim zs)(hb:Rd w b cb ys)
    (zs9:∀k o,b=some ⟨k,o,none⟩->ys≠[]->k≠g) (hf:f<4294967296) (hlen:off+ys.length<=zs.length) (hbig:zs.length<=4000000000) :
    Calls Tryz.prog 228 #[.slice (some ⟨g,off,none⟩) ys.length co,.slice b ys.length cb,.int .u32 (f:Int)] w fun e w' =>
     ∃(cs:List Nat) (c:Nat),e=.returned (.int .u32 (c:Int))/\c<4294967296/\cs.length=zs.length/\Lim cs/\(∀i,i<off\/off+ys.length<=i->cs.getD i 0=zs.getD i 0) /\
      Sv (fun i=>cs.getD (off+i) 0) ys.length+V ys*f=Sv (fun i=>zs.getD (off+i) 0) ys.length+4294967296 ^ ys.length*c/\Blk 211 w' g cs/\w.grownBy w' (some g):=by
 have fb:=hb.fm
 have lb:=hb.lim
 clear hb
 go_enter Tryz.func228,Tryz.ntmps228
 go_wp2
 go_loopw [7,13] (fun c i wr=>∃(k:Nat) (cs:List Nat) (cy:Nat),k<=ys.length/\i=.int .i64 k/\c=.int .u64 cy/\cy<4294967296/\cs.length=zs.length/\Lim cs/\(∀i,i<off\/off+k<=i->cs.getD i 0=zs.getD i 0) /\
     Sv (fun i=>cs.getD (off+i) 0) k+V (ys.take k)*f=Sv (fun i=>zs.getD (off+i) 0) k+4294967296 ^ k*cy/\Blk 211 wr g cs/\w.grownBy wr (some g)) (fun _ i _=>ys.length-(intOf i).toNat)
 case atStart=>exact⟨0,zs,0,Nat.zero_le _,rfl,rfl,by decide,rfl,lz,fun _ _=>rfl,by simp[V,Sv],hblk,World.grownBy.refl _ _⟩
 case round =>
  obtain⟨k,cs,cy,hk,rfl,rfl,hcy,hcl,lc,zb9,heq,hB,hg⟩:=hrel
  have HE:Hid (Sv (fun i=>cs.getD (off+i) 0) k+V (ys.take k)*f=Sv (fun i=>zs.getD (off+i) 0) k+4294967296 ^ k*cy):=heq
  have HC:Hid (cs.length=zs.length):=hcl
  have HS:Hid (∀i,i<off\/off+k<=i->cs.getD i 0=zs.getD i 0):=zb9
  clear heq zb9
  by_cases hkn:k<ys.length
  . obtain⟨b1,o1,rfl,hne,c1⟩:=fb.other hg zs9 k hkn
    have c2:=hB.cell (off+k) (by omega)
    have c3:=hB.frozen (off+k)
    obtain⟨y,hy⟩:∃y,ys.getD k 0=y:=⟨_,rfl⟩
    obtain⟨o,ho⟩:∃o,cs.getD (off+k) 0=o:=⟨_,rfl⟩
    rw[hy]at c1;rw[ho]at c2
    have by1:y<4294967296:=by rw[<-hy];exact lb.getD k
    have bo1:o<4294967296:=by rw[<-ho];exact lc.getD _
    obtain⟨p,hp⟩:∃p,y*f=p:=⟨_,rfl⟩
    have bp:p<=18446744065119617025:=by rw[<-hp];exact zdv by1 hf
    have hpi:(y:Int)*(f:Int)=(p:Int):=by rw[<-hp];simp
    have HY:Hid (ys.getD k 0=y):=hy
    have HO:Hid (zs.getD (off+k) 0=o):=by show _=_;rw[<-HS.out (off+k) (by omega)];exact ho
    have HP:Hid (y*f=p):=hp
    clear hy ho hp hcl
    by_cases hlo:o<(p+cy)%4294967296
    . go_wp2
      go_roundw
      case rel =>
       refine⟨k+1,cs.set (off+k) (o+4294967296-(p+cy)%4294967296),(p+cy)/4294967296+1,by omega,by go_num,by go_num,by omega,by rw[List.length_set];exact HC.out,lc.set _ (by omega),fun i hi=>?_,zh7 HY.out HP.out HO.out (by omega) (by rw[HC.out];omega) HE.out,hB.set _ _ _ (by rw[HC.out];omega) (by first | omega | (simp only[zh5];omega)),za4 hg _ _⟩
       rw[zax _ _ _ _ (by omega)];exact HS.out i (by omega)
      case measure=>simp[intOf];omega
    . go_wp2
      go_roundw
      case rel =>
       refine⟨k+1,cs.set (off+k) (o-(p+cy)%4294967296),(p+cy)/4294967296,by omega,by go_num,by go_num,by omega,by rw[List.length_set];exact HC.out,lc.set _ (by omega),fun i hi=>?_,zh7 HY.out HP.out HO.out (by omega) (by rw[HC.out];omega) HE.out,hB.set _ _ _ (by rw[HC.out];omega) (by omega),za4 hg _ _⟩
       rw[zax _ _ _ _ (by omega)];exact HS.out i (by omega)
      case measure=>simp[intOf];omega
  . obtain rfl:k=ys.length:=by omega
    go_wp2
    go_ret
    refine⟨cs,cy,zcd (by omega),hcy,HC.out,lc,fun i hi=>HS.out i hi,?_,hB,hg⟩
    have:=HE.out
    rw[List.take_length]at this;exact this
theorem zno(n i:Nat):(List.replicate n 0).getD i 0=0:=by
 by_cases h:i<n <;> simp[List.getD,h]
theorem zss{cs ds a b:List Nat}{i x c:Nat}(hx:a.getD i 0=x)(hl:cs.length=ds.length)(hlen:i+b.length<ds.length)(hinv:Sv (fun j=>cs.getD j 0) (i+b.length)=V (a.take i)*V b)
    (zb9:∀j,j<i\/i+b.length<=j->ds.getD j 0=cs.getD j 0)
    (he:Sv (fun j=>ds.getD (i+j) 0) b.length+4294967296 ^ b.length*c=Sv (fun j=>cs.getD (i+j) 0) b.length+V b*x) :
    Sv (fun j=>(ds.set (i+b.length) c).getD j 0) (i+1+b.length)=V (a.take (i+1))*V b:=by
 rw[show i+1+b.length=i+b.length+1 by omega,Sv,za6 _ _ _ hlen]
 rw[zb1 (g:=fun j=>ds.getD j 0) (fun j hj=>zax _ _ _ _ (by omega))]
 rw[zgu]at hinv ⊢
 rw[zb1 (f:=fun j=>ds.getD j 0) (g:=fun j=>cs.getD j 0) (fun j hj=>zb9 j (by omega)),zao,hx,Nat.pow_add]
 generalize 4294967296 ^ i=p at hinv ⊢
 generalize 4294967296 ^ b.length=q at he ⊢
 generalize Sv (fun j=>cs.getD j 0) i=A at hinv ⊢
 generalize Sv (fun j=>cs.getD (i+j) 0) b.length=C at he hinv ⊢
 generalize Sv (fun j=>ds.getD (i+j) 0) b.length=D at he ⊢
 generalize V (a.take i)=E at hinv ⊢
 generalize V b=F at he hinv ⊢
 have h1:p*(D+q*c)=p*(C+F*x):=by rw[he]
 grind
theorem zk8(a:Option Addr)(cap n:Nat)(xs:List Nat)(w:World)(hn:n=xs.length)(h:Rd w a cap xs)(hl:xs.length<=1000000000) :
 Calls Tryz.prog 140 #[.slice a n cap] w fun e w'=>∃a' cap',e=.returned (.slice a' (strip xs).length cap')/\Res 211 w.heap.size w' a' cap' (strip xs)/\Below w.heap.size w w':=by
 subst hn;exact zbz a cap xs w h hl
theorem zfn(a:Option Addr)(cap:Nat)(xs:List Nat)(b:Option Addr)(cbp:Nat)(ys:List Nat)(w:World)(ha:Rd w a cap xs)(hb:Rd w b cbp ys)(hla:xs.length<=400000000)(hlb:ys.length<=400000000) :
 Calls Tryz.prog 144 #[.slice a xs.length cap,.slice b ys.length cbp] w fun e w' =>
     ∃a' cap' zs,e=.returned (.slice a' zs.length cap')/\V zs=V xs*V ys/\Tr zs/\Res 211 w.heap.size w' a' cap' zs/\Below w.heap.size w w':=by
 obtain⟨i0,hi,hz0,hz1,hz2⟩:=info_parts za3
 have Xr:=ha.strip
 have Yr:=hb.strip
 have lx:=zag xs
 have ly:=zag ys
 go_enter Tryz.func144,Tryz.ntmps144
 go_wp2_with fail
 refine(zby a cap xs _ ha).mono ?_
 rintro e w' ⟨rfl,rfl⟩
 go_wp2_with fail
 refine(zby b cbp ys _ hb).mono ?_
 rintro e w' ⟨rfl,rfl⟩
 clear ha hb
 have HV:Hid (V (strip xs)=V xs/\V (strip ys)=V ys):=⟨zaj xs,zaj ys⟩
 generalize strip xs=X at Xr lx HV ⊢
 generalize strip ys=Y at Yr ly HV ⊢
 have fX:=Xr.fm
 have lX:=Xr.lim
 clear Xr
 go_wp2_with (at_make;refine wpList_make_full _ rfl _ _ 94 rfl w.heap.size 211 i0 (.int .u32 0) 1 Tryz.underlying94 hi hz0 hz1 _ _ _ _ (X.length+Y.length) rfl rfl (by omega) (by omega) (by rw[hz2];omega) (by unfold maxLen;omega) (Nat.le_refl _) ?_)
 intro u0 zcm zbo
 have hb0:Below w.heap.size w u0:=(Below.refl _ _).grown zbo (Nat.le_refl _) (fun k h=>by cases h)
 have hB0:=ze5 zcm
 clear zcm zbo;go_wp2
 go_loopw [20] (fun i wr=>∃(k:Nat) (cs:List Nat),k<=X.length/\i=.int .i64 k/\cs.length=X.length+Y.length/\Lim cs/\Sv (fun j=>cs.getD j 0) (k+Y.length)=V (X.take k)*V Y/\Blk 211 wr w.heap.size cs/\Below w.heap.size w wr) (fun i _=>X.length-(intOf i).toNat)
 case atStart=>exact⟨0,_,Nat.zero_le _,rfl,List.length_replicate,fun x hx=>by rw[List.eq_of_mem_replicate hx];decide,by rw[zrs (fun i hi=>zno _ _)];simp[V],hB0,hb0⟩
 case round =>
  obtain⟨k,cs,hk,rfl,hcl,lc,hinv,hB,hnx⟩:=hrel
  have HC:Hid (cs.length=X.length+Y.length):=hcl
  have HI:Hid (Sv (fun j=>cs.getD j 0) (k+Y.length)=V (X.take k)*V Y):=hinv
  have hsz:=hnx.size
  clear hinv hcl
  by_cases hkn:k<X.length
  . obtain⟨b1,o1,rfl,hlt,c1⟩:=fX.at hnx k hkn
    obtain⟨x,hx⟩:∃x,X.getD k 0=x:=⟨_,rfl⟩
    rw[hx]at c1
    have bx:x<4294967296:=by rw[<-hx];exact lX.getD k
    have HX:Hid (X.getD k 0=x):=hx
    clear hx
    have zs9:∀k o,b=some ⟨k,o,none⟩->Y≠[]->k≠w.heap.size:=fun k o e hne=>by
     subst e
     have:=Yr.lt hne
     omega
    go_wp2_with fail
    refine(zmk w.heap.size k _ cs b cbp Y x wr hB lc (Yr.below hnx) zs9 bx (by rw[HC.out];omega) (by rw[HC.out];omega)).mono ?_
    rintro e w1 ⟨ds,c,rfl,hc,hdl,ld,zb9,heq,hB1,hg1⟩
    have hb1:Below w.heap.size w w1:=hnx.grown hg1 hsz (fun k hk=>by cases hk;exact Nat.le_refl _)
    have HD:Hid (ds.length=cs.length):=hdl
    have HS:Hid (∀j,j<k\/k+Y.length<=j->ds.getD j 0=cs.getD j 0):=zb9
    have HQ:Hid (Sv (fun j=>ds.getD (k+j) 0) Y.length+4294967296 ^ Y.length*c=Sv (fun j=>cs.getD (k+j) 0) Y.length+V Y*x):=heq
    have c2:=hB1.cell (k+Y.length) (by rw[HD.out,HC.out];omega)
    have c3:=hB1.frozen (k+Y.length)
    obtain⟨o,ho⟩:∃o,ds.getD (k+Y.length) 0=o:=⟨_,rfl⟩
    rw[ho]at c2;clear hdl zb9 heq ho c1;go_wp2
    go_roundw
    case rel =>
     exact⟨k+1,ds.set (k+Y.length) c,by omega,by go_num,by rw[List.length_set,HD.out];exact HC.out,ld.set _ hc,zss HX.out HD.out.symm (by rw[HD.out,HC.out];omega) HI.out HS.out HQ.out,hB1.set _ _ _ (by rw[HD.out,HC.out];omega) rfl,hb1.setCell (Nat.le_refl _) _⟩
    case measure=>simp[intOf];omega
  . obtain rfl:k=X.length:=by omega
    have hr:=hB.rd lc 0 (X.length+Y.length) (X.length+Y.length) (by rw[HC.out];omega) (Nat.le_refl _) (by unfold maxLen;omega)
    rw[List.drop_zero,List.take_of_length_le (by rw[HC.out];exact Nat.le_refl _)]at hr
    go_wp2_with fail
    refine(zk8 _ _ (X.length+Y.length) cs _ HC.out.symm hr (by rw[HC.out];omega)).mono ?_
    rintro e w2 ⟨a2,c2,rfl,hr2,hb2⟩;go_wp2
    go_ret
    refine⟨a2,c2,_,rfl,?_,zak _,hr2.mono hsz,hnx.trans (hb2.mono hsz)⟩
    have h1:=HI.out
    rw[List.take_length,HV.out.1,HV.out.2]at h1;rw[zaj,V_Sv,HC.out,h1]
theorem zp7(x:Int)(w:World)(h0:0<=x)(h1:x<=4294967295) :
 Calls Tryz.prog 162 #[.int .u32 x] w fun e w'=>e=.returned (.int .i64 (Lib.bitLen x.toNat))/\w=w':=by
 rcases (show 16777216<=x\/(65536<=x/\x<16777216)\/(256<=x/\x<65536)\/x<256 from by omega)with h|⟨h,h'⟩|⟨h,h'⟩|h
 . skip
   have q0:0<=x/65536/256:=by omega
   have q1:x/65536/256<=255:=by omega
   have e8:=Lib.len8_of (x/65536/256) q0 q1
   have hb:=Lib.bitLen_le8' (x/65536/256) q0 q1
   have s:=Lib.bitLen_shift24 x.toNat (by omega) (by omega)
   have et:(x/65536/256).toNat=x.toNat/16777216:=by omega
   rw[et]at e8 hb
   have HB:Hid (Lib.bitLen x.toNat=24+Lib.bitLen (x.toNat/16777216)):=s
   clear s
   generalize Lib.bitLen (x.toNat/16777216)=n at e8 hb HB
   clear et
   go_enter Tryz.func162,Tryz.ntmps162
   go_wp2
   go_ret
   exact⟨zas (by have:=HB.out;omega),rfl⟩
 . skip
   have q0:0<=x/65536:=by omega
   have q1:x/65536<=255:=by omega
   have e8:=Lib.len8_of (x/65536) q0 q1
   have hb:=Lib.bitLen_le8' (x/65536) q0 q1
   have s:=Lib.bitLen_shift16 x.toNat (by omega) (by omega)
   have et:(x/65536).toNat=x.toNat/65536:=by omega
   rw[et]at e8 hb
   have HB:Hid (Lib.bitLen x.toNat=16+Lib.bitLen (x.toNat/65536)):=s
   clear s
   generalize Lib.bitLen (x.toNat/65536)=n at e8 hb HB
   clear et
   go_enter Tryz.func162,Tryz.ntmps162
   go_wp2
   go_ret
   exact⟨zas (by have:=HB.out;omega),rfl⟩
 . skip
   have q0:0<=x/256:=by omega
   have q1:x/256<=255:=by omega
   have e8:=Lib.len8_of (x/256) q0 q1
   have hb:=Lib.bitLen_le8' (x/256) q0 q1
   have s:=Lib.bitLen_shift8 x.toNat (by omega) (by omega)
   have et:(x/256).toNat=x.toNat/256:=by omega
   rw[et]at e8 hb
   have HB:Hid (Lib.bitLen x.toNat=8+Lib.bitLen (x.toNat/256)):=s
   clear s
   generalize Lib.bitLen (x.toNat/256)=n at e8 hb HB
   clear et
   go_enter Tryz.func162,Tryz.ntmps162
   go_wp2
   go_ret
   exact⟨zas (by have:=HB.out;omega),rfl⟩
 . skip
   have q0:0<=x:=by omega
   have q1:x<=255:=by omega
   have e8:=Lib.len8_of (x) q0 q1
   have hb:=Lib.bitLen_le8' (x) q0 q1
   have et:(x).toNat=x.toNat:=by omega
   rw[et]at e8 hb
   have HB:Hid (Lib.bitLen x.toNat=0+Lib.bitLen (x.toNat)):=by show _=_;rw[Nat.zero_add]
   skip
   generalize Lib.bitLen (x.toNat)=n at e8 hb HB
   clear et
   go_enter Tryz.func162,Tryz.ntmps162
   go_wp2
   go_ret
   exact⟨zas (by have:=HB.out;omega),rfl⟩
theorem zsw(x:Nat)(w:World)(h1:x<4294967296) :
 Calls Tryz.prog 214 #[.int .u32 (x:Int)] w fun e w'=>e=.returned (.int .i64 (32-(Lib.bitLen x:Int)))/\w=w':=by
 have hl:=Lib.bitLen_le x 32 (by decide) h1
 go_enter Tryz.func214,Tryz.ntmps214
 go_wp2_with fail
 refine(zp7 (x:Int) _ (by omega) (by omega)).mono ?_
 rintro e w' ⟨rfl,rfl⟩
 rw[Int.toNat_natCast]
 obtain⟨n,hn⟩:∃n,Lib.bitLen x=n:=⟨_,rfl⟩
 have HN:Hid (Lib.bitLen x=n):=hn
 rw[hn]at hl ⊢;clear hn;go_wp2
 go_ret
 exact⟨zas (by rw[HN.out]),rfl⟩
theorem zej(n:Int):IntKind.u64.wrap n=n%18446744073709551616:=by simp[IntKind.wrap,IntKind.bits,IntKind.signed]
theorem zsi{x p cy s:Nat}(hp:x*2 ^ s=p)(hc:cy<2 ^ s)(hb:p+cy<18446744073709551616):bits BinOp.or IntKind.u64 (p:Int) (cy:Int)=(p:Int)+(cy:Int):=by
 have h:=u64_or_nat p cy (by omega) (by omega)
 have e:p ||| cy=p+cy:=by
  have:=Nat.shiftLeft_add_eq_or_of_lt hc x
  rw[Nat.shiftLeft_eq,hp]at this
  exact this.symm
 rw[h,e];simp
theorem zof{zs xs:List Nat}{k cy x p s:Nat}(hz:zs.length=k)(he:V zs+4294967296 ^ k*cy=V (xs.take k)*2 ^ s)(hx:xs.getD k 0=x)(hp:x*2 ^ s=p) :
 V (zs++[(p+cy)%4294967296])+4294967296 ^ (k+1)*((p+cy)/4294967296)=V (xs.take (k+1))*2 ^ s:=by
 rw[zd4,hz,zao,hx,Nat.pow_succ]
 have hd:=Nat.mod_add_div (p+cy) 4294967296
 generalize (p+cy)%4294967296=r at hd ⊢
 generalize (p+cy)/4294967296=d at hd ⊢
 subst hp
 generalize 4294967296 ^ k=q at he ⊢
 generalize V zs=o at he ⊢
 generalize V (xs.take k)=A at he ⊢
 generalize 2 ^ s=S at he hd ⊢
 have h1:q*(r+4294967296*d)=q*(x*S+cy):=by rw[hd]
 grind
theorem zla(a:Option Addr)(cap:Nat)(xs:List Nat)(s:Nat)(w:World)(h:Rd w a cap xs)(hl:xs.length<=500000000)(hs:s<32) :
 Calls Tryz.prog 215 #[.slice a xs.length cap,.int .i64 (s:Int)] w fun e w' =>
     ∃a' cap' zs,e=.returned (.slice a' zs.length cap')/\zs.length=xs.length+1/\V zs=V xs*2 ^ s/\Res 211 w.heap.size w' a' cap' zs/\Below w.heap.size w w':=by
 obtain⟨i0,hi,hz0,hz1,hz2⟩:=info_parts za3
 have fL:=h.fm
 have lL:=h.lim
 clear h
 go_enter Tryz.func215,Tryz.ntmps215
 go_wp2_with (at_make;refine wpList_make_own _ rfl _ _ 94 rfl w.heap.size 211 i0 (.int .u32 0) 1 Tryz.underlying94 hi hz0 hz1 _ _ _ (xs.length+1) rfl rfl (by omega) (by rw[hz2];omega) (by unfold maxLen;omega) (Nat.le_refl _) ?_)
 intro u0 zcm zbo
 have hb0:Below w.heap.size w u0:=(Below.refl _ _).grown zbo (Nat.le_refl _) (fun k h=>by cases h)
 go_wp2
 go_loopw [5,6,16] (fun out c i wr=>∃(k:Nat) (zs:List Nat) (cy:Nat),k<=xs.length/\i=.int .i64 k/\c=.int .u64 cy/\cy<2 ^ s/\zs.length=k/\Lim zs/\V zs+4294967296 ^ k*cy=V (xs.take k)*2 ^ s/\wr.ownsRow w.heap.size 211 1 out k (zs.map U)/\Below w.heap.size w wr) (fun _ _ i _=>xs.length-(intOf i).toNat)
 case atStart=>exact⟨0,[],0,Nat.zero_le _,rfl,rfl,Nat.pow_pos (by decide),rfl,Lim.nil,by simp[V],zcm,hb0⟩
 case round =>
  obtain⟨k,zs,cy,hk,rfl,rfl,hcy,hzl,lz,heq,hown,hnx⟩:=hrel
  have HE:Hid (V zs+4294967296 ^ k*cy=V (xs.take k)*2 ^ s):=heq
  have HZ:Hid (zs.length=k):=hzl
  have hsz:=hnx.size
  clear heq hzl
  by_cases hkn:k<xs.length
  . obtain⟨bl,ol,rfl,_,hcl⟩:=fL.at hnx k hkn
    obtain⟨x,hx⟩:∃x,xs.getD k 0=x:=⟨_,rfl⟩
    have bx:x<4294967296:=by rw[<-hx];exact lL.getD k
    rw[hx]at hcl
    have HX:Hid (xs.getD k 0=x):=hx
    clear hx
    obtain⟨p,hp⟩:∃p,x*2 ^ s=p:=⟨_,rfl⟩
    have hP1:2 ^ s<=2 ^ 31:=Nat.pow_le_pow_right (by decide) (by omega)
    have bp0:p<=4294967295*2 ^ s:=by rw[<-hp];exact Nat.mul_le_mul_right _ (by omega)
    have bp:p<=9223372034707292160:=by omega
    have hpi:(x:Int)*2 ^ s=(p:Int):=by rw[<-hp];simp
    have hw1:IntKind.u64.wrap (p:Int)=(p:Int):=by rw[zej];omega
    have hor:bits BinOp.or IntKind.u64 (p:Int) (cy:Int)=(p:Int)+(cy:Int):=zsi hp hcy (by omega)
    have zy0:(p+cy)/4294967296<2 ^ s:=Nat.div_lt_of_lt_mul (by omega)
    have HP:Hid (x*2 ^ s=p):=hp
    have bcy:cy<2147483648:=by omega
    have HCY:Hid ((p+cy)/4294967296<2 ^ s):=zy0
    clear hp hP1 bp0 hcy zy0
    go_wp2_with (at_builtin;refine zae rfl _ _ 94 rfl w.heap.size 211 i0 Tryz.underlying94 hi hz0 hz1 hz2 _ k zs rfl (hown.alloc _) wr.heap.size ((p+cy)%4294967296) rfl (zan _ _ _ _ (by omega)) (by omega) (by simp;omega) ?_)
    intro v' w1 hown1 zaq
    have hb1:Below w.heap.size w w1:=(hnx.alloc hsz _).grown zaq (by simp;omega) (fun k hk=>(hown.lt k hk).1)
    clear hown;go_wp2
    go_roundw
    case rel =>
     refine⟨k+1,zs++[(p+cy)%4294967296],(p+cy)/4294967296,by omega,by go_num,by go_num,HCY.out,by simp[HZ.out],lz.snoc (by omega),?_,zat hown1,hb1⟩
     exact zof HZ.out HE.out HX.out HP.out
    case measure=>simp[intOf];omega
  . obtain rfl:k=xs.length:=by omega
    have hP1:2 ^ s<=2 ^ 31:=Nat.pow_le_pow_right (by decide) (by omega)
    have bcy:cy<4294967296:=by omega
    clear hcy hP1
    go_wp2_with (at_builtin;refine zae rfl _ _ 94 rfl w.heap.size 211 i0 Tryz.underlying94 hi hz0 hz1 hz2 _ _ zs rfl (hown.alloc _) wr.heap.size cy rfl (zan _ _ _ _ (by omega)) (by omega) (by simp;omega) ?_)
    intro v' w1 hown1 zaq
    have hb1:Below w.heap.size w w1:=(hnx.alloc hsz _).grown zaq (by simp;omega) (fun k hk=>(hown.lt k hk).1)
    obtain⟨a',cap',rfl,hres⟩:=Res.of (lz.snoc bcy) (zat hown1)
    clear hown1 hown;go_wp2
    go_ret
    refine⟨a',cap',zs++[cy],by simp,by simp[HZ.out],?_,hres,hb1⟩
    have h1:=HE.out
    rw[List.take_length]at h1;rw[zd4,HZ.out,h1]
theorem zkt:∀(k x:Nat),x<2 ^ k->k<=64->x≠0->1<=Lib.bitLen x/\2 ^ (Lib.bitLen x-1)<=x/\x<2 ^ Lib.bitLen x:=by
 intro k
 induction k with
 | zero=>intro x h _ h0;simp at h;omega
 | succ k ih =>
  intro x h hk h0
  have hx64:x<2 ^ 64:=Nat.lt_of_lt_of_le h (Nat.pow_le_pow_right (by decide) hk)
  have hh:=Lib.bitLen_half x h0 hx64
  by_cases h1:x=1
  . subst h1
    have e:Lib.bitLen 1=1:=by decide
    rw[e];decide
  . obtain⟨i1,i2,i3⟩:=ih (x/2) (by rw[Nat.pow_succ]at h;omega) (by omega) (by omega)
    rw[hh]
    refine⟨by omega,?_,?_⟩
    . rw[show 1+Lib.bitLen (x/2)-1=(Lib.bitLen (x/2)-1)+1 by omega,Nat.pow_succ];omega
    . rw[Nat.add_comm,Nat.pow_succ];omega
theorem zv5{x:Nat}(h0:x≠0)(h:x<4294967296):∃s:Nat,s<32/\(32-(Lib.bitLen x:Int))=(s:Int)/\2147483648<=x*2 ^ s/\x*2 ^ s<4294967296:=by
 obtain⟨h1,h2,h3⟩:=zkt 32 x h (by decide) h0
 have hl:=Lib.bitLen_le x 32 (by decide) h
 generalize Lib.bitLen x=n at *
 refine⟨32-n,by omega,by omega,?_,?_⟩
 . have:2 ^ (n-1)*2 ^ (32-n)<=x*2 ^ (32-n):=Nat.mul_le_mul_right _ h2
   rw[<-Nat.pow_add,show n-1+(32-n)=31 by omega]at this
   exact this
 . have:x*2 ^ (32-n)<2 ^ n*2 ^ (32-n):=Nat.mul_lt_mul_of_pos_right h3 (Nat.pow_pos (by decide))
   rw[<-Nat.pow_add,show n+(32-n)=32 by omega]at this
   exact this
theorem zog{T ab x S:Nat}(s:Nat)(hs:s<32)(hS:S=2 ^ s)(hab:ab%S=T%S)(hx:x<4294967296) :
 (x+4294967296*T)/S=(ab*4294967296+x)/S%4294967296+4294967296*(T/S):=by
 have hp:0<S:=by rw[hS];exact Nat.pow_pos (by decide)
 have hT:=Nat.div_add_mod T S
 have hA:=Nat.div_add_mod ab S
 have hr:=Nat.mod_lt T hp
 rw[hab]at hA
 generalize T/S=q at hT ⊢
 generalize ab/S=qa at hA
 generalize T%S=r at hT hA hr
 have e1:x+4294967296*T=(x+r*4294967296)+S*(4294967296*q):=by rw[<-hT];grind
 have e2:ab*4294967296+x=(x+r*4294967296)+S*(qa*4294967296):=by rw[<-hA];grind
 rw[e1,e2,Nat.add_mul_div_left _ _ hp,Nat.add_mul_div_left _ _ hp,Nat.add_mul_mod_self_right]
 have hlt:(x+r*4294967296)/S<4294967296:=by
  refine Nat.div_lt_of_lt_mul ?_
  have h1:(r+1)*4294967296<=S*4294967296:=Nat.mul_le_mul_right _ (by omega)
  omega
 rw[Nat.mod_eq_of_lt hlt]
theorem V_mod{xs:List Nat}{s S:Nat}(hs:s<32)(hS:S=2 ^ s):V xs%S=xs.getD 0 0%S:=by
 rw[zbb]
 have e:(4294967296:Nat)=S*2 ^ (32-s):=by
  rw[hS,<-Nat.pow_add,show s+(32-s)=32 by omega]
 rw[e,Nat.mul_assoc,Nat.add_mul_mod_self_left]
theorem zr7(a:Option Addr)(cap:Nat)(xs:List Nat)(s:Nat)(w:World)(h:Rd w a cap xs)(hl:xs.length<=500000000)(hs:s<32) :
 Calls Tryz.prog 217 #[.slice a xs.length cap,.int .i64 (s:Int)] w fun e w' =>
     ∃g zs,e=.returned (.slice (some ⟨g,0,none⟩) xs.length xs.length)/\zs.length=xs.length/\V zs=V xs/2 ^ s/\Rd w' (some ⟨g,0,none⟩) xs.length zs/\Below w.heap.size w w':=by
 obtain⟨i0,hi,hz0,hz1,hz2⟩:=info_parts za3
 have fL:=h.fm
 have lL:=h.lim
 clear h
 obtain⟨S,hS⟩:∃S,S=2 ^ s:=⟨_,rfl⟩
 have HSS:Hid (S=2 ^ s):=hS
 clear hS
 go_enter Tryz.func217,Tryz.ntmps217
 go_wp2_with (at_make;refine wpList_make_full _ rfl _ _ 94 rfl w.heap.size 211 i0 (.int .u32 0) 1 Tryz.underlying94 hi hz0 hz1 _ _ _ _ xs.length rfl rfl (by omega) (by omega) (by rw[hz2];omega) (by unfold maxLen;omega) (Nat.le_refl _) ?_)
 intro u0 zcm zbo
 have hb0:Below w.heap.size w u0:=(Below.refl _ _).grown zbo (Nat.le_refl _) (fun k h=>by cases h)
 have hB0:=ze5 zcm
 clear zcm zbo;go_wp2
 go_loopw [6,7] (fun v i wr=>∃(k:Nat) (q:Int) (cs:List Nat) (ab:Nat),k<=xs.length/\q=(k:Int)-1/\i=.int .i64 q/\v=.int .u64 ab/\ab<4294967296/\ab%S=V (xs.drop k)%S/\cs.length=xs.length/\Lim cs/\V (cs.drop k)=V (xs.drop k)/S/\Blk 211 wr w.heap.size cs/\Below w.heap.size w wr) (fun _ i _=>(intOf i+1).toNat)
 case atStart=>exact⟨xs.length,_,_,0,Nat.le_refl _,rfl,rfl,rfl,by decide,by simp[V],List.length_replicate,fun x hx=>by rw[List.eq_of_mem_replicate hx];decide,by simp[V],hB0,hb0⟩
 case round =>
  obtain⟨k,q,cs,ab,hk,hq,rfl,rfl,hab,habm,hcl,lc,heq,hB,hnx⟩:=hrel
  have HE:Hid (V (cs.drop k)=V (xs.drop k)/S):=heq
  have HC:Hid (cs.length=xs.length):=hcl
  have HA:Hid (ab%S=V (xs.drop k)%S):=habm
  have hsz:=hnx.size
  clear heq hcl habm
  by_cases hk0:k=0
  . subst hk0
    obtain rfl:q=-1:=by omega
    clear hq;go_wp2
    go_ret
    refine⟨w.heap.size,cs,rfl,HC.out,?_,?_,hnx⟩
    . rw[<-HSS.out];simpa using HE.out
    . have hr:=hB.rd lc 0 xs.length xs.length (by rw[HC.out];omega) (Nat.le_refl _) (by unfold maxLen;omega)
      rw[List.drop_zero,List.take_of_length_le (by rw[HC.out];exact Nat.le_refl _)]at hr
      exact hr
  . obtain⟨j,rfl⟩:∃j,k=j+1:=⟨k-1,by omega⟩
    obtain rfl:q=(j:Int):=by omega
    clear hq
    obtain⟨bl,ol,rfl,hblt,hcx⟩:=fL.at hnx j (by omega)
    obtain⟨x,hx⟩:∃x,xs.getD j 0=x:=⟨_,rfl⟩
    rw[hx]at hcx
    have bx:x<4294967296:=by rw[<-hx];exact lL.getD _
    have HX:Hid (xs.getD j 0=x):=hx
    have c2:=hB.cell j (by rw[HC.out];omega)
    have c3:=hB.frozen j
    obtain⟨o,ho⟩:∃o,cs.getD j 0=o:=⟨_,rfl⟩
    rw[ho]at c2
    have hor:=zlp ab x hab bx
    obtain⟨p,hp⟩:∃p,ab*4294967296+x=p:=⟨_,rfl⟩
    have hpi:(ab:Int)*4294967296+(x:Int)=(p:Int):=by omega
    have HP:Hid (ab*4294967296+x=p):=hp
    have bp:p<18446744073709551616:=by omega
    obtain⟨t,ht⟩:∃t,p/2 ^ s=t:=⟨_,rfl⟩
    have hti:(p:Int)/2 ^ s=(t:Int):=by rw[<-ht];simp
    have bt:t<18446744073709551616:=by rw[<-ht];exact Nat.lt_of_le_of_lt (Nat.div_le_self _ _) bp
    have HT:Hid (p/S=t):=by show _=_;rw[HSS.out];exact ht
    have hne:bl≠w.heap.size:=by omega
    clear hx ho hp ht;go_wp2
    go_roundw
    case rel =>
     refine⟨j,_,cs.set j (t%4294967296),x,by omega,rfl,by go_num,rfl,bx,?_,by rw[List.length_set];exact HC.out,lc.set _ (by omega),?_,hB.set _ _ _ (by rw[HC.out];omega) (by omega),hnx.setCell (Nat.le_refl _) _⟩
     . rw[V_mod hs HSS.out,<-HX.out];simp[List.getD]
     . rw[zey,zey xs j,za6 _ _ _ (by rw[HC.out];omega),List.drop_set_of_lt (by omega),HE.out,HX.out,zog s hs HSS.out HA.out bx,HP.out,HT.out]
    case measure=>simp[intOf]
def zff(v:Nat):Nat:=if v<18446744073709551616 then v else 0
theorem zar{v:Nat}(h:v<18446744073709551616):zff v=v:=by unfold zff;rw[if_pos h]
theorem zbe{v:Nat}(h:¬v<18446744073709551616):zff v=0:=by unfold zff;rw[if_neg h]
def zde(v:Nat):Bool:=decide (v<18446744073709551616)
theorem zap{v:Nat}(h:v<18446744073709551616):zde v=true:=by simp[zde,h]
theorem za8{v:Nat}(h:¬v<18446744073709551616):zde v=false:=by simp[zde,h]
theorem zvt(x:Nat)(hx:x<4294967296):bits BinOp.or IntKind.u64 0 (x:Int)=(x:Int):=by
 have h:=u64_or_nat 0 x (by decide) (by omega)
 simpa using h
theorem zvu(n x:Nat)(hn:n<4294967296)(hx:x<4294967296):bits BinOp.or IntKind.u64 (n:Int) ((x:Int)*4294967296)=(n:Int)+(x:Int)*4294967296:=by
 have h:=u64_or_nat n (x*4294967296) (by omega) (by omega)
 have e:n ||| x*4294967296=n+x*4294967296:=by
  have:=Nat.shiftLeft_add_eq_or_of_lt (show n<2 ^ 32 by omega) x
  rw[Nat.shiftLeft_eq]at this;rw[Nat.or_comm,Nat.add_comm]
  exact this.symm
 rw[e]at h
 have c1:((x*4294967296:Nat):Int)=(x:Int)*4294967296:=by simp
 rw[c1]at h
 rw[h];simp
theorem zhz{X:List Nat}(l:Lim X)(h:X.length<=2):V X<18446744073709551616:=by
 have h1:=V_lt l
 have h2:4294967296 ^ X.length<=4294967296 ^ 2:=Nat.pow_le_pow_right (by decide) h
 omega
theorem zgs{X:List Nat}(t:Tr X)(h:2<X.length):¬V X<18446744073709551616:=by
 intro hv
 have:=zah t (k:=2) hv
 omega
theorem zct(a:Option Addr)(cap:Nat)(xs:List Nat)(w:World)(h:Rd w a cap xs) :
 Calls Tryz.prog 142 #[.slice a xs.length cap] w fun e w'=>e=.returned (.tuple #[.int .u64 (zff (V xs):Nat),.bool (zde (V xs))])/\w=w':=by
 have Xr:=h.strip
 have tX:=zak xs
 go_enter Tryz.func142,Tryz.ntmps142
 go_wp2_with fail
 refine(zby a cap xs _ h).mono ?_
 rintro e w' ⟨rfl,rfl⟩
 clear h
 have HV:Hid (V (strip xs)=V xs):=zaj xs
 generalize strip xs=X at Xr tX HV ⊢
 have k1:=Xr.le
 have k2:=Xr.cap
 unfold maxLen at k2
 have fX:=Xr.fm
 have lX:=Xr.lim
 clear Xr
 by_cases hl:2<X.length
 . have HG:Hid (¬V xs<18446744073709551616):=by show ¬_;rw[<-HV.out];exact zgs tX hl
   go_wp2
   go_ret2
   exact⟨by rw[zbe HG.out,za8 HG.out];rfl,rfl⟩
 . have HG:Hid (V xs<18446744073709551616):=by show _<_;rw[<-HV.out];exact zhz lX (by omega)
   go_wp2
   go_loop [4,14] (fun n i=>∃(k m:Nat),k<=X.length/\i=.int .i64 k/\n=.int .u64 m/\m=V (X.take k)) (fun _ i=>X.length-(intOf i).toNat)
   case atStart=>exact⟨0,0,Nat.zero_le _,rfl,rfl,by simp[V]⟩
   case round =>
    obtain⟨k,m,hk,rfl,rfl,hm⟩:=hrel
    have HM:Hid (m=V (X.take k)):=hm
    clear hm
    by_cases hkn:k<X.length
    . obtain⟨bl,ol,rfl,_,hcx⟩:=fX.at (Below.refl _ _) k hkn
      obtain⟨x,hx⟩:∃x,X.getD k 0=x:=⟨_,rfl⟩
      have bx:x<4294967296:=by rw[<-hx];exact lX.getD k
      rw[hx]at hcx
      have HX:Hid (X.getD k 0=x):=hx
      clear hx
      have HS:=zao X k
      rcases (show k=0\/k=1 by omega)with hk0|hk1
      . subst hk0
        rw[Nat.add_zero]at hcx
        obtain rfl:m=0:=by rw[HM.out];simp[V]
        have ho:=zvt x bx
        have HS2:Hid (x=V (X.take 1)):=by show _=_;rw[HS,HX.out];simp[V]
        clear HS;go_wp2
        go_round
        case rel=>exact⟨1,x,by omega,by go_num,by go_num,HS2.out⟩
        case measure=>simp[intOf];omega
      . subst hk1
        have hmb:m<4294967296:=by
         rw[HM.out,zcj,Sv,Sv];simp only[Nat.pow_zero,Nat.one_mul,Nat.zero_add];exact lX.getD 0
        have ho:=zvu m x hmb bx
        have HS2:Hid (m+x*4294967296=V (X.take 2)):=by show _=_;rw[HS,HX.out,<-HM.out];omega
        clear HS;go_wp2
        go_round
        case rel=>exact⟨2,m+x*4294967296,by omega,by go_num,by go_num,HS2.out⟩
        case measure=>simp[intOf];omega
    . obtain rfl:k=X.length:=by omega
      go_wp2
      go_ret2
      refine⟨?_,rfl⟩
      rw[zar HG.out,zap HG.out,<-HV.out]
      have:=HM.out
      rw[List.take_length]at this;rw[<-this]
      rfl
theorem zqj{q t W U P VL VB:Nat}(hP:0<P)(hq:q*VB<=VL)(hB:W*P<=VB)(hL:VL<(U+1)*P)(ht:U<t*W):q<t:=by
 rcases Nat.lt_or_ge q t with h|h
 . exact h
 . exfalso
   have h1:t*(W*P)<=q*VB:=Nat.mul_le_mul h hB
   have h2:(U+1)*P<=t*W*P:=Nat.mul_le_mul_right P ht
   have h3:t*(W*P)=t*W*P:=(Nat.mul_assoc _ _ _).symm
   omega
theorem znm{q t W U P VL VB:Nat}(hP:0<P)(hq:VL<(q+1)*VB)(hB:VB<(W+1)*P)(hL:U*P<=VL)(ht:t*W<=U)(hW:q+1<=W):t<=q+1:=by
 rcases Nat.lt_or_ge (q+1) t with h|h
 . exfalso
   have h1:(q+2)*W<=t*W:=Nat.mul_le_mul_right W h
   have h2:(q+2)*W*P<=U*P:=Nat.mul_le_mul_right P (Nat.le_trans h1 ht)
   have h3:(q+1)*VB<=(q+1)*((W+1)*P):=Nat.mul_le_mul_left _ (Nat.le_of_lt hB)
   have h4:(q+1)*((W+1)*P)<=(q+2)*W*P:=by
    have:(q+1)*(W+1)<=(q+2)*W:=by
     have e1:(q+1)*(W+1)=(q+1)*W+(q+1):=by rw[Nat.mul_add,Nat.mul_one]
     have e2:(q+2)*W=(q+1)*W+W:=by rw[show q+2=(q+1)+1 by omega,Nat.add_mul (q+1) 1 W,Nat.one_mul]
     omega
    rw[<-Nat.mul_assoc]
    exact Nat.mul_le_mul_right P this
   omega
 . exact h
theorem zxb(f:Nat->Nat)(m:Nat):Sv f (m+3)=Sv f m+4294967296 ^ m*(f m+4294967296*f (m+1)+18446744073709551616*f (m+2)):=by
 simp only[Sv,Nat.pow_succ]
 generalize 4294967296 ^ m=p
 grind
theorem zxc(f:Nat->Nat)(m:Nat):Sv f (m+2)=Sv f m+4294967296 ^ m*(f m+4294967296*f (m+1)):=by
 simp only[Sv,Nat.pow_succ]
 generalize 4294967296 ^ m=p
 grind
