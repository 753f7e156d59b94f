import Derived.Test.YtgbhidcokobmmaaGreatDoorZL2
import Derived.Lib.AppendZerosOnto
import Derived.Deep.CutRange
import Derived.Lib.SliceRun
import Derived.Test.YtgbhidcokobmmaaGreatDoorChecked
import Derived.Deep.RegionHeld3
set_option maxHeartbeats 4000000
set_option maxRecDepth 100000
set_option linter.unusedSimpArgs false
set_option linter.unusedVariables false
namespace Go.Proofs.YtgbhidcokobmmaaGreatDoor
open Go.RowKit Go.Maps
def Bk(t:TypeId)(w:World)(g:Nat)(cs:List Value):Prop:=w.heap[g]?=some (.cells cs.toArray t (0,0))
theorem Bk.lt{t:TypeId}{w:World}{g:Nat}{cs:List Value}(h:Bk t w g cs):g<w.heap.size:=(Array.getElem?_eq_some_iff.1 h).1
theorem Bk.below{t:TypeId}{w w':World}{g:Nat}{cs:List Value}(h:Bk t w g cs)(hb:Below w.heap.size w w'):Bk t w' g cs:=(hb.block g h.lt).trans h
theorem Bk.new(t:TypeId)(w:World)(cs:List Value):Bk t (w.alloc (.cells cs.toArray t)) w.heap.size cs:=heap_alloc_new w _
theorem Bk.new1(t:TypeId)(w:World)(o:Obj)(cs:List Value):Bk t ((w.alloc o).alloc (.cells cs.toArray t)) (w.heap.size+1) cs:=by
 have h:=Bk.new t (w.alloc o) cs
 simpa using h
theorem Bk.cell{t:TypeId}{w:World}{g:Nat}{cs:List Value}(h:Bk t w g cs)(j:Nat)(hj:j<cs.length):w.cell? ⟨g,j,none⟩=cs[j]?:=by
 rw[cell_of_row w g j _ _ (0,0) h]
 simp
theorem Bk.fz{t:TypeId}{w:World}{g:Nat}{cs:List Value}(h:Bk t w g cs)(j:Nat):w.frozen? ⟨g,j,none⟩=false:=frozen_of_row w g j _ _ h
theorem Bk.two{t:TypeId}{w:World}{g:Nat}{x y:Value}(h:Bk t w g [x,y]):w.cell? ⟨g,0,none⟩=some x/\w.cell? ⟨g,1,none⟩=some y/\w.frozen? ⟨g,0,none⟩=false/\w.frozen? ⟨g,1,none⟩=false :=
 ⟨h.cell 0 (by simp),h.cell 1 (by simp),h.fz 0,h.fz 1⟩
theorem Bk.three{t:TypeId}{w:World}{g:Nat}{x y z:Value}(h:Bk t w g [x,y,z]):w.cell? ⟨g,0,none⟩=some x/\w.cell? ⟨g,1,none⟩=some y/\w.cell? ⟨g,2,none⟩=some z/\w.frozen? ⟨g,0,none⟩=false/\w.frozen? ⟨g,1,none⟩=false/\w.frozen? ⟨g,2,none⟩=false :=
 ⟨h.cell 0 (by simp),h.cell 1 (by simp),h.cell 2 (by simp),h.fz 0,h.fz 1,h.fz 2⟩
theorem Bk.four{t:TypeId}{w:World}{g:Nat}{x y z u:Value}(h:Bk t w g [x,y,z,u]):w.cell? ⟨g,0,none⟩=some x/\w.cell? ⟨g,1,none⟩=some y/\w.cell? ⟨g,2,none⟩=some z/\w.cell? ⟨g,3,none⟩=some u/\w.frozen? ⟨g,0,none⟩=false/\w.frozen? ⟨g,1,none⟩=false/\w.frozen? ⟨g,2,none⟩=false/\w.frozen? ⟨g,3,none⟩=false :=
 ⟨h.cell 0 (by simp),h.cell 1 (by simp),h.cell 2 (by simp),h.cell 3 (by simp),h.fz 0,h.fz 1,h.fz 2,h.fz 3⟩
theorem Bk.set{t:TypeId}{w:World}{g:Nat}{cs:List Value}(h:Bk t w g cs)(j:Nat)(z:Value):Bk t (w.setCell ⟨g,j,none⟩ z) g (cs.set j z):=by
 have:=heap_setCell_same w g j _ _ z h
 unfold Bk
 rw[this]
 simp
theorem Bk.other{t:TypeId}{w:World}{g b:Nat}{cs:List Value}(h:Bk t w g cs)(j:Nat)(z:Value)(hb:g≠b):Bk t (w.setCell ⟨b,j,none⟩ z) g cs:=(Below.heap_setCell _ _ _ _ (fun e=>hb e)).trans h
def Gi(base:Nat)(w:World)(v:Value)(l:List Int):Prop:=Gw El.int 3 base (fun _=>False) w v l
theorem Gi.nil(base:Nat)(w:World):Gi base w (.slice none 0 0) []:=Gw.nil _ _ _ _ _
theorem Gi.lo{base:Nat}{w:World}{v:Value}{l:List Int}(h:Gi base w v l){g:Nat}(hg:v.ownBlock=some g):base<=g/\g<w.heap.size:=Gw.lo h hg
theorem Gr.ri{S:Nat->Prop}{w:World}{a:Option Addr}{cap:Nat}{l:List Int}(h:Gr El.int S w a cap l):Ri w a cap l:=by
 have hz:∀i,i<l.length->I64 (l.getD i 0):=fun i hi=>by
  obtain⟨b,off,vs,e,hb,hr,hc⟩:=h.2.2.2 i hi
  exact hr.2
 refine⟨fun z hz1=>?_,h.1,h.2.1,?_⟩
 . obtain⟨i,hi,e⟩:=List.getElem_of_mem hz1
   have:=hz i hi
   rw[List.getD_eq_getElem?_getD,List.getElem?_eq_getElem hi,Option.getD_some,e]at this
   exact this
 . by_cases h0:l=[]
   . exact .inl h0
   . obtain⟨b,off,e,hb⟩:=h.blk h0
     refine .inr ⟨b,off,e,hb,fun i hi=>?_⟩
     obtain⟨b',off',vs,e',hb',hr,hc⟩:=h.2.2.2 i hi
     rw[e]at e'
     cases e'
     have:=hc 0 Nat.one_pos
     rw[hr.1,show i*El.int.sz=i from Nat.mul_one i]at this
     exact this
theorem Gi.slice{base:Nat}{w:World}{v:Value}{l:List Int}(h:Gi base w v l):∃a cap,v=.slice a l.length cap/\Ri w a cap l/\∀b o,a=some ⟨b,o,none⟩->base<=b/\b<w.heap.size:=by
 obtain⟨a,cap,e,hg,hb⟩:=Gw.slice h
 exact⟨a,cap,e,hg.ri,hb⟩
theorem Gi.stay{base:Nat}{w w':World}{v:Value}{l:List Int}(h:Gi base w v l)(hs:w.heap.size<=w'.heap.size)(ho:∀k,v.ownBlock=some k->w'.heap[k]?=w.heap[k]?):Gi base w' v l :=
 Gw.stay h hs (fun k hk=>hk.elim) ho
theorem Gi.below{base:Nat}{w w':World}{v:Value}{l:List Int}(h:Gi base w v l)(hb:Below w.heap.size w w'):Gi base w' v l:=Gw.below h hb
theorem Gi.grown{base:Nat}{w w':World}{v:Value}{l:List Int}{r:Option Nat}(h:Gi base w v l)(hg:w.grownBy w' r)(hr:∀k,v.ownBlock=some k->r≠some k):Gi base w' v l :=
 h.stay hg.size (fun k hk=>hg.block k (h.lo hk).2 (fun e=>hr k hk e.symm))
theorem Gi.ne{base:Nat}{w:World}{v:Value}{l:List Int}{t:TypeId}{g:Nat}{cs:List Value}(h:Gi base w v l)(hb:Bk t w g cs)(ht:t≠3):v.ownBlock≠some g:=by
 intro e
 obtain⟨cur,k⟩:=Gw.ty h e
 rw[hb]at k
 simp at k
 exact ht k.2
theorem Gi.set{base:Nat}{w:World}{v:Value}{l:List Int}{t:TypeId}{g:Nat}{cs:List Value}(h:Gi base w v l)(hb:Bk t w g cs)(ht:t≠3)(j:Nat)(z:Value):Gi base (w.setCell ⟨g,j,none⟩ z) v l :=
 h.stay (by simp[World.setCell]) (fun k hk=>Below.heap_setCell _ _ _ _ (fun e=>h.ne hb ht (by rw[hk,e])))
theorem za7{w:World}{ops:Array Oper}{rest:List Oper}{o:Oper}{a:Act}{Q:Exit->Act->World->Prop}
    (hgd:o.guard=none) (s x:Operand) (ho:o.op=.call { callee:=.builtin .append,args:=#[s,x],argTypes:=#[37,37] })
    (base:Nat) (v:Value) (l:List Int) (hs:a.eval s=v) (hown:Gi base w v l) (g:Nat) (z:Int) (hx:a.eval x=.slice (some ⟨g,0,none⟩) 1 1)
    (hg:g<w.heap.size) (c0:w.cell? ⟨g,0,none⟩=some (.int .i64 z)) (hz:I64 z) (hlen:l.length+1<=1000000) (hbase:base<=w.heap.size)
    (h:∀v' w',Gi base w' v' (l++[z])->w.grownBy w' v.ownBlock->(v'.ownBlock=v.ownBlock\/v'.ownBlock=some w.heap.size)->wpList Tryz.prog ops Q rest (a.put o.dst v') w'):wpList Tryz.prog ops Q (o::rest) a w:=by
 refine zab 37 3 Tryz.underlying37 zfq rfl Nat.one_pos (by decide) hgd s x ho base (fun _=>False) v l hs hown (some ⟨g,0,none⟩) 1 1 [z] rfl hx ?_ hlen hbase (fun v' w' k1 k2 k3=>h v' w' k1 k2 k3)
 refine Gr.one (vs:=[.int .i64 z]) ⟨rfl,hz⟩ hg (fun j hj=>?_)
 obtain rfl:j=0:=by simp[El.int,El.num]at hj;exact hj
 exact c0
theorem Gr.anyI{S S':Nat->Prop}{w:World}{a:Option Addr}{cap:Nat}{l:List Int}(h:Gr El.int S w a cap l):Gr El.int S' w a cap l:=by
 refine⟨h.1,h.2.1,h.2.2.1,fun i hi=>?_⟩
 obtain⟨b,off,vs,e,hb,hr,hc⟩:=h.2.2.2 i hi
 exact⟨b,off,vs,e,hb,El.int_rep.2 (El.int_rep.1 hr),hc⟩
theorem Gr.cutI{S:Nat->Prop}{w:World}{a:Option Addr}{cap:Nat}{l:List Int}(h:Gr El.int S w a cap l)(n:Nat)(hn:n<=l.length):Gr El.int S w (if cap=n then a else a.map (fun x=>x.add n)) (cap-n) (l.drop n):=by
 by_cases h0:n<l.length
 . obtain⟨b,off,e,hb⟩:=h.blk (fun e=>by rw[e]at h0;simp at h0)
   subst e
   have:=h.1
   rw[if_neg (by omega)]
   have zdx:(⟨b,off,none⟩:Addr).add n=⟨b,off+n*El.int.sz,none⟩:=by
    show _=(⟨b,off+n*1,none⟩:Addr)
    rw[Nat.mul_one]
    unfold Addr.add
    split <;> simp_all
   show Gr El.int S w (some ((⟨b,off,none⟩:Addr).add n)) _ _
   rw[zdx]
   exact h.from n hn
 . have e:l.drop n=[]:=List.drop_eq_nil_of_le (by omega)
   rw[e]
   refine Gr.nil _ _ _ _ _ (Nat.le_trans (Nat.sub_le _ _) h.2.1) (fun e2=>?_)
   by_cases hc:cap=n
   . omega
   . rw[if_neg hc]at e2
     have:=h.2.2.1 (by cases a with | none=>rfl | some x=>cases e2)
     omega
structure PutA(L:List Int)(f t:Int)(o:List Int)(base:Nat)(w':World)(e:Ending):Prop where
 out:∃v,e=.returned v/\Gi base w' v (puL L f t o)
theorem zbg:(Tryz.prog.info? 3).map (fun i=>(i.zero,i.size,i.bytes))=some (some (.int .i64 0),El.int.sz,8):=by kernel_rfl
theorem Gr.rwI{S:Nat->Prop}{w wr:World}{a:Option Addr}{cap:Nat}{m:List (List Int)}(h:Gr El.int.row S w a cap m)(hb:Below w.heap.size w wr)(k:Nat)(hk:k<m.length) :
 ∃b off a' cap',a=some ⟨b,off,none⟩/\b<w.heap.size/\wr.cell? ⟨b,off+k,none⟩=some (.slice a' (m.getD k []).length cap')/\Gr El.int S wr a' cap' (m.getD k [])/\(m.getD k []).length<=140737488351232:=by
 obtain⟨b,off,vs,e,hl,⟨a',cap',hv,hS,hr,hlb⟩,hc⟩:=h.at hb k hk
 have:=hc 0 Nat.one_pos
 rw[hv,show k*El.int.row.sz=k from Nat.mul_one k]at this
 exact⟨b,off,a',cap',e,hl,this,hr,hlb⟩
theorem zga{m:List (List Int)}{k:Nat}(hk:k<m.length):m.take (k+1)=m.take k++[m.getD k []]:=by
 rw[List.take_add_one,List.getElem?_eq_getElem hk]
 simp[List.getD,hk]
theorem zgl{cs:List (List Int)}{k:Nat}(hk:k<cs.length):((cs.take (k+1)).flatten).length=((cs.take k).flatten).length+(cs.getD k []).length:=by
 rw[zga hk,List.flatten_append,List.length_append,List.flatten_singleton]
theorem zl6(cs:List (List Int))(k:Nat):((cs.take k).flatten).length<=cs.flatten.length:=by
 conv=>rhs;rw[<-List.take_append_drop k cs,List.flatten_append,List.length_append]
 omega
theorem znq{cs:List (List Int)}{k:Nat}{c:List Int}(hk:k<cs.length)(hc:cs.getD k []=c):(cs.take (k+1)).flatten=(cs.take k).flatten++c:=by
 rw[zga hk,List.flatten_append,List.flatten_singleton,hc]
theorem zml(z:Array Value)(n:Nat):(Builtin.zeroCells z n).size=n*z.size:=by simp[Builtin.zeroCells]
theorem znu(n:Nat)(w:World)(hn:n<=1000000) :
 Calls Tryz.prog 201 #[.slice none 0 0,.int .i64 (n:Int)] w fun e w'=>∃v,e=.returned v/\Gi w.heap.size w' v []/\Below w.heap.size w w':=by
 by_cases h0:n=0
 . subst h0
   go_enter Tryz.func201,Tryz.ntmps201
   go_wp2
   go_ret
   exact⟨_,rfl,Gi.nil _ _,Below.refl _ _⟩
 have h1:¬((n:Int)<0):=by omega
 have h2:(0:Int)<(n:Int):=by omega
 obtain⟨i0,hi,hz0,hz1,hz2⟩:=info_parts zfq
 have hold:=run_firstCells_none (P:=Tryz.prog) w.drew i0.size 0 0 0
 have hrz:∀ty,(Builtin.append_ #[37,3] ty #[.slice none 0 0,.int .i64 (n:Int)]).run Tryz.prog w=_:=fun ty=>Lib.run_append_grow_zeros w 37 3 ty 3 i0 _ .i64 .i64 Tryz.underlying37 Tryz.underlying3 hi hz0 none 0 0 [] hold n (by omega) (by omega) (by omega) (by omega) (by rw[hz2];omega) (growslice_fits (by omega) (by rw[hz2];omega))
 simp only[Nat.zero_add]at hrz
 have hGn:n<=grownCap w n 0 3:=grownCap_ge w _ _ _
 obtain⟨G,hG⟩:∃G,G=grownCap w n 0 3:=⟨_,rfl⟩
 rw[<-hG]at hrz hGn
 have hG63:G<=9223372036854775807:=by
  have:=grownCap_le_maxLen w n 0 3 (by unfold maxLen;omega)
  rw[<-hG]at this
  unfold maxLen at this
  omega
 obtain⟨Z,hZ⟩:∃Z,(([]:List Value).toArray++Builtin.zeroCells (Value.int .i64 0).cells n++Builtin.zeroCells (Value.int .i64 0).cells (G-n))=Z:=⟨_,rfl⟩
 have hZs:Z.size=G*1:=by
  rw[<-hZ]
  simp only[Array.size_append,zml]
  show 0+n*1+(G-n)*1=G*1
  omega
 rw[hZ]at hrz;clear hold hG hi hz0 hz1 hz2 h0 hZ
 go_enter Tryz.func201,Tryz.ntmps201
 go_wp2_with (at_builtin;refine Lib.wpList_append_run _ rfl _ _ _ _ rfl _ _ rfl rfl _ _ (hrz _) ?_)
 go_ret
 refine⟨_,rfl,Gw.made ⟨rfl,.inr ⟨w.heap.size,G,Z,rfl,Nat.le_refl _,?_,Nat.zero_le _,by unfold maxLen;omega,hZs,rfl⟩⟩,?_⟩
 . exact heap_alloc_new w _
 . exact(bl1 _).drew
structure RowI(zs:List Int)(base:Nat)(w':World)(e:Ending):Prop where
 out:∃v,e=.returned v/\Gi base w' v zs
theorem zew(S:Nat->Prop)(a:Option Addr)(ca:Nat)(cs:List (List Int))(w:World)(h:Gr El.int.row S w a ca cs)(hl:cs.flatten.length<=100000) :
 Calls Tryz.prog 167 #[.slice a cs.length ca] w fun e w'=>RowI cs.flatten w.heap.size w' e/\Below w.heap.size w w':=by
 have k2:=h.lenB
 have HH:Hid (Gr El.int.row S w a ca cs):=h
 clear h
 go_enter Tryz.func167,Tryz.ntmps167
 go_wp2
 go_loopw [3,11] (fun n i wr=>∃k m:Nat,k<=cs.length/\i=.int .i64 k/\n=.int .i64 (m:Int)/\m=((cs.take k).flatten).length/\w=wr) (fun _ i _=>cs.length-(intOf i).toNat)
 case atStart=>exact⟨0,0,Nat.zero_le _,rfl,rfl,rfl,rfl⟩
 case round =>
  obtain⟨k,m,hk,rfl,rfl,hm,rfl⟩:=hrel
  have HM:Hid (m=((cs.take k).flatten).length):=hm
  clear hm
  by_cases hkn:k<cs.length
  . obtain⟨b,off,a1,c1,ea,hb,d0,hrow,hlb⟩:=HH.out.rwI (Below.refl _ _) k hkn
    subst ea
    have hst:=zgl hkn
    have hle:=zl6 cs (k+1)
    rw[<-HM.out]at hst
    obtain⟨c,hc⟩:∃c,cs.getD k []=c:=⟨_,rfl⟩
    rw[hc]at d0 hst hlb
    have HM2:Hid (m+c.length=((cs.take (k+1)).flatten).length):=hst.symm
    have hmc:m+c.length<=100000:=by omega
    have i1:(0:Int)<=(k:Int):=by omega
    have i2:(k:Int)<(cs.length:Int):=by omega
    have i3:¬(m:Int)+(c.length:Int)<0:=by omega
    clear hc hst hle hrow HM hlb;go_wp2
    go_roundw
    case rel=>exact⟨k+1,m+c.length,by omega,by go_num,by go_num,HM2.out,trivial⟩
    case measure=>simp[intOf];omega
  . obtain rfl:k=cs.length:=by omega
    have hm:m=cs.flatten.length:=by rw[HM.out,List.take_length]
    have g4:¬(cs.length:Int)<(cs.length:Int):=by omega
    have hgr:=znu m w (by omega)
    clear HM hm
    go_wp2_with fail
    refine hgr.mono ?_
    rintro e u1 ⟨v1,rfl,hT0,hb1⟩
    have HT0:Hid (Gi w.heap.size u1 v1 []):=hT0
    have HB1:Hid (Below w.heap.size w u1):=hb1
    clear hgr hT0 hb1 hk hkn;go_wp2
    go_loopw [6,27] (fun v i wr=>∃k:Nat,k<=cs.length/\i=.int .i64 k/\Gi w.heap.size wr v ((cs.take k).flatten)/\Below w.heap.size w wr) (fun _ i _=>cs.length-(intOf i).toNat)
    case atStart=>exact⟨0,Nat.zero_le _,rfl,HT0.out,HB1.out⟩
    case round =>
     clear HT0 HB1;obtain⟨k,hk,rfl,hT,hB⟩:=hrel;obtain⟨a2,c2,rfl,hgr,hblk⟩:=hT.slice
     have HT:Hid (Gw El.int 3 w.heap.size (fun _=>False) wr (.slice a2 ((cs.take k).flatten).length c2) ((cs.take k).flatten)):=hT
     clear hT
     by_cases hkn:k<cs.length
     . obtain⟨b,off,a1,c1,ea,hb,d0,hrow,hlb⟩:=HH.out.rwI hB k hkn
       subst ea
       have hst:=zgl hkn
       have hle:=zl6 cs (k+1)
       obtain⟨c,hc⟩:∃c,cs.getD k []=c:=⟨_,rfl⟩
       have HS:Hid (_):=znq hkn hc
       rw[hc]at d0 hst hlb hrow
       have hll:((cs.take k).flatten).length+c.length<=1000000:=by omega
       have i1:(0:Int)<=(k:Int):=by omega
       have i2:(k:Int)<(cs.length:Int):=by omega
       have hbs:w.heap.size<=wr.heap.size:=hB.size
       clear hc hst hle hlb hgr hblk
       generalize (cs.take k).flatten=L at *
       go_wp2_with (at_builtin;refine zab 37 3 Tryz.underlying37 zbg rfl (by decide) (by decide) rfl _ _ rfl w.heap.size (fun _=>False) _ L rfl HT.out a1 c1 _ c rfl rfl hrow.anyI hll hbs ?_)
       intro v9 w9 hT9 hgrow _
       have hB9:Below w.heap.size w w9:=hB.grown hgrow hbs (fun k hk=>(HT.out.lo hk).1)
       rw[<-HS.out]at hT9;clear hgrow hbs hll HS;go_wp2
       go_roundw
       case rel=>exact⟨k+1,by omega,by go_num,hT9,hB9⟩
       case measure=>simp[intOf];omega
     . obtain rfl:k=cs.length:=by omega
       rw[List.take_length]at HT hgr ⊢
       obtain⟨T,hT⟩:∃T,cs.flatten=T:=⟨_,rfl⟩
       rw[hT]at HT
       have HV:Hid (RowI cs.flatten w.heap.size wr (.returned (.slice a2 T.length c2))):=⟨_,rfl,by rw[hT];exact HT.out⟩
       have g4:¬(cs.length:Int)<(cs.length:Int):=by omega
       try rw[hT]
       clear hblk hgr HT hT;go_wp2
       go_ret
       exact⟨HV.out,hB⟩
theorem zbj(S:Nat->Prop)(a:Option Addr)(ca:Nat)(L:List Int)(w:World)(h:Gr El.int S w a ca L)(hl:L.length<=1000) :
 Calls Tryz.prog 55 #[.slice a L.length ca] w fun e w'=>RowI L w.heap.size w' e/\Below w.heap.size w w':=by
 cases a with
 | none =>
  have h0:L=[]:=by
   have h1:=h.1
   rw[h.2.2.1 rfl]at h1
   exact List.length_eq_zero_iff.1 (Nat.le_zero.1 h1)
  subst h0;clear h
  have q22:∀(w:World) (a:Option Addr) (n c n' c':Nat),(binOp .eql 37 (.slice a n c) (.slice none n' c')).run Tryz.prog w=.ok (.bool a.isNone) w:=fun w a n c n' c'=>Lib.run_eql_slice_nil w _ _ a n c n' c' Tryz.underlying37
  go_enter Tryz.func55,Tryz.ntmps55
  go_wp2
  go_ret
  exact⟨⟨_,rfl,Gi.nil _ _⟩,Below.refl _ _⟩
 | some ad =>
  have q22:∀(w:World) (a:Option Addr) (n c n' c':Nat),(binOp .eql 37 (.slice a n c) (.slice none n' c')).run Tryz.prog w=.ok (.bool a.isNone) w:=fun w a n c n' c'=>Lib.run_eql_slice_nil w _ _ a n c n' c' Tryz.underlying37
  have hN0:Gi w.heap.size (w.alloc (.cells #[] 3)) (.slice (some ⟨w.heap.size,0,none⟩) 0 0) []:=Gw.made (World.ownsRow_made w #[] 0 (Nat.le_refl _) (Nat.zero_le _) rfl)
  have HL:Hid (Gr El.int (fun k=>False/\(Value.slice (some ⟨w.heap.size,0,none⟩) 0 0).ownBlock≠some k) (w.alloc (.cells #[] 3)) (some ad) ca L):=(h.below (bl1 _)).anyI
  have kl:=h.lenB
  have hll:([]:List Int).length+L.length<=1000000:=by simp;omega
  have hW:=(bl1 (w:=w) (.cells #[] 3)).size
  clear h
  go_enter Tryz.func55,Tryz.ntmps55
  go_wp2_with (at_builtin;refine zab 37 3 Tryz.underlying37 zbg rfl (by decide) (by decide) rfl _ _ rfl w.heap.size (fun _=>False) _ [] rfl hN0 _ _ _ L rfl rfl HL.out hll hW ?_)
  intro v1 w1 hT1 hgrow _
  have hB1:Below w.heap.size w w1:=(bl1 _).grown hgrow hW (fun k hk=>by simp[Value.ownBlock]at hk;omega)
  have HV:Hid (RowI L w.heap.size w1 (.returned v1)):=⟨_,rfl,hT1⟩
  clear hgrow hT1 hll hW hN0;go_wp2
  go_ret
  exact⟨HV.out,hB1⟩
def nth:List Oper->Nat->Option Oper
 | [],_=>none
 | o::_,0=>some o
 | _::l,n+1=>nth l n
theorem ziw:∀(l:List Oper) (i:Nat),nth l i=l.toArray[i]?:=by
 intro l
 induction l with
 | nil=>intro i;simp[nth]
 | cons o l ih =>
  intro i
  cases i with
  | zero=>simp[nth]
  | succ i=>simp[nth,ih i]
theorem hTake{P:Program}{md:Region.Mode}{l:List Oper}{Q:Exit->Act->World->Prop}{S:World->Prop}{i:Nat}{o:Oper}{v:Value}{fuel:Nat}{listed:Array Bool}{a:Act}{w:World}(hi:nth l i=some o)
    (hs:Region.noSelect l.toArray=true) (hf:Region.free md l.toArray listed i=true) (hr:(Region.ready md l.toArray listed).contains i=true)
    (hQ:∀c a w,Q (.panic c) (a.put o.dst v) w->Q (.panic c) a w) (hy:YieldsIf P l.toArray S o v a) (hS:S w)
    (h:wpAnyH P md l.toArray Q S fuel (listed.setIfInBounds i true) (a.put o.dst v) w):wpAnyH P md l.toArray Q S (fuel+1) listed a w :=
 wpAnyH_take ((ziw l i).symm.trans hi) hs hf hr hQ hy hS h
theorem hCall{P:Program}{md:Region.Mode}{l:List Oper}{Q:Exit->Act->World->Prop}{S:World->Prop}{i:Nat}{o:Oper}{fuel:Nat}{listed:Array Bool}{a:Act}{w:World}(hi:nth l i=some o)
    (hr:Region.ready md l.toArray listed=[i]) (hw:Region.wanted o (yielded l.toArray a.tmps)=true)
    (h:∀K:Act->World->Prop,Shut (∀a w,S w->(S w->wpAnyH P md l.toArray Q S fuel (listed.setIfInBounds i true) a w)->K a w)->Oper.wp P o a w K Q) :
    wpAnyH P md l.toArray Q S (fuel+1) listed a w :=
 wpAnyH_ready hr (by simp) (AllReadyH.cons ((ziw l i).symm.trans hi) (fun K hK=>by rw[if_pos hw];exact h K hK) AllReadyH.nil)
theorem hCons{P:Program}{md:Region.Mode}{l:List Oper}{Q:Exit->Act->World->Prop}{S:World->Prop}{i:Nat}{o:Oper}{fuel:Nat}{listed:Array Bool}{a:Act}{w:World}{rs:List Nat}(hi:nth l i=some o)
    (hw:Region.wanted o (yielded l.toArray a.tmps)=true)
    (h:∀K:Act->World->Prop,Shut (∀a w,S w->(S w->wpAnyH P md l.toArray Q S fuel (listed.setIfInBounds i true) a w)->K a w)->Oper.wp P o a w K Q)
    (hs:AllReadyH P md l.toArray Q S fuel listed a w rs):AllReadyH P md l.toArray Q S fuel listed a w (i::rs) :=
 AllReadyH.cons ((ziw l i).symm.trans hi) (fun K hK=>by rw[if_pos hw];exact h K hK) hs
theorem pZ:(∀ {α:Type} (l:List α) (i:Nat) (x:α),l.toArray.setIfInBounds i x=(l.set i x).toArray)/\(∀ {α:Type} (a:α) (l:List α) (x:α),(a::l).set 0 x=x::l)/\(∀ {α:Type} (a:α) (l:List α) (n:Nat) (x:α),(a::l).set (n+1) x=a::l.set n x):=⟨fun _ _ _=>List.setIfInBounds_toArray ..,fun _ _ _=>rfl,fun _ _ _ _=>rfl⟩
theorem hT{P:Program}{md:Region.Mode}{l:List Oper}{Q:Exit->Act->World->Prop}{S:World->Prop}(i:Nat){o:Oper}{v:Value}{fuel:Nat}{listed:Array Bool}{a a2:Act}{w:World}(hS:S w)
    (h:wpAnyH P md l.toArray Q S fuel (listed.setIfInBounds i true) a2 w)
    (hi:nth l i=some o:=by rfl) (hs:Region.noSelect l.toArray=true:=by kernel_rfl) (hf:Region.free md l.toArray listed i=true:=by kernel_rfl) (hr:(Region.ready md l.toArray listed).contains i=true:=by kernel_rfl)
    (hQ:∀c a w,Q (.panic c) (a.put o.dst v) w->Q (.panic c) a w:=by exact fun _ _ _ h=>h) (hw:Region.wanted o (yielded l.toArray a.tmps)=true:=by rfl)
    (hy:∀w9,S w9->(execOp a.eval o).run P w9=.ok (.value v) w9:=by intro w9 hSw;(try dsimp only at hSw);go_simp;try with_reducible rfl)
    (ha:a.put o.dst v=a2:=by(try simp only[Act.put,pZ]);try rfl):wpAnyH P md l.toArray Q S (fuel+1) listed a w:=by
 subst ha
 exact wpAnyH_take ((ziw l i).symm.trans hi) hs hf hr hQ (Or.inl ⟨hw,hy⟩) hS h
theorem hN{P:Program}{md:Region.Mode}{l:List Oper}{Q:Exit->Act->World->Prop}{S:World->Prop}(i:Nat){o:Oper}{fuel:Nat}{listed:Array Bool}{a a2:Act}{w:World}(hS:S w)
    (h:wpAnyH P md l.toArray Q S fuel (listed.setIfInBounds i true) a2 w)
    (hi:nth l i=some o:=by rfl) (hs:Region.noSelect l.toArray=true:=by kernel_rfl) (hf:Region.free md l.toArray listed i=true:=by kernel_rfl) (hr:(Region.ready md l.toArray listed).contains i=true:=by kernel_rfl)
    (hQ:∀c a w,Q (.panic c) (a.put o.dst undef) w->Q (.panic c) a w:=by exact fun _ _ _ h=>h) (hw:Region.wanted o (yielded l.toArray a.tmps)=false:=by rfl)
    (ha:a.put o.dst undef=a2:=by(try simp only[Act.put,pZ]);try rfl):wpAnyH P md l.toArray Q S (fuel+1) listed a w:=by
 subst ha
 exact wpAnyH_take ((ziw l i).symm.trans hi) hs hf hr hQ (Or.inr ⟨hw,rfl⟩) hS h
theorem zow{w:World}{g:Nat}{x y z:List Int}{ax ay az:Option Addr}{cx cy cz:Nat}(hg:g<w.heap.size)
    (c0:w.cell? ⟨g,0,none⟩=some (.slice ax x.length cx)) (c1:w.cell? ⟨g,1,none⟩=some (.slice ay y.length cy)) (c2:w.cell? ⟨g,2,none⟩=some (.slice az z.length cz))
    (hx:Gr El.int (fun _=>True) w ax cx x) (hy:Gr El.int (fun _=>True) w ay cy y) (hz:Gr El.int (fun _=>True) w az cz z) (l1:x.length<=1000) (l2:y.length<=1000) (l3:z.length<=1000) :
    Gr El.int.row (fun _=>True) w (some ⟨g,0,none⟩) 3 [x,y,z]:=by
 refine⟨Nat.le_refl _,by unfold maxLen;omega,(fun e=>by cases e),fun i hi=>?_⟩
 have hi3:i=0\/i=1\/i=2:=by simp at hi;omega
 rcases hi3 with rfl|rfl|rfl
 . exact⟨g,0,[.slice ax x.length cx],rfl,hg,⟨ax,cx,rfl,fun _ _ _ _=>trivial,hx,by show x.length<=_;omega⟩,fun j hj=>by
     obtain rfl:j=0:=by simp[El.row]at hj;exact hj
     exact c0⟩
 . exact⟨g,0,[.slice ay y.length cy],rfl,hg,⟨ay,cy,rfl,fun _ _ _ _=>trivial,hy,by show y.length<=_;omega⟩,fun j hj=>by
     obtain rfl:j=0:=by simp[El.row]at hj;exact hj
     exact c1⟩
 . exact⟨g,0,[.slice az z.length cz],rfl,hg,⟨az,cz,rfl,fun _ _ _ _=>trivial,hz,by show z.length<=_;omega⟩,fun j hj=>by
     obtain rfl:j=0:=by simp[El.row]at hj;exact hj
     exact c2⟩
theorem Gi.base{b b2:Nat}{w:World}{v:Value}{l:List Int}(h:Gi b w v l)(hb:b2<=b):Gi b2 w v l:=by
 obtain⟨vss,h1,h2,h3⟩:=h
 exact⟨vss,h1,zdt h2 hb,h3⟩
theorem zl8(S S2:Nat->Prop)(a:Option Addr)(ca:Nat)(L:List Int)(f t:Int)(b:Option Addr)(cb:Nat)(o:List Int)(w:World)
    (hL:Gr El.int S w a ca L) (ho:Gr El.int S2 w b cb o) (hf:I64 f) (ht:I64 t) (hl1:L.length<=1000) (hl2:o.length<=1000) :
    Calls Tryz.prog 126 #[.slice a L.length ca,.int .i64 f,.int .i64 t,.slice b o.length cb] w fun e w'=>PutA L f t o w.heap.size w' e/\Below w.heap.size w w':=by
 have kl:=hL.lenB
 obtain⟨f1,f2⟩:=hf;obtain⟨t1,t2⟩:=ht
 by_cases zfs:0<=f/\f<=t/\t<=(L.length:Int)
 . obtain⟨g1,g2,g3⟩:=zfs
   obtain⟨p,rfl⟩:∃p:Nat,f=(p:Int):=⟨f.toNat,by omega⟩
   obtain⟨q,rfl⟩:∃q:Nat,t=(q:Int):=⟨t.toNat,by omega⟩
   have hpq:p<=q:=by omega
   have hqL:q<=L.length:=by omega
   have zus:=hL.1
   have hpc:p<=ca:=by omega
   have hqc:q<=ca:=by omega
   have HF:Hid (puL L (p:Int) (q:Int) o=[L.take p,o,L.drop q].flatten):=by show _=_;rw[zeb hpq hqL];simp
   have d1:decide ((p:Int)<0)=false:=decide_eq_false (by omega)
   have d2:decide ((q:Int)<(p:Int))=false:=decide_eq_false (by omega)
   have d2n:decide (q<p)=false:=decide_eq_false (by omega)
   have d3:decide ((L.length:Int)<(q:Int))=false:=decide_eq_false (by omega)
   have d3n:decide (L.length<q)=false:=decide_eq_false (by omega)
   have HT:Hid (∀U,Below w.heap.size w U->Gr El.int (fun _=>True) U a ca (L.take p)):=fun U hU=>((hL.below hU).take p).anyI
   have HQ:Hid (∀U,Below w.heap.size w U->Gr El.int (fun _=>True) U (if ca=q then a else a.map (fun x=>x.add q)) (ca-q) (L.drop q)):=fun U hU=>((hL.below hU).cutI q hqL).anyI
   have HO:Hid (∀U,Below w.heap.size w U->Gr El.int (fun _=>True) U b cb o):=fun U hU=>(ho.below hU).anyI
   have HLP:Hid ((L.take p).length=p):=by show _=_;rw[List.length_take];omega
   have HLD:Hid ((L.drop q).length=L.length-q):=by show _=_;rw[List.length_drop]
   have hlp1:(L.take p).length<=1000:=by rw[List.length_take];omega
   have hlq1:(L.drop q).length<=1000:=by rw[List.length_drop];omega
   obtain⟨P,hP⟩:∃P,L.take p=P:=⟨_,rfl⟩
   obtain⟨D,hD⟩:∃D,L.drop q=D:=⟨_,rfl⟩
   rw[hP]at HT HF HLP hlp1;rw[hD]at HQ HF HLD hlq1;clear hL ho hP hD
   by_cases hc:ca=q
   . subst hc
     rw[if_pos rfl,Nat.sub_self]at HQ
     have hq0:L.length-ca=0:=by omega
     rw[hq0]at HLD
     go_enter Tryz.func126,Tryz.ntmps126
     go_wp2_with fail
     refine wp_region_held_drew (S:=fun _=>True) (by kernel_rfl) trivial (fun hH=>?_)
     have hdr:Below w.heap.size w w.drew:=(Below.refl _ _).drew
     generalize w.drew=Z at hdr hH ⊢
     refine hT 0 hH ?_;refine hT 1 hH ?_;refine hT 2 hH ?_;refine hT 3 hH ?_;refine hT 4 hH ?_;refine hT 5 hH ?_;refine hT 6 hH ?_
     refine hCall (i:=7) rfl (by kernel_rfl) (by rfl) (fun K hK=>?_)
     go_simp
     obtain⟨W,hW,X3,hbW⟩:∃W,W=Z.alloc (.cells #[.slice a p ca,.slice b o.length cb,.slice a 0 0] 37)/\Bk 37 W Z.heap.size [.slice a p ca,.slice b o.length cb,.slice a 0 0]/\Below Z.heap.size Z W:=⟨_,rfl,Bk.new _ _ _,bl1 _⟩
     rw[<-hW]
     have hBW:=hdr.trans (hbW.mono hdr.size)
     obtain⟨q0,q1,q2,-⟩:=X3.three
     have hG3:Gr El.int.row (fun _=>True) W (some ⟨Z.heap.size,0,none⟩) 3 [P,o,D]:=zow X3.lt (by rw[HLP.out];exact q0) q1 (by rw[HLD.out];exact q2) (HT.out W hBW) (HO.out W hBW) (HQ.out W hBW) hlp1 hl2 hlq1
     have hcc:Calls Tryz.prog 167 #[.slice (some ⟨Z.heap.size,0,none⟩) 3 3] W fun e w'=>RowI (puL L (p:Int) (ca:Int) o) W.heap.size w' e/\Below W.heap.size W w':=by
      rw[HF.out]
      exact zew (fun _=>True) (some ⟨Z.heap.size,0,none⟩) 3 [P,o,D] W hG3 (by simp;omega)
     clear hW hG3 X3 hbW hdr q0 q1 q2
     refine hK.out _ _ trivial (fun hH=>?_)
     clear hK K
     try simp only[Act.put,pZ]
     refine hCall (i:=8) rfl (by kernel_rfl) (by rfl) (fun K hK=>?_)
     go_simp
     refine hcc.mono ?_
     rintro e u ⟨⟨v,rfl,hv⟩,hbu⟩
     have hBu:=hBW.trans (hbu.mono hBW.size)
     have HV:Hid (PutA L (p:Int) (ca:Int) o w.heap.size u (.returned v)):=⟨v,rfl,hv.base hBW.size⟩
     clear hv hbu hcc hBW
     go_wp2_with fail
     refine hK.out _ _ trivial (fun hH=>?_)
     clear hK K
     try simp only[Act.put,pZ]
     refine hT 9 hH ?_
     refine wpAnyH_done (by kernel_rfl) ?_ _
     go_wp2
     go_ret
     exact⟨HV.out,hBu⟩
   . rw[if_neg hc]at HQ
     go_enter Tryz.func126,Tryz.ntmps126
     go_wp2_with fail
     refine wp_region_held_drew (S:=fun _=>True) (by kernel_rfl) trivial (fun hH=>?_)
     have hdr:Below w.heap.size w w.drew:=(Below.refl _ _).drew
     generalize w.drew=Z at hdr hH ⊢
     refine hT 0 hH ?_;refine hT 1 hH ?_;refine hT 2 hH ?_;refine hT 3 hH ?_;refine hT 4 hH ?_;refine hT 5 hH ?_;refine hT 6 hH ?_
     refine hCall (i:=7) rfl (by kernel_rfl) (by rfl) (fun K hK=>?_)
     go_simp
     obtain⟨W,hW,X3,hbW⟩:∃W,W=Z.alloc (.cells #[.slice a p ca,.slice b o.length cb,.slice (Option.map (fun x=>x.add q) a) (L.length-q) (ca-q)] 37)/\Bk 37 W Z.heap.size [.slice a p ca,.slice b o.length cb,.slice (Option.map (fun x=>x.add q) a) (L.length-q) (ca-q)]/\Below Z.heap.size Z W:=⟨_,rfl,Bk.new _ _ _,bl1 _⟩
     rw[<-hW]
     have hBW:=hdr.trans (hbW.mono hdr.size)
     obtain⟨q0,q1,q2,-⟩:=X3.three
     have hG3:Gr El.int.row (fun _=>True) W (some ⟨Z.heap.size,0,none⟩) 3 [P,o,D]:=zow X3.lt (by rw[HLP.out];exact q0) q1 (by rw[HLD.out];exact q2) (HT.out W hBW) (HO.out W hBW) (HQ.out W hBW) hlp1 hl2 hlq1
     have hcc:Calls Tryz.prog 167 #[.slice (some ⟨Z.heap.size,0,none⟩) 3 3] W fun e w'=>RowI (puL L (p:Int) (q:Int) o) W.heap.size w' e/\Below W.heap.size W w':=by
      rw[HF.out]
      exact zew (fun _=>True) (some ⟨Z.heap.size,0,none⟩) 3 [P,o,D] W hG3 (by simp;omega)
     clear hW hG3 X3 hbW hdr q0 q1 q2
     refine hK.out _ _ trivial (fun hH=>?_)
     clear hK K
     try simp only[Act.put,pZ]
     refine hCall (i:=8) rfl (by kernel_rfl) (by rfl) (fun K hK=>?_)
     go_simp
     refine hcc.mono ?_
     rintro e u ⟨⟨v,rfl,hv⟩,hbu⟩
     have hBu:=hBW.trans (hbu.mono hBW.size)
     have HV:Hid (PutA L (p:Int) (q:Int) o w.heap.size u (.returned v)):=⟨v,rfl,hv.base hBW.size⟩
     clear hv hbu hcc hBW
     go_wp2_with fail
     refine hK.out _ _ trivial (fun hH=>?_)
     clear hK K
     try simp only[Act.put,pZ]
     refine hT 9 hH ?_
     refine wpAnyH_done (by kernel_rfl) ?_ _
     go_wp2
     go_ret
     exact⟨HV.out,hBu⟩
 . have HF:Hid (puL L f t o=L):=zlj zfs
   have hcl:=fun U (hU:Below w.heap.size w U)=>zbj S a ca L U (hL.below hU) hl1
   have HV:Hid (∀e U,RowI L w.heap.size U e->PutA L f t o w.heap.size U e):=fun e U h=>⟨by rw[HF.out];exact h.out⟩
   by_cases b1:f<0
   . have d1:decide (f<0)=true:=decide_eq_true b1
     clear zfs hL ho b1
     go_enter Tryz.func126,Tryz.ntmps126
     go_wp2_with fail
     refine(hcl _ (Below.refl _ _)).mono ?_
     rintro e u ⟨⟨v,rfl,hv⟩,hbu⟩;clear hcl;go_wp2
     go_ret
     exact⟨HV.out _ _ ⟨v,rfl,hv⟩,hbu⟩
   have d1:decide (f<0)=false:=decide_eq_false b1
   by_cases b2:t<f
   . have d2:decide (t<f)=true:=decide_eq_true b2
     clear zfs hL ho b1 b2
     go_enter Tryz.func126,Tryz.ntmps126
     go_wp2_with fail
     refine(hcl _ (Below.refl _ _)).mono ?_
     rintro e u ⟨⟨v,rfl,hv⟩,hbu⟩;clear hcl;go_wp2
     go_ret
     exact⟨HV.out _ _ ⟨v,rfl,hv⟩,hbu⟩
   have d2:decide (t<f)=false:=decide_eq_false b2
   have d3:decide ((L.length:Int)<t)=true:=decide_eq_true (by omega)
   clear zfs hL ho b1 b2
   go_enter Tryz.func126,Tryz.ntmps126
   go_wp2_with fail
   refine(hcl _ (Below.refl _ _)).mono ?_
   rintro e u ⟨⟨v,rfl,hv⟩,hbu⟩;clear hcl;go_wp2
   go_ret
   exact⟨HV.out _ _ ⟨v,rfl,hv⟩,hbu⟩
theorem zvp{L:List Int}{z:Int}(h0:0<=z)(h1:z<(L.length:Int))(o:List Int):puL L z (z+1) o=L.take z.toNat++o++L.drop (z.toNat+1):=by
 obtain⟨n,rfl⟩:∃n:Nat,z=(n:Int):=⟨z.toNat,by omega⟩
 have:=zeb (L:=L) (f:=n) (t:=n+1) (o:=o) (by omega) (by omega)
 rw[Int.toNat_natCast,<-this]
 rfl
theorem zfk{L:List Int}{z:Int}(h0:0<=z)(h1:z<(L.length:Int))(o:List Int):(puL L z (z+1) o).length+1=L.length+o.length:=by
 rw[zvp h0 h1]
 simp
 omega
theorem zk9{L m:List Int}{j:Nat}(hj:j<m.length):taF L (m.drop j)=puL (taF L (m.drop (j+1))) (m.getD j 0) (m.getD j 0+1) []:=by
 rw[List.drop_eq_getElem_cons hj,taF,List.getD_eq_getElem?_getD,List.getElem?_eq_getElem hj,Option.getD_some]
theorem zn7(L m:List Int):taF L (m.drop m.length)=L:=by rw[List.drop_length];rfl
theorem zvf{ms:List Bool}{L:List Int}{sk:Bool}{i:Int}{A m:List Int}(h:MeR ms L sk i A m):∀d,d<=m.length->(taF L (m.drop (m.length-d))).length+d=L.length:=by
 intro d
 induction d with
 | zero=>intro _;rw[Nat.sub_zero,zn7];rfl
 | succ d ih =>
  intro hd
  have h1:=ih (by omega)
  have hj:m.length-(d+1)<m.length:=by omega
  obtain⟨p,e,hp,_⟩:=h.ok _ hj
  have hh:=h.hi hj
  rw[zk9 hj,show m.length-(d+1)+1=m.length-d by omega]
  have:=zfk (L:=taF L (m.drop (m.length-d))) (z:=m.getD (m.length-(d+1)) 0) (by omega) (by omega) []
  simp only[List.length_nil]at this
  omega
theorem zg1{ms:List Bool}{L:List Int}{sk:Bool}{i:Int}{A m:List Int}(h:MeR ms L sk i A m):(taF L m.tail).length+m.length=L.length+1:=by
 have:=zvf h (m.length-1) (by omega)
 have hp:=h.pos
 rw[show m.length-(m.length-1)=1 by omega,List.drop_one]at this
 omega
structure DuF(L:List Int)(i:Int)(o:List Int)(on:Int):Prop where
 len:o.length<=L.length+7
 ge:i<=on
 le:on<=(L.length:Int)+8
 less:(o.length:Int)-on<(L.length:Int)-i
theorem du_f{l:List Lk}{g:Int}{ms:List Bool}(hf:foU l g=true):∀(n k:Nat) (L:List Int) (i:Int) (p:List Int×Int),k<l.length->puB (l.getD k Lk.none).kd=true->plB L i=true->duF l ms n k L i=some p->DuF L i p.1 p.2:=by
 intro n
 induction n with
 | zero =>
  intro k L i p hk hp hi h
  rw[zl7]at h
  by_cases hs:((l.getD k Lk.none).sk&&mkB ms (L.getD i.toNat 0))=true
  . rw[if_pos hs]at h;cases h
  rw[if_neg hs]at h
  obtain⟨r,hr,m,hm,rfl⟩:=zt4 h
  have hM:=me_r hm
  have hpi:=zal.1 hi
  have hrf:=zlc hf hk hp hr
  have zcn:=hM.lo (k:=m.length-1) (by have:=hM.pos;omega)
  have hhi:=hM.hi (k:=m.length-1) (by have:=hM.pos;omega)
  have zdf:=hM.pos
  unfold apF
  by_cases h4:(l.getD k Lk.none).kd=4
  . rw[if_pos h4]
    show DuF L i L (max (m.getD (m.length-1) 0+1+(L.length:Int)-(L.length:Int)) i)
    refine⟨by omega,by omega,by omega,?_⟩
    omega
  . rw[if_neg h4]
    by_cases h3:(l.getD k Lk.none).kd=3
    . rw[if_pos h3]
      have ht:=zg1 hM
      obtain⟨c1,c2⟩:=hrf.lig h3
      have hml:m.length=r.inn.length:=hM.len
      have hlo0:=hM.hi (k:=0) zdf
      rw[hM.fst]at hlo0
      have hl:=zfk (L:=taF L m.tail) (z:=i) hpi.1 (by omega) r.out
      refine⟨by show(puL (taF L m.tail) i (i+1) r.out).length<=_;omega,by show i<=i+1;omega,by show i+1<=_;omega,?_⟩
      show((puL (taF L m.tail) i (i+1) r.out).length:Int)-(i+1)<_
      omega
    . rw[if_neg h3]
      have hl:=zfk hpi.1 hpi.2 r.out
      have hol:=hrf.ol
      refine⟨by show(puL L i (i+1) r.out).length<=_;omega,by show i<=i+(r.out.length:Int);omega,by show i+(r.out.length:Int)<=_;omega,?_⟩
      show((puL L i (i+1) r.out).length:Int)-(i+(r.out.length:Int))<_
      omega
 | succ n ih =>
  intro k L i p hk hp hi h
  rw[zl7]at h
  by_cases hs:((l.getD k Lk.none).sk&&mkB ms (L.getD i.toNat 0))=true
  . rw[if_pos hs]at h;cases h
  rw[if_neg hs]at h
  obtain⟨r,hr,m,hm,rfl⟩:=zt4 h
  have hM:=me_r hm
  have hpi:=zal.1 hi
  have hrf:=zlc hf hk hp hr
  have zcn:=hM.lo (k:=m.length-1) (by have:=hM.pos;omega)
  have hhi:=hM.hi (k:=m.length-1) (by have:=hM.pos;omega)
  have zdf:=hM.pos
  unfold apF
  by_cases h4:(l.getD k Lk.none).kd=4
  . rw[if_pos h4]
    obtain⟨c1,c2,c3,c4,c5,c6⟩:=hrf.cx h4
    have hml:m.length=r.inn.length:=hM.len
    have ho:(inF l ms (n+1) L r.lk (m.getD r.ap.toNat 0)).length<=L.length+7:=by
     show(duL l ms n r.lk.toNat L (m.getD r.ap.toNat 0)).length<=_
     unfold duL
     cases hd:duF l ms n r.lk.toNat L (m.getD r.ap.toNat 0) with
     | none=>show L.length<=_;omega
     | some p =>
      obtain⟨q,e,hq,_⟩:=hM.ok r.ap.toNat (by omega)
      exact(ih r.lk.toNat L _ p (by omega) c6 (zal.2 ⟨by omega,by omega⟩) hd).len
    generalize inF l ms (n+1) L r.lk (m.getD r.ap.toNat 0)=o at ho
    refine⟨ho,?_,?_,?_⟩
    . show i<=max (m.getD (m.length-1) 0+1+(o.length:Int)-(L.length:Int)) i
      omega
    . show max (m.getD (m.length-1) 0+1+(o.length:Int)-(L.length:Int)) i<=_
      omega
    . show(o.length:Int)-max (m.getD (m.length-1) 0+1+(o.length:Int)-(L.length:Int)) i<_
      omega
  . rw[if_neg h4]
    by_cases h3:(l.getD k Lk.none).kd=3
    . rw[if_pos h3]
      have ht:=zg1 hM
      obtain⟨c1,c2⟩:=hrf.lig h3
      have hml:m.length=r.inn.length:=hM.len
      have hlo0:=hM.hi (k:=0) zdf
      rw[hM.fst]at hlo0
      have hl:=zfk (L:=taF L m.tail) (z:=i) hpi.1 (by omega) r.out
      refine⟨by show(puL (taF L m.tail) i (i+1) r.out).length<=_;omega,by show i<=i+1;omega,by show i+1<=_;omega,?_⟩
      show((puL (taF L m.tail) i (i+1) r.out).length:Int)-(i+1)<_
      omega
    . rw[if_neg h3]
      have hl:=zfk hpi.1 hpi.2 r.out
      have hol:=hrf.ol
      refine⟨by show(puL L i (i+1) r.out).length<=_;omega,by show i<=i+(r.out.length:Int);omega,by show i+(r.out.length:Int)<=_;omega,?_⟩
      show((puL L i (i+1) r.out).length:Int)-(i+(r.out.length:Int))<_
      omega
def liF(l:List Lk)(ms:List Bool)(k:Nat):Nat->List Int->Int->Option (List Int)
 | 0,L,_=>some L
 | n+1,L,i=>if i<(L.length:Int) then
     (if 100<(duL l ms 7 k L i).length then none
      else liF l ms k n (duL l ms 7 k L i) (if duB l ms 7 k L i=false\/(duO l ms 7 k L i=i/\L.length<=(duL l ms 7 k L i).length)then i+1 else duO l ms 7 k L i))
  else some L
def goO(l:List Lk)(ms:List Bool)(k:Nat)(L:List Int)(i:Int):Int:=if duB l ms 7 k L i=false\/(duO l ms 7 k L i=i/\L.length<=(duL l ms 7 k L i).length)then i+1 else duO l ms 7 k L i
theorem go_less{l:List Lk}{g:Int}{ms:List Bool}(hf:foU l g=true){k:Nat}{L:List Int}{i:Int}(hk:k<l.length)(hp:puB (l.getD k Lk.none).kd=true)(h0:0<=i)(hi:i<(L.length:Int)) :
 i<=goO l ms k L i/\goO l ms k L i<=(L.length:Int)+8/\((duL l ms 7 k L i).length:Int)-goO l ms k L i<(L.length:Int)-i/\(duL l ms 7 k L i).length<=L.length+7:=by
 unfold goO duB duL duO
 cases hd:duF l ms 7 k L i with
 | none =>
  rw[if_pos (.inl rfl)]
  refine⟨by omega,by omega,?_,?_⟩
  . show(L.length:Int)-(i+1)<_;omega
  . show L.length<=_;omega
 | some p =>
  have h:=du_f hf 7 k L i p hk hp (zal.2 ⟨h0,hi⟩) hd
  obtain⟨h1,h2,h3,h4⟩:=h
  by_cases hc:p.2=i/\L.length<=p.1.length
  . obtain⟨e,hc⟩:=hc
    rw[e]at h4
    omega
  . rw[if_neg (fun h=>by
      rcases h with h|h
      . cases h
      . exact hc h)]
    exact⟨h2,h3,h4,h1⟩
theorem zs3{l:List Lk}{g:Int}{ms:List Bool}(hf:foU l g=true){k:Nat}(hk:k<l.length)(hp:puB (l.getD k Lk.none).kd=true):∀(n m:Nat) (L:List Int) (i:Int),0<=i->(L.length:Int)-i<=(n:Int)->n<=m->liF l ms k m L i=liF l ms k n L i:=by
 intro n
 induction n with
 | zero =>
  intro m L i h0 h1 _
  cases m with
  | zero=>rfl
  | succ m=>rw[liF,liF,if_neg (by omega)]
 | succ n ih =>
  intro m L i h0 h1 h2
  obtain⟨m,rfl⟩:∃m',m=m'+1:=⟨m-1,by omega⟩
  rw[liF,liF]
  by_cases hi:i<(L.length:Int)
  . rw[if_pos hi,if_pos hi]
    by_cases hl:100<(duL l ms 7 k L i).length
    . rw[if_pos hl,if_pos hl]
    . rw[if_neg hl,if_neg hl]
      obtain⟨g1,g2,g3,g4⟩:=go_less (ms:=ms) hf hk hp h0 hi
      exact ih m _ _ (by show 0<=goO l ms k L i;omega) (by show _-goO l ms k L i<=_;omega) (by omega)
  . rw[if_neg hi,if_neg hi]
def liQ(l:List Lk)(ms:List Bool)(k:Nat)(L:List Int)(i:Int):Option (List Int):=liF l ms k (L.length-i.toNat) L i
theorem zp4{l:List Lk}{ms:List Bool}{k:Nat}{L:List Int}{i:Int}(h0:0<=i)(h:¬i<(L.length:Int)):liQ l ms k L i=some L:=by
 unfold liQ
 rw[show L.length-i.toNat=0 by omega,liF]
theorem zlx{l:List Lk}{ms:List Bool}{k:Nat}{L:List Int}{i:Int}(h0:0<=i)(h:i<(L.length:Int))(hl:100<(duL l ms 7 k L i).length):liQ l ms k L i=none:=by
 unfold liQ
 obtain⟨n,hn⟩:∃n,L.length-i.toNat=n+1:=⟨L.length-i.toNat-1,by omega⟩
 rw[hn,liF,if_pos h,if_pos hl]
theorem zuk{l:List Lk}{g:Int}{ms:List Bool}(hf:foU l g=true){k:Nat}(hk:k<l.length)(hp:puB (l.getD k Lk.none).kd=true){L:List Int}{i:Int}(h0:0<=i)(h:i<(L.length:Int))(hl:¬100<(duL l ms 7 k L i).length):liQ l ms k L i=liQ l ms k (duL l ms 7 k L i) (goO l ms k L i):=by
 unfold liQ
 obtain⟨n,hn⟩:∃n,L.length-i.toNat=n+1:=⟨L.length-i.toNat-1,by omega⟩
 obtain⟨g1,g2,g3,g4⟩:=go_less (ms:=ms) hf hk hp h0 h
 rw[hn,liF,if_pos h,if_neg hl]
 show liF l ms k n (duL l ms 7 k L i) (goO l ms k L i)=_
 exact zs3 hf hk hp _ n _ (goO l ms k L i) (by omega) (by omega) (by omega)
def liE(l:List Lk)(ms:List Bool)(k:Int)(L:List Int):Int :=
 if foU l 65536 then (if 100<L.length then 3 else if 0<=k/\k<(l.length:Int)then (if puB (l.getD k.toNat Lk.none).kd then (if (liQ l ms k.toNat L 0).isSome then 0 else 3)else 0)else 5)else 1
def liL(l:List Lk)(ms:List Bool)(k:Int)(L:List Int):List Int :=
 if foU l 65536 then (if 100<L.length then []else if 0<=k/\k<(l.length:Int)then (if puB (l.getD k.toNat Lk.none).kd then (liQ l ms k.toNat L 0).getD []else L)else [])else []
open Go.Shelf
attribute [local go_sem] Oper.semAt_some
theorem zx5{L:List Int}{f t:Int}:(puL L f t []).length<=L.length:=by
 unfold puL
 split
 . simp only[List.length_append,List.length_take,List.length_drop,List.length_nil];omega
 . exact Nat.le_refl _
def foP(L:List Int)(zs:List Int):List Int:=zs.foldl (fun X z=>puL X z (z+1) []) L
theorem zqv(L zs:List Int)(z:Int):foP L (zs++[z])=puL (foP L zs) z (z+1) []:=by unfold foP;rw[List.foldl_append];rfl
theorem zuw:∀(zs:List Int) (L:List Int),(foP L zs).length<=L.length:=by
 intro zs
 induction zs with
 | nil=>intro L;exact Nat.le_refl _
 | cons z t ih=>intro L;exact Nat.le_trans (ih (puL L z (z+1) [])) zx5
theorem zqt:∀(m L:List Int),foP L m.reverse=taF L m:=by
 intro m L
 induction m with
 | nil=>rfl
 | cons z t ih=>rw[List.reverse_cons,zqv,ih];rfl
theorem zqu:∀(zs:List Int) (L:List Int),(∀z∈L,I64 z)->∀z∈foP L zs,I64 z:=by
 intro zs
 induction zs with
 | nil=>intro L h;exact h
 | cons z t ih =>
  intro L h
  refine ih (puL L z (z+1) []) (fun x hx=>?_)
  unfold puL at hx
  split at hx
  . simp only[List.append_nil,List.mem_append]at hx
    rcases hx with hx|hx
    . exact h x (List.mem_of_mem_take hx)
    . exact h x (List.mem_of_mem_drop hx)
  . exact h x hx
theorem zvo{L:List Int}{z:Int}{i:Nat}(g:Int)(hz:(i:Int)<z):puL (L.set i g) z (z+1) []=(puL L z (z+1) []).set i g:=by
 obtain⟨n,rfl⟩:∃n:Nat,z=(n:Int):=⟨z.toNat,by omega⟩
 by_cases h:n+1<=L.length
 . have e1:puL (L.set i g) (n:Int) ((n:Int)+1) []=(L.set i g).take n++[]++(L.set i g).drop (n+1):=zeb (f:=n) (t:=n+1) (by omega) (by rw[List.length_set];omega)
   have e2:puL L (n:Int) ((n:Int)+1) []=L.take n++[]++L.drop (n+1):=zeb (f:=n) (t:=n+1) (by omega) (by omega)
   rw[e1,e2,List.append_nil,List.append_nil,List.take_set,List.drop_set_of_lt (by omega),List.set_append_left _ _ (by rw[List.length_take];omega)]
 . rw[zlj (L:=L.set i g) (by rw[List.length_set];omega),zlj (L:=L) (by omega)]
theorem zve{L:List Int}{i:Nat}(g:Int):∀(t:List Int),(∀z∈t,(i:Int)<z)->taF (L.set i g) t=(taF L t).set i g:=by
 intro t
 induction t with
 | nil=>intro _;rfl
 | cons z t ih =>
  intro h
  show puL (taF (L.set i g) t) z (z+1) []=_
  rw[ih (fun y hy=>h y (List.mem_cons_of_mem _ hy)),zvo g (h z (List.mem_cons_self ..))]
  rfl
theorem zsf{L:List Int}{i:Nat}(g:Int)(hi:i<L.length):puL L (i:Int) ((i:Int)+1) [g]=L.set i g:=by
 have e:puL L (i:Int) ((i:Int)+1) [g]=L.take i++[g]++L.drop (i+1):=zeb (f:=i) (t:=i+1) (by omega) (by omega)
 rw[e,List.set_eq_take_append_cons_drop,if_pos hi]
 simp
theorem zwb{ms:List Bool}{L:List Int}{sk:Bool}{i:Nat}{A m:List Int}(h:MeR ms L sk (i:Int) A m)(g:Int):foP (L.set i g) m.tail.reverse=puL (taF L m.tail) (i:Int) ((i:Int)+1) [g]:=by
 have zdf:=h.pos
 have hlt:∀z∈m.tail,(i:Int)<z:=fun z hz=>by
  obtain⟨j,hj,e⟩:=List.getElem_of_mem hz
  have hj2:j+1<m.length:=by rw[List.length_tail]at hj;omega
  have h1:=h.lo hj2
  have e2:m.getD (j+1) 0=z:=by
   rw[List.getD_eq_getElem?_getD,List.getElem?_eq_getElem hj2,Option.getD_some,<-e,List.getElem_tail]
  omega
 rw[zqt,zve g _ hlt,zsf]
 have h1:=zg1 h
 have h2:=h.hi zdf
 rw[h.fst]at h2
 omega
theorem zwy{f:Nat->Int}{m:List Int}(hf:∀j,j<m.length->f j=m.getD j 0){ys:List (Ix19 m.length)}(h:za1 ys=dnL m.length m.length):ys.map (fun x=>f x.1)=m.reverse:=by
 have e1:ys.map (fun x=>f x.1)=(za1 ys).map f:=by simp[za1]
 rw[e1,h]
 apply List.ext_getElem
 . simp[dnL]
 . intro k h1 h2
   have hk:k<m.length:=by simpa [dnL] using h1
   simp only[List.getElem_map,dnL,List.getElem_range,List.getElem_reverse]
   rw[hf _ (by omega),List.getD_eq_getElem?_getD,List.getElem?_eq_getElem (by omega),Option.getD_some]
theorem Gi.io{base:Nat}{w:World}{v:Value}{l:List Int}(h:Gi base w v l):Io base w v l:=by
 obtain⟨a0,c0,e0,hri,-⟩:=h.slice;obtain⟨vss,hl,h3,h4⟩:=h
 refine⟨hri.1,?_⟩
 have hfl:vss.flatten=l.map (Value.int .i64):=by
  have hh:∀(vss:List (List Value)) (l:List Int),l.length=vss.length->(∀i,i<l.length->vss.getD i []=[.int .i64 (l.getD i 0)])->vss.flatten=l.map (Value.int .i64):=by
   intro vss
   induction vss with
   | nil =>
    intro l hl _
    have:l=[]:=List.length_eq_zero_iff.1 hl
    rw[this];rfl
   | cons vs t ih =>
    intro l hl hv
    cases l with
    | nil=>cases hl
    | cons z l =>
     have h0:vs=[.int .i64 z]:=hv 0 (by simp)
     rw[List.flatten_cons,h0,ih l (by simpa using hl) (fun i hi=>hv (i+1) (by simpa using hi))]
     rfl
  exact hh vss l (by omega) (fun i hi=>(El.int_rep.1 (h4 i hi)).1)
 rw[<-hfl]
 exact h3
theorem Io.grL{base:Nat}{S:Nat->Prop}{w:World}{v:Value}{zs:List Int}(h:Io base w v zs):∃a c,v=.slice a zs.length c/\Gr El.int S w a c zs:=by
 obtain⟨h1,h3⟩:=h
 rcases h3.2 with ⟨rfl,h0⟩|⟨g,cap,cur,rfl,hb,hg,hc1,hc2,hc3,ht⟩
 . have:zs=[]:=List.length_eq_zero_iff.1 h0
   subst this
   exact⟨none,0,rfl,Gr.nil _ _ _ _ _ (Nat.zero_le _) (fun _=>rfl)⟩
 . refine⟨_,cap,rfl,hc1,hc2,(fun e=>by cases e),fun i hi=>⟨g,0,[.int .i64 (zs.getD i 0)],rfl,(Array.getElem?_eq_some_iff.1 hg).1,⟨rfl,?_⟩,fun j hj=>?_⟩⟩
   . exact h1 _ (by rw[List.getD_eq_getElem?_getD,List.getElem?_eq_getElem hi];exact List.getElem_mem hi)
   . obtain rfl:j=0:=by simp[El.int,El.num]at hj;exact hj
     have:=h3.cells (g:=g) rfl i (.int .i64 (zs.getD i 0)) (by simp[List.getD,hi])
     have zdx:(⟨g,0,none⟩:Addr).add i=⟨g,0+i,none⟩:=by unfold Addr.add;split <;> simp_all
     rw[zdx]at this
     show w.cell? ⟨g,0+i*1+0,none⟩=_
     rw[Nat.mul_one,Nat.add_zero]
     exact this
theorem zto(G:Nat->Prop)(F:Fence)(n:Nat)(hf:F.fn 200)(hro:F.round=none)(hn:1<=n)(l Bs b off len cap:Nat)(f:Nat->Int)(zi0:len<=9223372036854775807)(hb:G b)(hBn:G Bs)(J Jx:List (Ix19 len)->World->Prop)
    (hY:∀(pre:List (Ix19 len)) (x:Ix19 len) W,J pre W->pre.length<len->YieldAt F (n-1) Tryz.prog l #[.int .i64 (x.1:Int),.int .i64 (f x.1)] W fun e W' =>
     (e=.returned (.bool true)/\J (pre++[x]) W'/\Keep G W W')\/(e=.returned (.bool false)/\Jx (pre++[x]) W'))
    (W:World) (hBs:W.cell? ⟨Bs,0,none⟩=some (.slice (some ⟨b,off,none⟩) len cap)) (hc:∀j,j<len->W.cell? ⟨b,off+j,none⟩=some (.int .i64 (f j))) (h0:J [] W) :
    CallsIn F n Tryz.prog 200 #[.func (.yield l) #[] #[],.pointer (some ⟨Bs,0,none⟩)] W fun e W'=>(∃v,e=.returned v) /\
     ((∃ys:List (Ix19 len),za1 ys=dnL len len/\J ys W')\/(∃pre:List (Ix19 len),(∃k,k<=len/\za1 pre=dnL len k)/\Jx pre W')):=by
 refine callsIn_of_wp Tryz.func200 rfl hf ?_ hro
 simp only[Tryz.ntmps200,List.size_toArray,List.length_cons,List.length_nil,Nat.reduceAdd,Nat.reduceSub,Array.replicate_succ,Array.replicate_zero,List.push_toArray,List.append_toArray,List.nil_append,List.cons_append]
 gi_wp2
 gi_loopw [3] (fun i wr=>∃(r:Nat) (z:Int) (pre:List (Ix19 len)),r<=len/\Hid (z=(len:Int)-1-(r:Int))/\i=.int .i64 z/\Hid (za1 pre=dnL len r)/\J pre wr/\Keep G W wr)
  (fun i _=>(intOf i+1).toNat)
 case atStart=>exact⟨0,(len:Int)-1,[],Nat.zero_le _,(by show _=_;omega),rfl,rfl,h0,Keep.refl _ _⟩
 case round =>
  obtain⟨r,z,pre,hr,HZ,rfl,HP,hJs,hnx⟩:=hrel
  have cB:=(hnx.cell (p:=⟨Bs,0,none⟩) hBn).trans hBs
  by_cases hlt:r<len
  . obtain⟨j,hj⟩:∃j:Nat,len-1-r=j:=⟨_,rfl⟩
    obtain rfl:z=(j:Int):=by have:=HZ.out;omega
    have hjl:j<len:=by omega
    have c0:=(hnx.cell (p:=⟨b,off+j,none⟩) hb).trans (hc j hjl)
    have HPL:Hid (pre.length<len):=by
     have h1:(za1 pre).length=r:=by rw[HP.out,zq5]
     show _<_
     rw[<-h1]at hlt
     simpa [za1] using hlt
    have HP2:Hid (za1 (pre++[⟨j,hjl⟩])=dnL len (r+1)):=by show _=_;rw[zd6,HP.out,zhr,hj]
    have HZ2:Hid ((j:Int)-1=(len:Int)-1-((r+1:Nat):Int)):=by show _=_;have:=HZ.out;omega
    have i1:(0:Int)<=(j:Int):=by omega
    have i2:(j:Int)<(len:Int):=by omega
    have hYY:=hY pre ⟨j,hjl⟩ wr hJs HPL.out
    dsimp only at hYY;obtain⟨fn,tmps,assign,body,hy,hR⟩:=hYY;clear hj HZ HP HPL hY
    gi_wp2
    refine hR.mono ?_
    rintro e W3 (⟨rfl,hJ3,hk3⟩|⟨rfl,hJx3⟩)
    . gi_wp2
      go_roundw
      case rel=>exact⟨r+1,_,_,by omega,HZ2,rfl,HP2,hJ3,hnx.trans hk3⟩
      case measure=>simp[intOf]
    . gi_wp2
      refine bodyPost_ret (results_none rfl _ _ _) rfl ?_
      exact⟨⟨_,rfl⟩,.inr ⟨_,⟨r+1,by omega,HP2.out⟩,hJx3⟩⟩
  . obtain rfl:r=len:=by omega
    obtain rfl:z=-1:=by have:=HZ.out;omega
    clear HZ hY
    gi_wp2
    go_end0
    exact⟨⟨_,rfl⟩,.inl ⟨_,HP.out,hJs⟩⟩
theorem zku(G:Nat->Prop)(F:Fence)(n:Nat)(hf:F.fn 200)(hro:F.round=none)(hn:1<=n)(Bs b off len cap:Nat)(f:Nat->Int)(zi0:len<=9223372036854775807)(w:World)(hBs:Bs<w.heap.size)(hb:b<w.heap.size)(hGs:G Bs)(hGb:G b)
    (hc:w.cell? ⟨Bs,0,none⟩=some (.slice (some ⟨b,off,none⟩) len cap)) (hI:∀j,j<len->w.cell? ⟨b,off+j,none⟩=some (.int .i64 (f j))) :
    SeqStopsK F n Tryz.prog 200 #[.pointer (some ⟨Bs,0,none⟩)] (fun x:Ix19 len=>#[Value.int .i64 (x.1:Int),Value.int .i64 (f x.1)]) (Keep G) (fun ys=>za1 ys=dnL len len)
     (fun pre=>∃k,k<=len/\za1 pre=dnL len k) len w:=fun l J Jx W hW _ _ hY h0 =>
 zto G F n hf hro hn l Bs b off len cap f zi0 hGb hGs J Jx hY W ((hW.cell (p:=⟨Bs,0,none⟩) hBs).trans hc) (fun j hj=>(hW.cell (p:=⟨b,off+j,none⟩) hb).trans (hI j hj)) h0
