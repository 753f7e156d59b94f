import Derived.Lib.AppendZerosOnto
import Derived.Deep.CutRange
import Derived.Test.YtkmcodofnckdmaaGreatZK11
import Derived.Test.YtkmcodofnckdmaaGreatChecked
set_option maxHeartbeats 2000000
set_option maxRecDepth 100000
set_option linter.unusedSimpArgs false
set_option linter.unusedVariables false
namespace Go.Proofs.YtkmcodofnckdmaaGreat
open Go.RowKit Go.Maps
theorem z5a(o:Ol):foB o=(!(decide (0<o.ps.length)&&decide (0<o.cs.length))&&(coF o.cs&&(decide (o.ps.length<=6)&&o.ps.all paF))):=by
 unfold foB coF
 generalize decide (0<o.cs.length)=b1
 generalize decide (0<o.ps.length)=b2
 generalize decide (o.cs.length<=10)=b3
 generalize decide (o.ps.length<=6)=b4
 generalize o.cs.all _=b5
 generalize decide (o.cs.flatten.length<=80)=b6
 generalize o.cs.flatten.all pnF=b7
 generalize o.ps.all paF=b8
 revert b1 b2 b3 b4 b5 b6 b7 b8
 decide
theorem zfa(S:Nat->Prop)(a:OA)(ca:Nat)(b:OA)(cb:Nat)(o:Ol)(w:World)(hc:Gr PnE.row S w a ca o.cs)(hp:Gr PaE S w b cb o.ps) :
 Calls Tryz.prog 101 #[.agg #[.slice a o.cs.length ca,.slice b o.ps.length cb]] w fun e w'=>e=.returned (.bool (foB o))/\Below w.heap.size w w':=by
 have k1:=hc.lenB
 have k2:=hp.lenB
 have HE:Hid (_):=z5a o
 obtain⟨W,hW,X1,hbW⟩:∃W,W=w.alloc (.cells #[.slice a o.cs.length ca,.slice b o.ps.length cb] 57)/\Bk 57 W w.heap.size [.slice a o.cs.length ca,.slice b o.ps.length cb]/\Below w.heap.size w W:=⟨_,rfl,Bk.new _ _ _,bl1 _⟩
 have hc1:=zqc S a ca o.cs W (hc.below hbW)
 have hp1:=fun U (h:Below W.heap.size W U)=>zmj S b cb o.ps U ((hp.below hbW).below h)
 clear hc hp
 by_cases h2:0<o.ps.length
 . have e1:decide (0<o.ps.length)=true:=decide_eq_true h2
   have g1:decide ((0:Int)<(o.ps.length:Int))=true:=decide_eq_true (by omega)
   by_cases h1:0<o.cs.length
   . have e2:decide (0<o.cs.length)=true:=decide_eq_true h1
     have g2:decide ((0:Int)<(o.cs.length:Int))=true:=decide_eq_true (by omega)
     have HF:Hid (foB o=false):=by show _=_;rw[HE.out,e1,e2];rfl
     clear HE hc1 hp1;obtain⟨x0,x1,_⟩:=X1.two
     go_enter Tryz.func101,Tryz.ntmps101
     go_wp2
     go_ret
     exact⟨zaa HF.out.symm,bl1 _⟩
   . have e2:decide (0<o.cs.length)=false:=decide_eq_false h1
     have g2:decide ((0:Int)<(o.cs.length:Int))=false:=decide_eq_false (by omega)
     have HF:Hid (foB o=(coF o.cs&&(decide (o.ps.length<=6)&&o.ps.all paF))):=by show _=_;rw[HE.out,e2,Bool.and_false];rfl
     clear HE
     generalize coF o.cs=q1 at *
     generalize (decide (o.ps.length<=6)&&o.ps.all paF)=q2 at *
     go_enter Tryz.func101,Tryz.ntmps101
     go_wp2_with fail
     rw[<-hW];clear hW
     refine hc1.mono ?_
     rintro e u1 ⟨rfl,hb1⟩
     replace hbW:Below w.heap.size w u1:=hbW.trans (hb1.mono hbW.size)
     replace hp1:=hp1 u1 hb1
     replace X1:=X1.below hb1;clear hc1 hb1;obtain⟨x0,x1,_⟩:=X1.two
     cases q1 with
     | false =>
      go_wp2
      go_ret
      exact⟨zaa HF.out.symm,hbW⟩
     | true =>
      go_wp2_with fail
      refine hp1.mono ?_
      rintro e u2 ⟨rfl,hb2⟩
      replace hbW:Below w.heap.size w u2:=hbW.trans (hb2.mono hbW.size)
      go_wp2
      go_ret
      exact⟨zaa (by rw[HF.out,Bool.true_and]),hbW⟩
 . have e1:decide (0<o.ps.length)=false:=decide_eq_false h2
   have g1:decide ((0:Int)<(o.ps.length:Int))=false:=decide_eq_false (by omega)
   have HF:Hid (foB o=(coF o.cs&&(decide (o.ps.length<=6)&&o.ps.all paF))):=by show _=_;rw[HE.out,e1,Bool.false_and];rfl
   clear HE
   generalize coF o.cs=q1 at *
   generalize (decide (o.ps.length<=6)&&o.ps.all paF)=q2 at *
   go_enter Tryz.func101,Tryz.ntmps101
   go_wp2_with fail
   rw[<-hW];clear hW
   refine hc1.mono ?_
   rintro e u1 ⟨rfl,hb1⟩
   replace hbW:Below w.heap.size w u1:=hbW.trans (hb1.mono hbW.size)
   replace hp1:=hp1 u1 hb1
   replace X1:=X1.below hb1;clear hc1 hb1;obtain⟨x0,x1,_⟩:=X1.two
   cases q1 with
   | false =>
    go_wp2
    go_ret
    exact⟨zaa HF.out.symm,hbW⟩
   | true =>
    go_wp2_with fail
    refine hp1.mono ?_
    rintro e u2 ⟨rfl,hb2⟩
    replace hbW:Below w.heap.size w u2:=hbW.trans (hb2.mono hbW.size)
    go_wp2
    go_ret
    exact⟨zaa (by rw[HF.out,Bool.true_and]),hbW⟩
theorem zqn(z:Array Value)(n:Nat):(Builtin.zeroCells z n).size=n*z.size:=by simp[Builtin.zeroCells]
theorem zuc(n:Nat)(w:World)(hn:n<=1000000) :
 Calls Tryz.prog 235 #[.slice none 0 0,.int .i64 (n:Int)] w fun e w'=>∃v,e=.returned v/\(∀S,Gw PnE 65 w.heap.size S w' v [])/\Below w.heap.size w w':=by
 by_cases h0:n=0
 . subst h0
   go_enter Tryz.func235,Tryz.ntmps235
   go_wp2
   go_ret
   exact⟨_,rfl,fun S=>Gw.nil _ _ _ _ _,Below.refl _ _⟩
 have h1:¬((n:Int)<0):=by omega
 have h2:(0:Int)<(n:Int):=by omega
 obtain⟨i0,hi,hz0,hz1,hz2⟩:=info_parts zcx
 have hold:=run_firstCells_none (P:=Tryz.prog) w.drew i0.size 0 0 0
 have hrz:∀ty,(Builtin.append_ #[63,3] ty #[.slice none 0 0,.int .i64 (n:Int)]).run Tryz.prog w=_:=fun ty=>Lib.run_append_grow_zeros w 63 3 ty 65 i0 _ .i64 .i64 Tryz.underlying63 Tryz.underlying3 hi hz0 none 0 0 [] hold n (by omega) (by omega) (by omega) (by omega) (by rw[hz2];omega) (growslice_fits (by omega) (by rw[hz2];omega))
 simp only[Nat.zero_add]at hrz
 have hGn:n<=grownCap w n 0 65:=grownCap_ge w _ _ _
 obtain⟨G,hG⟩:∃G,G=grownCap w n 0 65:=⟨_,rfl⟩
 rw[<-hG]at hrz hGn
 have hG63:G<=9223372036854775807:=by
  have:=grownCap_le_maxLen w n 0 65 (by unfold maxLen;omega)
  rw[<-hG]at this
  unfold maxLen at this
  omega
 obtain⟨Z,hZ⟩:∃Z,(([]:LV).toArray++Builtin.zeroCells (Value.agg #[.int .i64 0,.int .i64 0,.bool false]).cells n++Builtin.zeroCells (Value.agg #[.int .i64 0,.int .i64 0,.bool false]).cells (G-n))=Z:=⟨_,rfl⟩
 have hZs:Z.size=G*3:=by
  rw[<-hZ]
  simp only[Array.size_append,zqn]
  show 0+n*3+(G-n)*3=G*3
  omega
 rw[hZ]at hrz;clear hold hG hi hz0 hz1 hz2 h0 hZ
 go_enter Tryz.func235,Tryz.ntmps235
 go_wp2_with (at_builtin;refine Lib.wpList_append_run _ rfl _ _ _ _ rfl _ _ rfl rfl _ _ (hrz _) ?_)
 go_ret
 refine⟨_,rfl,fun S=>Gw.made ⟨rfl,.inr ⟨w.heap.size,G,Z,rfl,Nat.le_refl _,?_,Nat.zero_le _,by unfold maxLen;omega,hZs,rfl⟩⟩,?_⟩
 . exact heap_alloc_new w _
 . exact(bl1 _).drew
theorem Gr.anyP{S S':Nat->Prop}{w:World}{a:OA}{cap:Nat}{l:List Pn}(h:Gr PnE S w a cap l):Gr PnE S' w a cap l:=by
 refine⟨h.1,h.2.1,h.2.2.1,fun i hi=>?_⟩
 obtain⟨b,off,vs,e,hb,hr,hc⟩:=h.2.2.2 i hi
 exact⟨b,off,vs,e,hb,zaz.2 (zaz.1 hr),hc⟩
theorem Gr.anyA{S S':Nat->Prop}{w:World}{a:OA}{cap:Nat}{l:List Pa}(h:Gr PaE S w a cap l):Gr PaE S' w a cap l:=by
 refine⟨h.1,h.2.1,h.2.2.1,fun i hi=>?_⟩
 obtain⟨b,off,vs,e,hb,hr,hc⟩:=h.2.2.2 i hi
 exact⟨b,off,vs,e,hb,zcf.2 (zcf.1 hr),hc⟩
theorem zdz{cs:List (List Pn)}{k:Nat}{c:List Pn}(hk:k<cs.length)(hc:cs.getD k []=c):(cs.take (k+1)).flatten=(cs.take k).flatten++c:=by
 rw[zaj (d:=[]) hk,List.flatten_append,List.flatten_singleton,hc]
theorem zmq(S:Nat->Prop)(a:OA)(ca:Nat)(cs:List (List Pn))(w:World)(h:Gr PnE.row S w a ca cs)(hl:cs.flatten.length<=100000) :
 Calls Tryz.prog 185 #[.slice a cs.length ca] w fun e w'=>∃a' c',e=.returned (.slice a' cs.flatten.length c')/\Gr PnE (fun _=>True) w' a' c' cs.flatten/\(∀b o,a'=some ⟨b,o,none⟩->w.heap.size<=b/\b<w'.heap.size)/\Below w.heap.size w w':=by
 have k2:=h.lenB
 have HH:Hid (Gr PnE.row S w a ca cs):=h
 clear h
 go_enter Tryz.func185,Tryz.ntmps185
 go_wp2
 go_loopw [3,11] (fun n i wr=>∃k m:Nat,k<=cs.length/\i=.int .i64 k/\n=.int .i64 (m:Int)/\m=((cs.take k).flatten).length/\w=wr) (fun _ i _=>cs.length-(intOf i).toNat)
 case atStart=>exact⟨0,0,Nat.zero_le _,rfl,rfl,rfl,rfl⟩
 case round =>
  obtain⟨k,m,hk,rfl,rfl,hm,rfl⟩:=hrel
  have HM:Hid (m=((cs.take k).flatten).length):=hm
  clear hm
  by_cases hkn:k<cs.length
  . obtain⟨b,off,a1,c1,ea,hb,d0,hrow,hlb,_⟩:=HH.out.rw (Below.refl _ _) k hkn
    subst ea
    have hst:=zan hkn
    have hle:=zay cs (k+1)
    rw[<-HM.out]at hst
    obtain⟨c,hc⟩:∃c,cs.getD k []=c:=⟨_,rfl⟩
    rw[hc]at d0 hst hlb
    have HM2:Hid (m+c.length=((cs.take (k+1)).flatten).length):=hst.symm
    have hmc:m+c.length<=100000:=by omega
    have i1:(0:Int)<=(k:Int):=by omega
    have i2:(k:Int)<(cs.length:Int):=by omega
    have i3:¬(m:Int)+(c.length:Int)<0:=by omega
    clear hc hst hle hrow HM hlb;go_wp2
    go_roundw
    case rel=>exact⟨k+1,m+c.length,by omega,by go_num,by go_num,HM2.out,trivial⟩
    case measure=>simp[intOf];omega
  . obtain rfl:k=cs.length:=by omega
    have hm:m=cs.flatten.length:=by rw[HM.out,List.take_length]
    have g4:¬(cs.length:Int)<(cs.length:Int):=by omega
    have hgr:=zuc m w (by omega)
    clear HM hm
    go_wp2_with fail
    refine hgr.mono ?_
    rintro e u1 ⟨v1,rfl,hT0,hb1⟩
    have HT0:Hid (Gw PnE 65 w.heap.size (fun _=>True) u1 v1 []):=hT0 _
    have HB1:Hid (Below w.heap.size w u1):=hb1
    clear hgr hT0 hb1 hk hkn;go_wp2
    go_loopw [6,27] (fun v i wr=>∃k:Nat,k<=cs.length/\i=.int .i64 k/\Gw PnE 65 w.heap.size (fun _=>True) wr v ((cs.take k).flatten)/\Below w.heap.size w wr) (fun _ i _=>cs.length-(intOf i).toNat)
    case atStart=>exact⟨0,Nat.zero_le _,rfl,HT0.out,HB1.out⟩
    case round =>
     clear HT0 HB1;obtain⟨k,hk,rfl,hT,hB⟩:=hrel;obtain⟨a2,c2,rfl,hgr,hblk⟩:=hT.slice
     have HT:Hid (Gw PnE 65 w.heap.size (fun _=>True) wr (.slice a2 ((cs.take k).flatten).length c2) ((cs.take k).flatten)):=hT
     clear hT
     by_cases hkn:k<cs.length
     . obtain⟨b,off,a1,c1,ea,hb,d0,hrow,hlb,_⟩:=HH.out.rw hB k hkn
       subst ea
       have hst:=zan hkn
       have hle:=zay cs (k+1)
       obtain⟨c,hc⟩:∃c,cs.getD k []=c:=⟨_,rfl⟩
       have HS:Hid (_):=zdz hkn hc
       rw[hc]at d0 hst hlb hrow
       have hll:((cs.take k).flatten).length+c.length<=1000000:=by omega
       have i1:(0:Int)<=(k:Int):=by omega
       have i2:(k:Int)<(cs.length:Int):=by omega
       have hbs:w.heap.size<=wr.heap.size:=hB.size
       clear hc hst hle hlb hgr hblk
       generalize (cs.take k).flatten=L at *
       go_wp2_with (at_builtin;refine zad 63 65 Tryz.underlying63 zcx rfl (by decide) (by decide) rfl _ _ rfl w.heap.size (fun _=>True) _ L rfl HT.out a1 c1 _ c rfl rfl hrow.anyP hll hbs ?_)
       intro v9 w9 hT9 hgrow _
       have hB9:Below w.heap.size w w9:=hB.grown hgrow hbs (fun k hk=>(HT.out.lo hk).1)
       rw[<-HS.out]at hT9;clear hgrow hbs hll HS;go_wp2
       go_roundw
       case rel=>exact⟨k+1,by omega,by go_num,hT9,hB9⟩
       case measure=>simp[intOf];omega
     . obtain rfl:k=cs.length:=by omega
       rw[List.take_length]at HT hgr ⊢
       have HB2:Hid (∀b o,a2=some ⟨b,o,none⟩->w.heap.size<=b/\b<wr.heap.size):=hblk
       have g4:¬(cs.length:Int)<(cs.length:Int):=by omega
       clear hblk;go_wp2
       go_ret
       exact⟨a2,c2,rfl,hgr,HB2.out,hB⟩
theorem zdj(S:Nat->Prop)(a:OA)(ca:Nat)(vb:Value)(cs:List (List Pn))(w:World)(h:Gr PnE.row S w a ca cs)(hl:cs.flatten.length<=100000)(hv:vb.cells=#[vb]) :
 Calls Tryz.prog 128 #[.agg #[.slice a cs.length ca,vb]] w fun e w'=>∃a' c',e=.returned (.slice a' cs.flatten.length c')/\Gr PnE (fun _=>True) w' a' c' cs.flatten/\(∀b o,a'=some ⟨b,o,none⟩->w.heap.size<=b/\b<w'.heap.size)/\Below w.heap.size w w':=by
 obtain⟨W,hW,X1,hbW⟩:∃W,W=w.alloc (.cells #[.slice a cs.length ca,vb] 57)/\Bk 57 W w.heap.size [.slice a cs.length ca,vb]/\Below w.heap.size w W:=⟨_,rfl,Bk.new _ _ _,bl1 _⟩
 have hc1:=zmq S a ca cs W (h.below hbW) hl
 obtain⟨x0,x1,_⟩:=X1.two;clear X1 h
 generalize cs.flatten=L at *
 go_enter Tryz.func128,Tryz.ntmps128
 go_wp2_with fail
 rw[<-hW];clear hW
 refine hc1.mono ?_
 rintro e u1 ⟨a1,c1,rfl,hg,hblk,hb1⟩
 have HBK:Hid (∀b o,a1=some ⟨b,o,none⟩->w.heap.size<=b/\b<u1.heap.size):=fun b o e=>⟨Nat.le_trans hbW.size (hblk b o e).1,(hblk b o e).2⟩
 replace hbW:Below w.heap.size w u1:=hbW.trans (hb1.mono hbW.size)
 clear hc1 hb1 hblk;go_wp2
 go_ret
 exact⟨a1,c1,rfl,hg,HBK.out,hbW⟩
theorem zk2{cs:List (List Pn)}{k:Nat}{c:List Pn}(hk:k<cs.length)(hc:cs.getD k []=c):endF 0 (cs.take (k+1))=endF 0 (cs.take k)++[(((cs.take k).flatten).length:Int)+(c.length:Int)-1]:=by
 rw[zaj (d:=[]) hk,zg4,hc]
 simp[endF]
theorem zk7(S:Nat->Prop)(a:OA)(ca:Nat)(vb:Value)(cs:List (List Pn))(w:World)(h:Gr PnE.row S w a ca cs)(hl:cs.flatten.length<=100000)(hn:cs.length<=100000)(hv:vb.cells=#[vb]) :
 Calls Tryz.prog 131 #[.agg #[.slice a cs.length ca,vb]] w fun e w'=>∃a' c',e=.returned (.slice a' (endF 0 cs).length c')/\Ri w' a' c' (endF 0 cs)/\(∀b o,a'=some ⟨b,o,none⟩->w.heap.size<=b/\b<w'.heap.size)/\Below w.heap.size w w':=by
 obtain⟨W,hW,X1,hbW⟩:∃W,W=w.alloc (.cells #[.slice a cs.length ca,vb] 57)/\Bk 57 W w.heap.size [.slice a cs.length ca,vb]/\Below w.heap.size w W:=⟨_,rfl,Bk.new _ _ _,bl1 _⟩
 obtain⟨i0,hi0,hz0,hz1,hz2⟩:=info_parts zcc
 obtain⟨w1,hmk,hown,hgrow⟩:=run_makeSlice_owned W w.heap.size 29 3 i0 _ 1 Tryz.underlying29 hi0 hz0 hz1 .i64 .i64 cs.length (by omega) (by rw[hz2];omega) (by unfold maxLen;omega) hbW.size
 have hI0:Io w.heap.size w1 (.slice (some ⟨W.heap.size,0,none⟩) 0 cs.length) (endF 0 (cs.take 0)):=⟨fun t ht=>(by cases ht),hown⟩
 have hB1:Below W.heap.size W w1:=(Below.refl _ _).grown hgrow (Nat.le_refl _) (fun k hk=>by cases hk)
 have X2:=X1.below hB1
 obtain⟨x0,x1,_⟩:=X1.two;obtain⟨y0,y1,_⟩:=X2.two
 have HH:Hid (Gr PnE.row S w a ca cs):=h
 have HB0:Hid (Below w.heap.size w w1):=hbW.trans (hB1.mono hbW.size)
 clear h hown hgrow hi0 hz0 hz1 hz2 X1 X2 hB1
 have hsz:W.heap.size=w.heap.size+1:=by rw[hW];simp
 rw[hsz]at hmk hI0;rw[hW]at hmk;clear hsz
 go_enter Tryz.func131,Tryz.ntmps131
 go_wp2;clear hW x0 x1 y0 y1 hbW hmk
 go_loopw [3,4,14] (fun v la i wr=>∃k m:Nat,k<=cs.length/\i=.int .i64 k/\la=.int .i64 ((m:Int)-1)/\m=((cs.take k).flatten).length/\Io w.heap.size wr v (endF 0 (cs.take k))/\Below w.heap.size w wr) (fun _ _ i _=>cs.length-(intOf i).toNat)
 case atStart=>exact⟨0,0,Nat.zero_le _,rfl,rfl,rfl,hI0,HB0.out⟩
 case round =>
  clear hI0 HB0;obtain⟨k,m,hk,rfl,rfl,hm,hT,hB⟩:=hrel;obtain⟨a2,c2,rfl,hts⟩:=hT.slice
  have hlen:(endF 0 (cs.take k)).length=k:=by rw[zbo,List.length_take];omega
  have HM:Hid (m=((cs.take k).flatten).length):=hm
  have HT:Hid (Io w.heap.size wr (.slice a2 (endF 0 (cs.take k)).length c2) (endF 0 (cs.take k))):=hT
  have hll:(endF 0 (cs.take k)).length+1<=1000000:=by omega
  clear hm hT hlen
  by_cases hkn:k<cs.length
  . obtain⟨b,off,a1,c1,ea,hb,d0,hrow,hlb,_⟩:=HH.out.rw hB k hkn
    subst ea
    have hst:=zan hkn
    have hle:=zay cs (k+1)
    rw[<-HM.out]at hst
    obtain⟨c,hc⟩:∃c,cs.getD k []=c:=⟨_,rfl⟩
    have HS:Hid (_):=zk2 hkn hc
    rw[<-HM.out]at HS;rw[hc]at d0 hst hlb
    have HM2:Hid (m+c.length=((cs.take (k+1)).flatten).length):=hst.symm
    have hmc:m+c.length<=100000:=by omega
    have i1:(0:Int)<=(k:Int):=by omega
    have i2:(k:Int)<(cs.length:Int):=by omega
    obtain⟨y,hy⟩:∃y,(m:Int)+(c.length:Int)-1=y:=⟨_,rfl⟩
    have hy2:(m:Int)-1+(c.length:Int)=y:=by omega
    have HY:Hid (((m+c.length:Nat):Int)-1=y):=by show _=_;omega
    rw[hy]at HS
    have hyi:I64 y:=⟨by omega,by omega⟩
    have hT5:=HT.out.below (bl1 (.cells #[.int .i64 y] 3))
    have hN:=heap_alloc_new wr (.cells #[.int .i64 y] 3)
    have n0:=cell_of_row _ wr.heap.size 0 _ _ (0,0) hN
    have hbs:w.heap.size<=(wr.alloc (.cells #[.int .i64 y] 3)).heap.size:=Nat.le_trans hB.size (bl1 _).size
    clear hc hst hle hrow HM hlb hN hy hts
    generalize endF 0 (cs.take k)=L at *
    go_wp2_with (at_builtin;refine zal rfl _ _ rfl w.heap.size _ L rfl hT5 wr.heap.size y rfl n0 hyi hll hbs ?_)
    intro v' w9 hT9 hgrow
    have hB9:Below w.heap.size w w9:=(hB.alloc hB.size _).grown hgrow hbs (fun k hk=>HT.out.lo hk)
    rw[<-HS.out]at hT9;clear hgrow hT5 n0 hbs hll HS;go_wp2
    go_roundw
    case rel=>exact⟨k+1,m+c.length,by omega,by go_num,by rw[HY.out],HM2.out,hT9,hB9⟩
    case measure=>simp[intOf];omega
  . obtain rfl:k=cs.length:=by omega
    rw[List.take_length]at HT hts ⊢
    have HB2:Hid (∀b o,a2=some ⟨b,o,none⟩->w.heap.size<=b/\b<wr.heap.size):=fun b o e=>by
     subst e
     exact World.ownsRow.lt HT.out.2 b rfl
    have g4:¬(cs.length:Int)<(cs.length:Int):=by omega
    clear HM hll;go_wp2
    go_ret
    exact⟨a2,c2,rfl,hts,HB2.out,hB⟩
def Kp(g:Nat)(w w':World):Prop:=Keep (fun k=>k<w.heap.size/\k≠g) w w'
theorem Kp.refl(g:Nat)(w:World):Kp g w w:=Keep.refl _ _
theorem Kp.size{g:Nat}{w w':World}(h:Kp g w w'):w.heap.size<=w'.heap.size:=Keep.size h
theorem Kp.trans{g:Nat}{a b c:World}(h:Kp g a b)(k:Kp g b c):Kp g a c :=
 Keep.trans h (Keep.mono k (fun i hi=>⟨Nat.lt_of_lt_of_le hi.1 h.size,hi.2⟩))
theorem Kp.of{g:Nat}{w w':World}(h:Below w.heap.size w w'):Kp g w w':=Keep.of_below h (fun k hk=>hk.1)
theorem Kp.setCell{g:Nat}{a w:World}(h:Kp g a w)(j:Nat)(z:Value):Kp g a (w.setCell ⟨g,j,none⟩ z):=Keep.setCell h (p:=⟨g,j,none⟩) (fun e=>e.2 rfl) z
theorem Kp.below{g B:Nat}{w w':World}(h:Kp g w w')(h1:B<=w.heap.size)(h2:B<=g):Below B w w':=Keep.below h (fun k hk=>⟨by omega,by omega⟩)
theorem Kp.alloc{g:Nat}{a w:World}(h:Kp g a w)(o:Obj):Kp g a (w.alloc o):=h.trans (Kp.of (bl1 o))
theorem Kp.drew{g:Nat}{a w:World}(h:Kp g a w):Kp g a w.drew:=h.trans (Kp.of (Below.refl _ _).drew)
theorem Kp.grown{g:Nat}{a w w':World}{r:Option Nat}(h:Kp g a w)(hg:w.grownBy w' r)(hr:∀k,r=some k->a.heap.size<=k):Kp g a w' :=
 Keep.trans h ⟨hg.os,hg.tape,hg.output,hg.size,fun k hk=>hg.block k (Nat.lt_of_lt_of_le hk.1 h.size) (fun e=>by have:=hr k e.symm;omega)⟩
theorem Kp.block{g:Nat}{w w':World}(h:Kp g w w'){k:Nat}(h1:k<w.heap.size)(h2:k≠g):w'.heap[k]?=w.heap[k]?:=Keep.block h k ⟨h1,h2⟩
theorem Bk.kp{t:TypeId}{g b:Nat}{w w':World}{cs:LV}(h:Bk t w b cs)(hk:Kp g w w')(hb:b≠g):Bk t w' b cs:=(hk.block h.lt hb).trans h
theorem Bk.ne{t u:TypeId}{w:World}{g b:Nat}{cs ds:LV}(h:Bk t w b cs)(h2:Bk u w g ds)(ht:t≠u):b≠g:=by
 intro e
 subst e
 unfold Bk at h h2
 rw[h]at h2
 simp at h2
 exact ht h2.2
theorem Gw.kp{α:Type}{E:El α}{t u:TypeId}{base g:Nat}{w w':World}{v:Value}{l:List α}{cs:LV}(h:Gw E t base (fun _=>False) w v l)(hb:Bk u w g cs)(ht:u≠t)(hk:Kp g w w'):Gw E t base (fun _=>False) w' v l:=by
 refine h.stay hk.size (fun k h1=>h1.elim) (fun k hv=>hk.block (h.lo hv).2 (fun e=>?_))
 obtain⟨cur,k1⟩:=h.ty hv
 rw[e,hb]at k1
 simp at k1
 exact ht k1.2
theorem Gi.kp{u:TypeId}{base g:Nat}{w w':World}{v:Value}{l:LI}{cs:LV}(h:Gi base w v l)(hb:Bk u w g cs)(ht:u≠3)(hk:Kp g w w'):Gi base w' v l:=Gw.kp h hb ht hk
theorem Rb.keep'{w w':World}{a:OA}{cap:Nat}{xs:LN}(h:Rb w a cap xs)(hs:w.heap.size<=w'.heap.size)(hb:∀b o,b<w.heap.size->a=some ⟨b,o,none⟩->xs≠[]->w'.heap[b]?=w.heap[b]?):Rb w' a cap xs:=by
 by_cases h0:xs=[]
 . exact⟨h.1,h.2.1,h.2.2.1,h.2.2.2.1,.inl h0⟩
 . exact h.keep hs (fun b hb1 ⟨o,e⟩=>hb b o hb1 e h0)
def Sc(t:TypeId)(w:World)(g:Nat)(pa:OA)(pc:Nat)(xs:LN)(p:Nat):Prop :=
 Bk t w g [.slice pa xs.length pc,.int .i64 (p:Int)]/\Rb w pa pc xs/\∀b o,pa=some ⟨b,o,none⟩->xs≠[]->b≠g
theorem Sc.bk{t:TypeId}{w:World}{g:Nat}{pa:OA}{pc:Nat}{xs:LN}{p:Nat}(h:Sc t w g pa pc xs p):Bk t w g [.slice pa xs.length pc,.int .i64 (p:Int)]:=h.1
theorem Sc.rb{t:TypeId}{w:World}{g:Nat}{pa:OA}{pc:Nat}{xs:LN}{p:Nat}(h:Sc t w g pa pc xs p):Rb w pa pc xs:=h.2.1
theorem Sc.below{t:TypeId}{w w':World}{g:Nat}{pa:OA}{pc:Nat}{xs:LN}{p:Nat}(h:Sc t w g pa pc xs p)(hb:Below w.heap.size w w'):Sc t w' g pa pc xs p:=⟨h.1.below hb,h.2.1.below hb,h.2.2⟩
theorem Sc.step{t:TypeId}{w:World}{g:Nat}{pa:OA}{pc:Nat}{xs:LN}{p:Nat}(h:Sc t w g pa pc xs p)(q:Nat):Sc t (w.setCell ⟨g,1,none⟩ (.int .i64 (q:Int))) g pa pc xs q :=
 ⟨h.1.set 1 _,h.2.1.keep' (by simp[World.setCell]) (fun b o _ e hne=>Below.heap_setCell _ _ _ _ (fun e2=>h.2.2 b o e hne e2)),h.2.2⟩
theorem Sc.grown{t:TypeId}{w w':World}{g:Nat}{pa:OA}{pc:Nat}{xs:LN}{p:Nat}{r:Option Nat}(h:Sc t w g pa pc xs p)(hg:w.grownBy w' r)(hr:r≠some g)(hb:∀b o,pa=some ⟨b,o,none⟩->xs≠[]->r≠some b):Sc t w' g pa pc xs p :=
 ⟨h.1.grown hg hr,h.2.1.keep' hg.size (fun b o hb1 e hne=>hg.block b hb1 (fun e2=>hb b o e hne e2.symm)),h.2.2⟩
theorem Gw.low{α:Type}{E:El α}{t:TypeId}{base base':Nat}{S:Nat->Prop}{w:World}{v:Value}{l:List α}(h:Gw E t base S w v l)(hb:base'<=base):Gw E t base' S w v l:=by
 obtain⟨vss,hl,⟨k1,k2⟩,h4⟩:=h
 refine⟨vss,hl,⟨k1,?_⟩,h4⟩
 rcases k2 with k2|⟨g,cap,cur,e,hg,r⟩
 . exact .inl k2
 . exact .inr ⟨g,cap,cur,e,Nat.le_trans hb hg,r⟩
theorem Gw.form{α:Type}{E:El α}{t:TypeId}{base:Nat}{S:Nat->Prop}{w:World}{v:Value}{l:List α}(h:Gw E t base S w v l){q:Nat}(hq:v.ownBlock=some q):∃cap,v=.slice (some ⟨q,0,none⟩) l.length cap:=by
 obtain⟨vss,hl,⟨k1,k2⟩,h4⟩:=h
 rcases k2 with ⟨e,_⟩|⟨g,cap,cur,e,hg,r⟩
 . rw[e]at hq;cases hq
 . rw[e]at hq
   have:some g=some q:=hq
   injection this with this;subst this
   exact⟨cap,e⟩
theorem Gw.widenU{α:Type}{E:El α}{t:TypeId}{base:Nat}{S S':Nat->Prop}{w:World}{v:Value}{l:List α}(h:Gw E t base S w v l)(hS:∀k,S k->k<w.heap.size->S' k):Gw E t base S' w v l :=
 h.stay (Nat.le_refl _) (fun k h1 _ h2=>⟨hS k h1 h2,rfl⟩) (fun _ _=>rfl)
theorem Bk.set2U{t:TypeId}{w:World}{g:Nat}{x y:Value}(h:Bk t w g [x,y])(x' y':Value):Bk t ((w.setCell ⟨g,0,none⟩ x').setCell ⟨g,1,none⟩ y') g [x',y']:=(h.set 0 x').set 1 y'
theorem zac{w:World}{g b:Nat}(x' y':Value)(hb:b≠g):((w.setCell ⟨g,0,none⟩ x').setCell ⟨g,1,none⟩ y').heap[b]?=w.heap[b]?:=by
 rw[Below.heap_setCell _ _ _ _ (fun e=>hb e),Below.heap_setCell _ _ _ _ (fun e=>hb e)]
theorem zbi{w:World}{g:Nat}(x' y':Value):((w.setCell ⟨g,0,none⟩ x').setCell ⟨g,1,none⟩ y').heap.size=w.heap.size:=by simp[World.setCell]
def PkE:El (Nat×List Pn) where
 sz:=1
 dfl:=(0,[])
 rep:=fun S w vs x=>∃cap,vs=[.slice (some ⟨x.1,0,none⟩) x.2.length cap]/\S x.1/\Gw PnE 65 0 (fun _=>False) w (.slice (some ⟨x.1,0,none⟩) x.2.length cap) x.2/\x.2.length<=140737488351232
 len:=fun⟨cap,e,_⟩=>by rw[e];rfl
 one:=fun⟨cap,e,_⟩ u hu=>by rw[e]at hu;rw[List.mem_singleton.1 hu];rfl
 stay:=fun {S S' w w' vs x} ⟨cap,e,hS,h,hb⟩ hs hk=>by
  have hlt:=(h.lo (g:=x.1) rfl).2
  refine⟨cap,e,(hk x.1 hS hlt).1,h.stay hs (fun k h=>h.elim) (fun k hk'=>?_),hb⟩
  have hk2:some x.1=some k:=hk'
  injection hk2 with hk2;subst hk2
  exact(hk x.1 hS hlt).2
theorem z3j{S:Nat->Prop}{w:World}{vs:LV}{x:Nat×List Pn}(h:PkE.rep S w vs x):PnE.row.rep S w vs x.2:=by
 obtain⟨cap,e,hS,hg,hb⟩:=h;obtain⟨a,c,e2,hr,_⟩:=hg.slice;injection e2 with e3 e4 e5;subst e3 e5
 refine⟨_,_,e,fun b o e6 _=>?_,hr.anyP,hb⟩
 cases e6
 exact hS
theorem zxj{L:List (Nat×List Pn)}{i:Nat}(hi:i<L.length):(L.map Prod.snd).getD i []=(L.getD i (0,[])).2:=by simp[List.getD,hi]
theorem Gw.rows{t:TypeId}{base:Nat}{S:Nat->Prop}{w:World}{v:Value}{L:List (Nat×List Pn)}(h:Gw PkE t base S w v L):Gw PnE.row t base S w v (L.map Prod.snd):=by
 obtain⟨vss,hl,h3,h4⟩:=h
 refine⟨vss,by rw[List.length_map];exact hl,by rw[List.length_map];exact h3,fun i hi=>?_⟩
 rw[List.length_map]at hi
 rw[show PnE.row.dfl=[]from rfl,zxj hi]
 exact z3j (h4 i hi)
theorem Gw.ids{t:TypeId}{base:Nat}{S:Nat->Prop}{w:World}{v:Value}{L:List (Nat×List Pn)}(h:Gw PkE t base S w v L):∀x∈L,S x.1/\x.1<w.heap.size:=by
 obtain⟨vss,hl,h3,h4⟩:=h
 intro x hx
 obtain⟨i,hi,e⟩:=List.getElem_of_mem hx
 obtain⟨cap,e1,hS,hg,hb⟩:=h4 i hi
 have e2:L.getD i PkE.dfl=x:=by rw[List.getD_eq_getElem?_getD,List.getElem?_eq_getElem hi,Option.getD_some,e]
 rw[e2]at hS hg
 exact⟨hS.1,(hg.lo rfl).2⟩
theorem zzq{S:Nat->Prop}{w:World}{base q cap:Nat}{c:List Pn}(h:Gw PnE 65 base (fun _=>False) w (.slice (some ⟨q,0,none⟩) c.length cap) c)(hS:S q)(hb:c.length<=140737488351232):PkE.rep S w [.slice (some ⟨q,0,none⟩) c.length cap] (q,c) :=
 ⟨cap,rfl,hS,h.low (Nat.zero_le _),hb⟩
theorem zhq{L:List (Nat×List Pn)}{x:Nat×List Pn}(h:(L.map Prod.fst).Nodup)(hx:∀y∈L,y.1≠x.1):((L++[x]).map Prod.fst).Nodup:=by
 rw[List.map_append,List.nodup_append]
 refine⟨h,by simp,fun a ha b hb=>?_⟩
 obtain⟨y,hy,rfl⟩:=List.mem_map.1 ha
 have:b=x.1:=by simpa using hb
 rw[this]
 exact hx y hy
theorem zsp{L M:List (Nat×List Pn)}(h:(L.map Prod.fst).Nodup)(k:(M.map Prod.fst).Nodup)(hx:∀x∈L,∀y∈M,x.1≠y.1):((L++M).map Prod.fst).Nodup:=by
 rw[List.map_append,List.nodup_append]
 refine⟨h,k,fun a ha b hb=>?_⟩
 obtain⟨x,hx1,rfl⟩:=List.mem_map.1 ha
 obtain⟨y,hy1,rfl⟩:=List.mem_map.1 hb
 exact hx x hx1 y hy1
def rawE(v:Value):Option (DataW Value×List MemPlace):=some (.held v,[])
theorem keyN:Keyed Tryz.prog 3:=int_keyed Tryz.underlying3
theorem wfI{z:Int}(h:I64 z):(Lit.int .i64 z).wf=true:=WalkArith.wf_i64 h
theorem zn0{z:Int}(h:I64 z):keyOf Tryz.prog 3 (.int .i64 z)=some (.int .i64 z):=keyOf_int_mk Tryz.underlying3 (wfI h)
theorem zuk{D:DataW Value}{k:Lit}(h:Maps.has D k=false)(z:DataW Value):D.atKey k z=z:=by
 cases D <;> try rfl
 rename_i es
 have h2:es.any (fun p=>p.1.sameKey k)=false:=h
 have h3:es.find? (fun p=>p.1.sameKey k)=none:=List.find?_eq_none.2 (fun p hp=>by
  have:=List.any_eq_false.1 h2 p hp
  simpa using this)
 unfold DataW.atKey
 simp only[h3]
def Mp(w:World)(b n:Nat)(F:Int->Option Value):Prop:=∃D:DataW Value,w.ownsMap Tryz.prog 3 rawE b n D/\∀z,Maps.has D (.int .i64 z)=(F z).isSome/\∀v,F z=some v->∀zd,D.atKey (.int .i64 z) zd=.held v
theorem Mp.made(w:World):Mp (w.alloc (.map #[] 0)) w.heap.size 0 (fun _=>none):=⟨_,World.ownsMap_made w Tryz.prog 3 rawE,fun z=>⟨by simp[Maps.has],fun v e=>by cases e⟩⟩
theorem Mp.lt{w:World}{b n:Nat}{F:Int->Option Value}(h:Mp w b n F):b<w.heap.size:=by
 obtain⟨D,h1,_⟩:=h
 exact h1.lt
theorem Mp.stay{w w':World}{b n:Nat}{F:Int->Option Value}(h:Mp w b n F)(hb:w'.heap[b]?=w.heap[b]?):Mp w' b n F:=by
 obtain⟨D,⟨es,clock,k1,k2⟩,h2⟩:=h
 exact⟨D,⟨es,clock,hb.trans k1,k2⟩,h2⟩
theorem Mp.below{w w':World}{b n:Nat}{F:Int->Option Value}(h:Mp w b n F)(hb:Below w.heap.size w w'):Mp w' b n F:=h.stay (hb.block b h.lt)
theorem Mp.mono{w:World}{b n m:Nat}{F:Int->Option Value}(h:Mp w b n F)(hn:n<=m):Mp w b m F:=by
 obtain⟨D,h1,h2⟩:=h
 exact⟨D,h1.mono hn,h2⟩
theorem zc2{w:World}{ops:Array Oper}{rest:List Oper}{o:Oper}{a:Act}{Q:Exit->Act->World->Prop}(t e:TypeId)(ht:Tryz.prog.underlying t=some (.map 3 e)){z0:Value}(hz:(zeroValue e).run Tryz.prog w=.ok z0 w)
    (hg:o.guard=none) (m x:Operand) (hop:o.op=Op.lookup t m x true) (b n:Nat) (F:Int->Option Value) (z:Int) (hi:I64 z) (h:Mp w b n F) (hm:a.eval m=.map (some b)) (hx:a.eval x=.int .i64 z) (v:Value) (hF:F z=some v)
    (hK:wpList Tryz.prog ops Q rest (a.put o.dst (.tuple #[v,.bool true])) w):wpList Tryz.prog ops Q (o::rest) a w:=by
 obtain⟨D,h1,h2⟩:=h
 refine wpList_lookup_own_ok w hg m x t hop 3 e keyN ht rawE hz (.held z0) [] rfl b n D hm h1 _ _ hx (zn0 hi) (fun u ps hu=>?_)
 obtain⟨k1,k2⟩:=h2 z
 rw[k2 v hF]at hu
 have:u=v:=by unfold rawE at hu;simp at hu;exact hu.1
 rw[this,k1,hF]
 exact hK
theorem zc3{w:World}{ops:Array Oper}{rest:List Oper}{o:Oper}{a:Act}{Q:Exit->Act->World->Prop}(t e:TypeId)(ht:Tryz.prog.underlying t=some (.map 3 e)){z0:Value}(hz:(zeroValue e).run Tryz.prog w=.ok z0 w)
    (hg:o.guard=none) (m x:Operand) (hop:o.op=Op.lookup t m x true) (b n:Nat) (F:Int->Option Value) (z:Int) (hi:I64 z) (h:Mp w b n F) (hm:a.eval m=.map (some b)) (hx:a.eval x=.int .i64 z) (hF:F z=none)
    (hK:wpList Tryz.prog ops Q rest (a.put o.dst (.tuple #[z0,.bool false])) w):wpList Tryz.prog ops Q (o::rest) a w:=by
 obtain⟨D,h1,h2⟩:=h
 obtain⟨k1,k2⟩:=h2 z
 have hno:Maps.has D (.int .i64 z)=false:=by rw[k1,hF];rfl
 have hat:D.atKey (.int .i64 z) (.held z0)=.held z0:=zuk hno _
 refine wpList_lookup_own_ok w hg m x t hop 3 e keyN ht rawE hz (.held z0) [] rfl b n D hm h1 _ _ hx (zn0 hi) (fun u ps hu=>?_)
 rw[hat]at hu
 have:u=z0:=by unfold rawE at hu;simp at hu;exact hu.1
 rw[this,hno]
 exact hK
def Fup(F:Int->Option Value)(z:Int)(v:Value):Int->Option Value:=fun y=>if y=z then some v else F y
theorem zh6{w:World}{ops:Array Oper}{rest:List Oper}{o:Oper}{a:Act}{Q:Exit->Act->World->Prop}(t e:TypeId)(ht:Tryz.prog.underlying t=some (.map 3 e))
    (hg:o.guard=none) (m x y:Operand) (hop:o.op=Op.mapUpdate t m x y) (b n:Nat) (F:Int->Option Value) (z:Int) (v:Value) (hi:I64 z) (h:Mp w b n F) (hn:n<=1000000000000) (hm:a.eval m=.map (some b)) (hx:a.eval x=.int .i64 z) (hy:a.eval y=v)
    (hK:∀w',Mp w' b (n+1) (Fup F z v)->w.grownBy w' (some b)->wpList Tryz.prog ops Q rest (a.put o.dst undef) w'):wpList Tryz.prog ops Q (o::rest) a w:=by
 obtain⟨D,h1,h2⟩:=h
 have hmap:=h1.isMap
 refine wpList_mapUpdate_own w hg m x y t hop 3 e keyN ht rawE b n D hm h1 (by unfold maxLen;omega) _ _ _ hx hy (zn0 hi) (.held v) [] rfl (fun w' k1 k2=>hK w' ⟨_,k1,fun u=>?_⟩ k2)
 unfold Fup
 by_cases hu:u=z
 . subst hu
   rw[if_pos rfl]
   refine⟨has_put_same hmap (show WideAt.IsKeyLit (.int .i64 u)from trivial) _,fun v' e' zd=>?_⟩
   rw[<-Option.some.inj e']
   exact atKey_put_same hmap (show WideAt.IsKeyLit (.int .i64 u)from trivial) _ _
 . rw[if_neg hu]
   have hne:(Lit.int .i64 u)≠.int .i64 z:=fun e'=>hu (by injection e')
   refine⟨(has_put_other hne _).trans (h2 u).1,fun v' e' zd=>?_⟩
   rw[atKey_put_other hne]
   exact(h2 u).2 v' e' zd
theorem zqr{w:World}{o:Oper}{a:Act}{K:Act->World->Prop}{Q:Exit->Act->World->Prop}(t e:TypeId)(ht:Tryz.prog.underlying t=some (.map 3 e))
    (m x y:Operand) (hop:o.op=Op.mapUpdate t m x y) (b n:Nat) (F:Int->Option Value) (z:Int) (v:Value) (hi:I64 z) (h:Mp w b n F) (hn:n<=1000000000000) (hm:a.eval m=.map (some b)) (hx:a.eval x=.int .i64 z) (hy:a.eval y=v)
    (hK:∀w',Mp w' b (n+1) (Fup F z v)->w.grownBy w' (some b)->K (a.put o.dst undef) w'):o.wp Tryz.prog a w K Q:=by
 obtain⟨D,h1,h2⟩:=h
 have hmap:=h1.isMap
 obtain⟨w',hrun,k1,k2⟩:=h1.update keyN ht (by unfold maxLen;omega) (zn0 hi) (show rawE v=some (.held v,[])from rfl)
 unfold Oper.wp
 simp[execOp,hop,hm,hx,hy,hrun,Result.andThen]
 refine hK w' ⟨_,k1,fun u=>?_⟩ k2
 unfold Fup
 by_cases hu:u=z
 . subst hu
   rw[if_pos rfl]
   refine⟨has_put_same hmap (show WideAt.IsKeyLit (.int .i64 u)from trivial) _,fun v' e' zd=>?_⟩
   rw[<-Option.some.inj e']
   exact atKey_put_same hmap (show WideAt.IsKeyLit (.int .i64 u)from trivial) _ _
 . rw[if_neg hu]
   have hne:(Lit.int .i64 u)≠.int .i64 z:=fun e'=>hu (by injection e')
   refine⟨(has_put_other hne _).trans (h2 u).1,fun v' e' zd=>?_⟩
   rw[atKey_put_other hne]
   exact(h2 u).2 v' e' zd
theorem zbr(a:OA)(cap:Nat)(r:LI)(w:World)(h:Ri w a cap r) :
 Calls Tryz.prog 227 #[.slice a r.length cap] w fun e w'=>e=.returned (.bool (r.all fdB))/\w=w':=by
 have k2:=h.lenB
 have HH:Hid (Ri w a cap r):=h
 clear h
 go_enter Tryz.func227,Tryz.ntmps227
 go_wp2
 go_loopw [7] (fun i wr=>∃k:Nat,k<=r.length/\i=.int .i64 k/\(∀j,j<k->fdB (r.getD j 0)=true)/\w=wr) (fun i _=>r.length-(intOf i).toNat)
 case atStart=>exact⟨0,Nat.zero_le _,rfl,(fun j hj=>by omega),rfl⟩
 case round =>
  obtain⟨k,hk,rfl,hok,rfl⟩:=hrel
  have HOK:Hid (∀j,j<k->fdB (r.getD j 0)=true):=hok
  clear hok
  by_cases hkn:k<r.length
  . obtain⟨b,off,ea,hb,d0⟩:=HH.out.at (Below.refl _ _) k hkn
    subst ea
    obtain⟨z,hzz⟩:∃z,r.getD k 0=z:=⟨_,rfl⟩
    have HZ:Hid (r.getD k 0=z):=hzz
    rw[hzz]at d0
    have i1:(0:Int)<=(k:Int):=by omega
    have i2:(k:Int)<(r.length:Int):=by omega
    have hw1:=zf8 z
    have hw2:=zew z
    clear hzz
    cases hf:fdB z with
    | false =>
     have HF:Hid (r.all fdB=false):=zhf hkn (by rw[HZ.out];exact hf)
     rw[hf]at hw2;clear hf HZ HOK;go_wp2
     go_ret
     exact⟨zaa HF.out.symm,rfl⟩
    | true =>
     have zea:Hid (∀j,j<k+1->fdB (r.getD j 0)=true):=za4 HOK.out (by rw[HZ.out];exact hf)
     rw[hf]at hw2;clear hf HZ HOK;go_wp2
     go_roundw
     case rel=>exact⟨k+1,by omega,by go_num,zea.out,trivial⟩
     case measure=>simp[intOf];omega
  . obtain rfl:k=r.length:=by omega
    have HF:Hid (r.all fdB=true):=zet HOK.out
    have g1:¬(r.length:Int)<(r.length:Int):=by omega
    clear HOK;go_wp2
    go_ret
    exact⟨zaa HF.out.symm,rfl⟩
def Rl(w:World)(a:OA)(cap:Nat)(ts:List Bool):Prop:=Gr El.bool (fun _=>False) w a cap ts
theorem Rl.of{S:Nat->Prop}{w:World}{a:OA}{cap:Nat}{ts:List Bool}(h:Gr El.bool S w a cap ts):Rl w a cap ts:=⟨h.1,h.2.1,h.2.2.1,h.2.2.2⟩
theorem Rl.lenB{w:World}{a:OA}{cap:Nat}{ts:List Bool}(h:Rl w a cap ts):ts.length<=9223372036854775807:=Gr.lenB h
theorem Rl.below{w w':World}{a:OA}{cap:Nat}{ts:List Bool}(h:Rl w a cap ts)(hb:Below w.heap.size w w'):Rl w' a cap ts:=Gr.below h hb
theorem Rl.at{w wr:World}{a:OA}{cap:Nat}{ts:List Bool}(h:Rl w a cap ts)(hb:Below w.heap.size w wr)(k:Nat)(hk:k<ts.length):∃b off,a=some ⟨b,off,none⟩/\b<w.heap.size/\wr.cell? ⟨b,off+k,none⟩=some (.bool (ts.getD k false)):=by
 obtain⟨b,off,vs,e,hb1,hr,hc⟩:=Gr.at h hb k hk
 have:=hc 0 Nat.one_pos
 rw[show vs=[.bool (ts.getD k false)]from hr,show k*El.bool.sz=k from Nat.mul_one k]at this
 exact⟨b,off,e,hb1,this⟩
theorem zrs(x n:Nat):Int.tmod (x:Int) (n:Int)=((x%n:Nat):Int):=by
 rw[Int.tmod_eq_emod_of_nonneg (by omega)];rfl
theorem zkl(f r:Nat->Nat)(s i:Nat)(a:OA)(cap:Nat)(ts:List Bool)(w:World)(h:Rl w a cap ts)(hi:i<ts.length)(hl:ts.length<=1000000)(hs:s<=1000000)
    (f0:(i+s)%ts.length=f 0) (f1:∀k,k+1<ts.length->(f k+s)%ts.length=f (k+1)) (f2:∀k,k<ts.length->f k<ts.length) (f3:∀k,k<ts.length-1->f k≠i) (f4:f (ts.length-1)=i) (f5:∀k,k<ts.length->r (f k)=k) :
    Calls Tryz.prog 286 #[.slice a ts.length cap,.int .i64 (i:Int),.int .i64 (s:Int)] w fun e w'=>e=.returned (.tuple #[.int .i64 (((nbT ts f (ts.length-1)).getD 0:Nat):Int),.bool (nbT ts f (ts.length-1)).isSome])/\w=w':=by
 have HF0:Hid ((i+s)%ts.length=f 0):=f0
 have HF1:Hid (∀k,k+1<ts.length->(f k+s)%ts.length=f (k+1)):=f1
 have HF2:Hid (∀k,k<ts.length->f k<ts.length):=f2
 have HF3:Hid (∀k,k<ts.length-1->f k≠i):=f3
 have HF4:Hid (f (ts.length-1)=i):=f4
 have HF5:Hid (∀k,k<ts.length->r (f k)=k):=f5
 have HH:Hid (Rl w a cap ts):=h
 obtain⟨n,hn⟩:∃n,ts.length=n:=⟨_,rfl⟩
 have HN:Hid (ts.length=n):=hn
 rw[hn]at hi hl f0 ⊢
 have q0:=zrs (i+s) n
 rw[f0]at q0
 have hf0:f 0<n:=by have:=f2 0 (by omega);omega
 have zb1:((i+s:Nat):Int)=(i:Int)+(s:Int):=by omega
 rw[zb1]at q0
 have g0:¬((n:Int)=0):=by omega
 clear hn h f0 f1 f2 f3 f4 zb1
 go_enter Tryz.func286,Tryz.ntmps286
 go_wp2
 go_loopw [9] (fun v wr=>∃k:Nat,k<n/\v=.int .i64 ((f k:Nat):Int)/\(∀j,j<k->ts.getD (f j) false=false)/\w=wr) (fun v _=>n-r (intOf v).toNat)
 case atStart=>exact⟨0,by omega,rfl,(fun j hj=>by omega),rfl⟩
 case round =>
  obtain⟨k,hk,rfl,hok,rfl⟩:=hrel
  have HOK:Hid (∀j,j<k->ts.getD (f j) false=false):=hok
  have hfk:f k<n:=by have:=HF2.out k (by rw[HN.out];exact hk);rw[HN.out]at this;exact this
  clear hok q0 hf0
  by_cases hkn:k<n-1
  . have hne:f k≠i:=HF3.out k (by rw[HN.out];exact hkn)
    obtain⟨b,off,ea,hb,d0⟩:=HH.out.at (Below.refl _ _) (f k) (by rw[HN.out];exact hfk)
    subst ea
    obtain⟨z,hzz⟩:∃z,ts.getD (f k) false=z:=⟨_,rfl⟩
    rw[hzz]at d0
    have hnx:=HF1.out k (by rw[HN.out];omega)
    have hf1:f (k+1)<n:=by have:=HF2.out (k+1) (by rw[HN.out];omega);rw[HN.out]at this;exact this
    have hr0:r (f k)=k:=HF5.out k (by rw[HN.out];omega)
    have hr1:r (f (k+1))=k+1:=HF5.out (k+1) (by rw[HN.out];omega)
    have HR:Hid (r (f k)=k/\r (f (k+1))=k+1):=⟨hr0,hr1⟩
    rw[HN.out]at hnx
    have q1:=zrs (f k+s) n
    rw[hnx]at q1
    have zb1:((f k+s:Nat):Int)=((f k:Nat):Int)+(s:Int):=by omega
    rw[zb1]at q1
    have HFK:Hid (k+1<n):=by show _<_;omega
    cases z with
    | true =>
     have HRES:Hid (nbT ts f (n-1)=some (f k)):=zwp hkn HOK.out hzz
     clear HOK hzz hnx hr0 hr1 HR zb1
     generalize f k=x at *
     have g1:¬((x:Int)=(i:Int)):=by omega
     have i1:(0:Int)<=(x:Int):=by omega
     have i2:(x:Int)<(n:Int):=by omega
     go_wp2
     go_ret2
     exact⟨by rw[HRES.out];rfl,rfl⟩
    | false =>
     have zea:Hid (∀j,j<k+1->ts.getD (f j) false=false):=za4 HOK.out hzz
     clear HOK hzz hnx hr0 hr1 zb1
     obtain⟨x,hx⟩:∃x,f k=x:=⟨_,rfl⟩
     obtain⟨y,hy⟩:∃y,f (k+1)=y:=⟨_,rfl⟩
     have HX:Hid (f k=x):=hx
     have HY:Hid (f (k+1)=y):=hy
     rw[hx]at hfk hne d0 q1 ⊢;rw[hy]at hf1 q1;clear hx hy
     have g1:¬((x:Int)=(i:Int)):=by omega
     have i1:(0:Int)<=(x:Int):=by omega
     have i2:(x:Int)<(n:Int):=by omega
     go_wp2
     go_roundw
     case rel=>exact⟨k+1,HFK.out,by rw[HY.out],zea.out,trivial⟩
     case measure =>
      have h1:=HR.out.1
      have h2:=HR.out.2
      have h3:=HFK.out
      rw[HX.out]at h1;rw[HY.out]at h2
      simp[intOf]
      omega
  . obtain rfl:k=n-1:=by omega
    have HRES:Hid (nbT ts f (n-1)=none):=zny HOK.out
    have hfe:f (n-1)=i:=by have:=HF4.out;rw[HN.out]at this;exact this
    rw[hfe]
    have g1:((i:Int)=(i:Int)):=rfl
    clear HOK hfe;go_wp2
    go_ret2
    exact⟨by rw[HRES.out];rfl,rfl⟩
theorem zst(i:Nat)(a:OA)(cap:Nat)(ts:List Bool)(w:World)(h:Rl w a cap ts)(hi:i<ts.length)(hl:ts.length<=1000000) :
 Calls Tryz.prog 286 #[.slice a ts.length cap,.int .i64 (i:Int),.int .i64 ((ts.length-1:Nat):Int)] w fun e w'=>e=.returned (.tuple #[.int .i64 (((nbA ts i).getD 0:Nat):Int),.bool (nbA ts i).isSome])/\w=w' :=
 zkl (wyA ts.length i) (fun v=>if v<i then i-1-v else i+ts.length-1-v) (ts.length-1) i a cap ts w h hi hl (by omega) (zu1 hi) (fun k hk=>zu2 hi hk) (fun k hk=>zqp hi hk) (fun k hk=>zyl hi hk) (zzw hi) (fun k hk=>by unfold wyA;split <;> split <;> omega)
theorem zss(i:Nat)(a:OA)(cap:Nat)(ts:List Bool)(w:World)(h:Rl w a cap ts)(hi:i<ts.length)(hl:ts.length<=1000000) :
 Calls Tryz.prog 286 #[.slice a ts.length cap,.int .i64 (i:Int),.int .i64 1] w fun e w'=>e=.returned (.tuple #[.int .i64 (((nbB ts i).getD 0:Nat):Int),.bool (nbB ts i).isSome])/\w=w' :=
 zkl (wyB ts.length i) (fun v=>if i<v then v-1-i else v+ts.length-1-i) 1 i a cap ts w h hi hl (by omega) (zuy hi) (fun k hk=>zuz hi hk) (fun k hk=>zqo hi hk) (fun k hk=>zyk hi hk) (zzv hi) (fun k hk=>by unfold wyB;split <;> split <;> omega)
theorem zkp(a x b y c:Int)(w:World)(ha:-32768<=a/\a<=32767)(hx:-32768<=x/\x<=32767)(hb:-32768<=b/\b<=32767)(hy:-32768<=y/\y<=32767)(hc:-32768<=c/\c<=32767) :
 Calls Tryz.prog 287 #[.agg #[.int .i64 a,.int .i64 x],.agg #[.int .i64 b,.int .i64 y],.int .i64 c] w fun e w'=>∃v',e=.returned v'/\Fr w' v' 7 (infQ a x b y c)/\Below w.heap.size w w':=by
 obtain⟨W,hW,X1,X2,B3,hbW⟩:∃W,W=(((w.alloc (.cells #[.int .i64 a,.int .i64 x] 314)).alloc (.cells #[.int .i64 b,.int .i64 y] 314)).alloc (.cells #[.bool false,.slice none 0 0,.slice none 0 0] 125))/\Bk 314 W w.heap.size [.int .i64 a,.int .i64 x]/\Bk 314 W (w.heap.size+1) [.int .i64 b,.int .i64 y]/\Box 125 W (w.heap.size+1+1) (.bool false) (.slice none 0 0) (.slice none 0 0)/\Below w.heap.size w W :=
  ⟨_,rfl,((Bk.new _ _ [.int .i64 a,.int .i64 x]).below (al1 _)).below (al1 _),(Bk.new1 _ _ _ [.int .i64 b,.int .i64 y]).below (al1 _),Box.new2 _ _ _ _ _ _ _,al3 _ _ _⟩
 obtain⟨V,hV,V1,V2,V3,hbV⟩:∃V,V=(((w.alloc (.cells #[.int .i64 b,.int .i64 y] 314)).alloc (.cells #[.int .i64 a,.int .i64 x] 314)).alloc (.cells #[.bool false,.slice none 0 0,.slice none 0 0] 125))/\Bk 314 V w.heap.size [.int .i64 b,.int .i64 y]/\Bk 314 V (w.heap.size+1) [.int .i64 a,.int .i64 x]/\Box 125 V (w.heap.size+1+1) (.bool false) (.slice none 0 0) (.slice none 0 0)/\Below w.heap.size w V :=
  ⟨_,rfl,((Bk.new _ _ [.int .i64 b,.int .i64 y]).below (al1 _)).below (al1 _),(Bk.new1 _ _ _ [.int .i64 a,.int .i64 x]).below (al1 _),Box.new2 _ _ _ _ _ _ _,al3 _ _ _⟩
 obtain⟨p0,p1,z0,z1⟩:=X1.two;obtain⟨p2,p3,z2,z3⟩:=X2.two
 rcases Int.lt_trichotomy a b with hab|hab|hab
 . by_cases h1:c<=a
   . have HE:Hid (infQ a x b y c=(x:Rat)):=by
       show _=_
       unfold infQ segQ
       rw[if_neg (by omega),if_pos hab,if_pos h1]
     have g0:decide (a=b)=false:=decide_eq_false (by omega)
     have g0b:(a==b)=false:=beq_false_of_ne (by omega)
     have g1:decide (a > b)=false:=decide_eq_false (by omega)
     have g1b:¬b<a:=by omega
     go_enter Tryz.func287,Tryz.ntmps287
     go_upto_region 1 with fail
     rw[<-hW];clear hV
     try clear hW
     go_wp2_with fail
     refine(zae x _ (by omega) (by omega)).mono ?_
     rintro e u1 ⟨v1,rfl,hF1,hb1⟩;replace B3:=B3.below hb1
     replace hbW:Below w.heap.size w u1:=hbW.trans (hb1.mono hbW.size)
     clear hb1
     have hs:=B3.lt
     obtain⟨q1,q2,q3,q4,q5,q6⟩:=B3.cells
     replace hF1:=(hF1.eq (r:=infQ a x b y c) (by rw[HE.out])).le (show 2<=7 by decide)
     obtain⟨n',xs',ys',⟨e1,f1,e2,f2,rfl,hx',hy'⟩,hF⟩:=hF1;go_wp2
     refine ret3 (v:=.agg #[.bool n',.slice e1 xs'.length f1,.slice e2 ys'.length f2]) B3 rfl (fun U hU=>by obtain⟨r1,r2,r3,_⟩:=hU.cells;simp[results,Tryz.results287,go_sem,r1,r2,r3]) (fun U hU hK=>⟨_,rfl,⟨_,_,_,⟨_,_,_,_,rfl,hK _ _ _ hx',hK _ _ _ hy'⟩,hF⟩,hU _ _ hbW (by omega)⟩)
   . by_cases h2:b<=c
     . have HE:Hid (infQ a x b y c=(y:Rat)):=by
         show _=_
         unfold infQ segQ
         rw[if_neg (by omega),if_pos hab,if_neg h1,if_pos h2]
       have g0:decide (a=b)=false:=decide_eq_false (by omega)
       have g0b:(a==b)=false:=beq_false_of_ne (by omega)
       have g1:decide (a > b)=false:=decide_eq_false (by omega)
       have g1b:¬b<a:=by omega
       have g2:¬c<=a:=h1
       go_enter Tryz.func287,Tryz.ntmps287
       go_upto_region 1 with fail
       rw[<-hW];clear hV
       try clear hW
       go_wp2_with fail
       refine(zae y _ (by omega) (by omega)).mono ?_
       rintro e u1 ⟨v1,rfl,hF1,hb1⟩;replace B3:=B3.below hb1
       replace hbW:Below w.heap.size w u1:=hbW.trans (hb1.mono hbW.size)
       clear hb1
       have hs:=B3.lt
       obtain⟨q1,q2,q3,q4,q5,q6⟩:=B3.cells
       replace hF1:=(hF1.eq (r:=infQ a x b y c) (by rw[HE.out])).le (show 2<=7 by decide)
       obtain⟨n',xs',ys',⟨e1,f1,e2,f2,rfl,hx',hy'⟩,hF⟩:=hF1;go_wp2
       refine ret3 (v:=.agg #[.bool n',.slice e1 xs'.length f1,.slice e2 ys'.length f2]) B3 rfl (fun U hU=>by obtain⟨r1,r2,r3,_⟩:=hU.cells;simp[results,Tryz.results287,go_sem,r1,r2,r3]) (fun U hU hK=>⟨_,rfl,⟨_,_,_,⟨_,_,_,_,rfl,hK _ _ _ hx',hK _ _ _ hy'⟩,hF⟩,hU _ _ hbW (by omega)⟩)
     . have HE:Hid (infQ a x b y c=btw x y (c-a) (b-a)):=by
         show _=_
         unfold infQ segQ
         rw[if_neg (by omega),if_pos hab,if_neg h1,if_neg h2]
       have g0:decide (a=b)=false:=decide_eq_false (by omega)
       have g0b:(a==b)=false:=beq_false_of_ne (by omega)
       have g1:decide (a > b)=false:=decide_eq_false (by omega)
       have g1b:¬b<a:=by omega
       have g2:¬c<=a:=h1
       have g3:¬c ≥ b:=by omega
       go_enter Tryz.func287,Tryz.ntmps287
       go_upto_region 1 with fail
       rw[<-hW];clear hV
       try clear hW
       go_wp2_with fail
       refine(zhe x y (c-a) (b-a) _ (by omega) (by omega) (by omega) (by omega)).mono ?_
       rintro e u1 ⟨v1,rfl,hF1,hb1⟩;replace B3:=B3.below hb1
       replace hbW:Below w.heap.size w u1:=hbW.trans (hb1.mono hbW.size)
       clear hb1
       have hs:=B3.lt
       obtain⟨q1,q2,q3,q4,q5,q6⟩:=B3.cells
       replace hF1:=(hF1.eq (r:=infQ a x b y c) (by rw[HE.out])).le (show 7<=7 by decide)
       obtain⟨n',xs',ys',⟨e1,f1,e2,f2,rfl,hx',hy'⟩,hF⟩:=hF1;go_wp2
       refine ret3 (v:=.agg #[.bool n',.slice e1 xs'.length f1,.slice e2 ys'.length f2]) B3 rfl (fun U hU=>by obtain⟨r1,r2,r3,_⟩:=hU.cells;simp[results,Tryz.results287,go_sem,r1,r2,r3]) (fun U hU hK=>⟨_,rfl,⟨_,_,_,⟨_,_,_,_,rfl,hK _ _ _ hx',hK _ _ _ hy'⟩,hF⟩,hU _ _ hbW (by omega)⟩)
 . by_cases hxy:x=y
   . by_cases h1:c<=a
     . have HE:Hid (infQ a x b y c=(x:Rat)):=by
         show _=_
         unfold infQ
         rw[if_pos hab,if_pos hxy]
       have g0:(a==b)=true:=by rw[hab];exact beq_self_eq_true b
       have g1b:¬b<a:=by omega
       have gx:(x != y)=false:=by rw[hxy];simp
       clear hab hxy
       go_enter Tryz.func287,Tryz.ntmps287
       go_upto_region 1 with fail
       rw[<-hW];clear hV
       try clear hW
       go_wp2_with fail
       refine(zae x _ (by omega) (by omega)).mono ?_
       rintro e u1 ⟨v1,rfl,hF1,hb1⟩;replace B3:=B3.below hb1
       replace hbW:Below w.heap.size w u1:=hbW.trans (hb1.mono hbW.size)
       clear hb1
       have hs:=B3.lt
       obtain⟨q1,q2,q3,q4,q5,q6⟩:=B3.cells
       replace hF1:=(hF1.eq (r:=infQ a x b y c) (by rw[HE.out])).le (show 2<=7 by decide)
       obtain⟨n',xs',ys',⟨e1,f1,e2,f2,rfl,hx',hy'⟩,hF⟩:=hF1;go_wp2
       refine ret3 (v:=.agg #[.bool n',.slice e1 xs'.length f1,.slice e2 ys'.length f2]) B3 rfl (fun U hU=>by obtain⟨r1,r2,r3,_⟩:=hU.cells;simp[results,Tryz.results287,go_sem,r1,r2,r3]) (fun U hU hK=>⟨_,rfl,⟨_,_,_,⟨_,_,_,_,rfl,hK _ _ _ hx',hK _ _ _ hy'⟩,hF⟩,hU _ _ hbW (by omega)⟩)
     . have HE:Hid (infQ a x b y c=(y:Rat)):=by
         show _=_
         unfold infQ
         rw[if_pos hab,if_pos hxy,hxy]
       have g0:(a==b)=true:=by rw[hab];exact beq_self_eq_true b
       have g1b:¬b<a:=by omega
       have gx:(x != y)=false:=by rw[hxy];simp
       have g2:¬c<=a:=h1
       have g3:c ≥ b:=by omega
       clear hab hxy
       go_enter Tryz.func287,Tryz.ntmps287
       go_upto_region 1 with fail
       rw[<-hW];clear hV
       try clear hW
       go_wp2_with fail
       refine(zae y _ (by omega) (by omega)).mono ?_
       rintro e u1 ⟨v1,rfl,hF1,hb1⟩;replace B3:=B3.below hb1
       replace hbW:Below w.heap.size w u1:=hbW.trans (hb1.mono hbW.size)
       clear hb1
       have hs:=B3.lt
       obtain⟨q1,q2,q3,q4,q5,q6⟩:=B3.cells
       replace hF1:=(hF1.eq (r:=infQ a x b y c) (by rw[HE.out])).le (show 2<=7 by decide)
       obtain⟨n',xs',ys',⟨e1,f1,e2,f2,rfl,hx',hy'⟩,hF⟩:=hF1;go_wp2
       refine ret3 (v:=.agg #[.bool n',.slice e1 xs'.length f1,.slice e2 ys'.length f2]) B3 rfl (fun U hU=>by obtain⟨r1,r2,r3,_⟩:=hU.cells;simp[results,Tryz.results287,go_sem,r1,r2,r3]) (fun U hU hK=>⟨_,rfl,⟨_,_,_,⟨_,_,_,_,rfl,hK _ _ _ hx',hK _ _ _ hy'⟩,hF⟩,hU _ _ hbW (by omega)⟩)
   . have HE:Hid (infQ a x b y c=0):=by
       show _=_
       unfold infQ
       rw[if_pos hab,if_neg hxy]
     have g0:(a==b)=true:=by rw[hab];exact beq_self_eq_true b
     have g1b:¬b<a:=by omega
     have gx:(x != y)=true:=by simp[hxy]
     clear hab
     go_enter Tryz.func287,Tryz.ntmps287
     go_upto_region 1 with fail
     rw[<-hW];clear hV
     try clear hW
     go_wp2_with fail
     refine(zae 0 _ (by omega) (by omega)).mono ?_
     rintro e u1 ⟨v1,rfl,hF1,hb1⟩;replace B3:=B3.below hb1
     replace hbW:Below w.heap.size w u1:=hbW.trans (hb1.mono hbW.size)
     clear hb1
     have hs:=B3.lt
     obtain⟨q1,q2,q3,q4,q5,q6⟩:=B3.cells
     replace hF1:=(hF1.eq (r:=infQ a x b y c) (by rw[HE.out];rfl)).le (show 2<=7 by decide)
     obtain⟨n',xs',ys',⟨e1,f1,e2,f2,rfl,hx',hy'⟩,hF⟩:=hF1;go_wp2
     refine ret3 (v:=.agg #[.bool n',.slice e1 xs'.length f1,.slice e2 ys'.length f2]) B3 rfl (fun U hU=>by obtain⟨r1,r2,r3,_⟩:=hU.cells;simp[results,Tryz.results287,go_sem,r1,r2,r3]) (fun U hU hK=>⟨_,rfl,⟨_,_,_,⟨_,_,_,_,rfl,hK _ _ _ hx',hK _ _ _ hy'⟩,hF⟩,hU _ _ hbW (by omega)⟩)
 . by_cases h1:c<=b
   . have HE:Hid (infQ a x b y c=(y:Rat)):=by
       show _=_
       unfold infQ segQ
       rw[if_neg (by omega),if_neg (by omega),if_pos h1]
     have g0:(a==b)=false:=beq_false_of_ne (by omega)
     have g1:b<a:=hab
     go_enter Tryz.func287,Tryz.ntmps287
     clear hW X1 X2 B3 hbW p0 p1 p2 p3 z0 z1 z2 z3
     go_upto_region 5 with fail
     rw[<-hV];clear hV;obtain⟨p0,p1,_⟩:=V1.two;obtain⟨p2,p3,_⟩:=V2.two
     have B3:=V3
     have hbW:=hbV
     try clear hW
     go_wp2_with fail
     refine(zae y _ (by omega) (by omega)).mono ?_
     rintro e u1 ⟨v1,rfl,hF1,hb1⟩;replace B3:=B3.below hb1
     replace hbW:Below w.heap.size w u1:=hbW.trans (hb1.mono hbW.size)
     clear hb1
     have hs:=B3.lt
     obtain⟨q1,q2,q3,q4,q5,q6⟩:=B3.cells
     replace hF1:=(hF1.eq (r:=infQ a x b y c) (by rw[HE.out])).le (show 2<=7 by decide)
     obtain⟨n',xs',ys',⟨e1,f1,e2,f2,rfl,hx',hy'⟩,hF⟩:=hF1;go_wp2
     refine ret3 (v:=.agg #[.bool n',.slice e1 xs'.length f1,.slice e2 ys'.length f2]) B3 rfl (fun U hU=>by obtain⟨r1,r2,r3,_⟩:=hU.cells;simp[results,Tryz.results287,go_sem,r1,r2,r3]) (fun U hU hK=>⟨_,rfl,⟨_,_,_,⟨_,_,_,_,rfl,hK _ _ _ hx',hK _ _ _ hy'⟩,hF⟩,hU _ _ hbW (by omega)⟩)
   . by_cases h2:a<=c
     . have HE:Hid (infQ a x b y c=(x:Rat)):=by
         show _=_
         unfold infQ segQ
         rw[if_neg (by omega),if_neg (by omega),if_neg h1,if_pos h2]
       have g0:(a==b)=false:=beq_false_of_ne (by omega)
       have g1:b<a:=hab
       have g2:¬c<=b:=h1
       go_enter Tryz.func287,Tryz.ntmps287
       clear hW X1 X2 B3 hbW p0 p1 p2 p3 z0 z1 z2 z3
       go_upto_region 5 with fail
       rw[<-hV];clear hV;obtain⟨p0,p1,_⟩:=V1.two;obtain⟨p2,p3,_⟩:=V2.two
       have B3:=V3
       have hbW:=hbV
       try clear hW
       go_wp2_with fail
       refine(zae x _ (by omega) (by omega)).mono ?_
       rintro e u1 ⟨v1,rfl,hF1,hb1⟩;replace B3:=B3.below hb1
       replace hbW:Below w.heap.size w u1:=hbW.trans (hb1.mono hbW.size)
       clear hb1
       have hs:=B3.lt
       obtain⟨q1,q2,q3,q4,q5,q6⟩:=B3.cells
       replace hF1:=(hF1.eq (r:=infQ a x b y c) (by rw[HE.out])).le (show 2<=7 by decide)
       obtain⟨n',xs',ys',⟨e1,f1,e2,f2,rfl,hx',hy'⟩,hF⟩:=hF1;go_wp2
       refine ret3 (v:=.agg #[.bool n',.slice e1 xs'.length f1,.slice e2 ys'.length f2]) B3 rfl (fun U hU=>by obtain⟨r1,r2,r3,_⟩:=hU.cells;simp[results,Tryz.results287,go_sem,r1,r2,r3]) (fun U hU hK=>⟨_,rfl,⟨_,_,_,⟨_,_,_,_,rfl,hK _ _ _ hx',hK _ _ _ hy'⟩,hF⟩,hU _ _ hbW (by omega)⟩)
     . have HE:Hid (infQ a x b y c=btw y x (c-b) (a-b)):=by
         show _=_
         unfold infQ segQ
         rw[if_neg (by omega),if_neg (by omega),if_neg h1,if_neg h2]
       have g0:(a==b)=false:=beq_false_of_ne (by omega)
       have g1:b<a:=hab
       have g2:¬c<=b:=h1
       have g3:¬c ≥ a:=by omega
       go_enter Tryz.func287,Tryz.ntmps287
       clear hW X1 X2 B3 hbW p0 p1 p2 p3 z0 z1 z2 z3
       go_upto_region 5 with fail
       rw[<-hV];clear hV;obtain⟨p0,p1,_⟩:=V1.two;obtain⟨p2,p3,_⟩:=V2.two
       have B3:=V3
       have hbW:=hbV
       try clear hW
       go_wp2_with fail
       refine(zhe y x (c-b) (a-b) _ (by omega) (by omega) (by omega) (by omega)).mono ?_
       rintro e u1 ⟨v1,rfl,hF1,hb1⟩;replace B3:=B3.below hb1
       replace hbW:Below w.heap.size w u1:=hbW.trans (hb1.mono hbW.size)
       clear hb1
       have hs:=B3.lt
       obtain⟨q1,q2,q3,q4,q5,q6⟩:=B3.cells
       replace hF1:=(hF1.eq (r:=infQ a x b y c) (by rw[HE.out])).le (show 7<=7 by decide)
       obtain⟨n',xs',ys',⟨e1,f1,e2,f2,rfl,hx',hy'⟩,hF⟩:=hF1;go_wp2
       refine ret3 (v:=.agg #[.bool n',.slice e1 xs'.length f1,.slice e2 ys'.length f2]) B3 rfl (fun U hU=>by obtain⟨r1,r2,r3,_⟩:=hU.cells;simp[results,Tryz.results287,go_sem,r1,r2,r3]) (fun U hU hK=>⟨_,rfl,⟨_,_,_,⟨_,_,_,_,rfl,hK _ _ _ hx',hK _ _ _ hy'⟩,hF⟩,hU _ _ hbW (by omega)⟩)
def nth:List Oper->Nat->Option Oper
 | [],_=>none
 | o::_,0=>some o
 | _::l,n+1=>nth l n
theorem zkk:∀(l:List Oper) (i:Nat),nth l i=l.toArray[i]?:=by
 intro l
 induction l with
 | nil=>intro i;simp[nth]
 | cons o l ih =>
  intro i
  cases i with
  | zero=>simp[nth]
  | succ i=>simp[nth,ih i]
theorem hTake{P:Program}{md:Region.Mode}{l:List Oper}{Q:Exit->Act->World->Prop}{S:World->Prop}{i:Nat}{o:Oper}{v:Value}{fuel:Nat}{listed:Array Bool}{a:Act}{w:World}(hi:nth l i=some o)
    (hs:Region.noSelect l.toArray=true) (hf:Region.free md l.toArray listed i=true) (hr:(Region.ready md l.toArray listed).contains i=true)
    (hQ:∀c a w,Q (.panic c) (a.put o.dst v) w->Q (.panic c) a w) (hy:YieldsIf P l.toArray S o v a) (hS:S w)
    (h:wpAnyH P md l.toArray Q S fuel (listed.setIfInBounds i true) (a.put o.dst v) w):wpAnyH P md l.toArray Q S (fuel+1) listed a w :=
 wpAnyH_take ((zkk l i).symm.trans hi) hs hf hr hQ hy hS h
theorem hCall{P:Program}{md:Region.Mode}{l:List Oper}{Q:Exit->Act->World->Prop}{S:World->Prop}{i:Nat}{o:Oper}{fuel:Nat}{listed:Array Bool}{a:Act}{w:World}(hi:nth l i=some o)
    (hr:Region.ready md l.toArray listed=[i]) (hw:Region.wanted o (yielded l.toArray a.tmps)=true)
    (h:∀K:Act->World->Prop,Shut (∀a w,S w->(S w->wpAnyH P md l.toArray Q S fuel (listed.setIfInBounds i true) a w)->K a w)->Oper.wp P o a w K Q) :
    wpAnyH P md l.toArray Q S (fuel+1) listed a w :=
 wpAnyH_ready hr (by simp) (AllReadyH.cons ((zkk l i).symm.trans hi) (fun K hK=>by rw[if_pos hw];exact h K hK) AllReadyH.nil)
theorem hCons{P:Program}{md:Region.Mode}{l:List Oper}{Q:Exit->Act->World->Prop}{S:World->Prop}{i:Nat}{o:Oper}{fuel:Nat}{listed:Array Bool}{a:Act}{w:World}{rs:LN}(hi:nth l i=some o)
    (hw:Region.wanted o (yielded l.toArray a.tmps)=true)
    (h:∀K:Act->World->Prop,Shut (∀a w,S w->(S w->wpAnyH P md l.toArray Q S fuel (listed.setIfInBounds i true) a w)->K a w)->Oper.wp P o a w K Q)
    (hs:AllReadyH P md l.toArray Q S fuel listed a w rs):AllReadyH P md l.toArray Q S fuel listed a w (i::rs) :=
 AllReadyH.cons ((zkk l i).symm.trans hi) (fun K hK=>by rw[if_pos hw];exact h K hK) hs
theorem pZ:(∀ {α:Type} (l:List α) (i:Nat) (x:α),l.toArray.setIfInBounds i x=(l.set i x).toArray)/\(∀ {α:Type} (a:α) (l:List α) (x:α),(a::l).set 0 x=x::l)/\(∀ {α:Type} (a:α) (l:List α) (n:Nat) (x:α),(a::l).set (n+1) x=a::l.set n x):=⟨fun _ _ _=>List.setIfInBounds_toArray ..,fun _ _ _=>rfl,fun _ _ _ _=>rfl⟩
theorem hT{P:Program}{md:Region.Mode}{l:List Oper}{Q:Exit->Act->World->Prop}{S:World->Prop}(i:Nat){o:Oper}{v:Value}{fuel:Nat}{listed:Array Bool}{a a2:Act}{w:World}(hS:S w)
    (h:wpAnyH P md l.toArray Q S fuel (listed.setIfInBounds i true) a2 w)
    (hi:nth l i=some o:=by rfl) (hs:Region.noSelect l.toArray=true:=by kernel_rfl) (hf:Region.free md l.toArray listed i=true:=by kernel_rfl) (hr:(Region.ready md l.toArray listed).contains i=true:=by kernel_rfl)
    (hQ:∀c a w,Q (.panic c) (a.put o.dst v) w->Q (.panic c) a w:=by exact fun _ _ _ h=>h) (hw:Region.wanted o (yielded l.toArray a.tmps)=true:=by rfl)
    (hy:∀w9,S w9->(execOp a.eval o).run P w9=.ok (.value v) w9:=by intro w9 hSw;(try dsimp only at hSw);go_simp;try with_reducible rfl)
    (ha:a.put o.dst v=a2:=by(try simp only[Act.put,pZ]);try rfl):wpAnyH P md l.toArray Q S (fuel+1) listed a w:=by
 subst ha
 exact wpAnyH_take ((zkk l i).symm.trans hi) hs hf hr hQ (Or.inl ⟨hw,hy⟩) hS h
theorem hN{P:Program}{md:Region.Mode}{l:List Oper}{Q:Exit->Act->World->Prop}{S:World->Prop}(i:Nat){o:Oper}{fuel:Nat}{listed:Array Bool}{a a2:Act}{w:World}(hS:S w)
    (h:wpAnyH P md l.toArray Q S fuel (listed.setIfInBounds i true) a2 w)
    (hi:nth l i=some o:=by rfl) (hs:Region.noSelect l.toArray=true:=by kernel_rfl) (hf:Region.free md l.toArray listed i=true:=by kernel_rfl) (hr:(Region.ready md l.toArray listed).contains i=true:=by kernel_rfl)
    (hQ:∀c a w,Q (.panic c) (a.put o.dst undef) w->Q (.panic c) a w:=by exact fun _ _ _ h=>h) (hw:Region.wanted o (yielded l.toArray a.tmps)=false:=by rfl)
    (ha:a.put o.dst undef=a2:=by(try simp only[Act.put,pZ]);try rfl):wpAnyH P md l.toArray Q S (fuel+1) listed a w:=by
 subst ha
 exact wpAnyH_take ((zkk l i).symm.trans hi) hs hf hr hQ (Or.inr ⟨hw,rfl⟩) hS h
