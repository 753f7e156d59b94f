import Derived.Test.YtkmcodofnckdmaaGreatZK8
import Derived.Lib.AppendZerosOnto
import Derived.Deep.CutRange
set_option maxHeartbeats 2000000
set_option maxRecDepth 100000
set_option linter.unusedSimpArgs false
set_option linter.unusedVariables false
namespace Go.Proofs.YtkmcodofnckdmaaGreat
open Tryz Go.RowKit Go.Maps
theorem z27(o:Ol):foB o=(!(decide (0<o.ps.length)&&decide (0<o.cs.length))&&(coF o.cs&&(decide (o.ps.length<=6)&&o.ps.all paF))):=by
 unfold foB coF;generalize decide (0<o.cs.length)=b1;generalize decide (0<o.ps.length)=b2;generalize decide (o.cs.length<=10)=b3;generalize decide (o.ps.length<=6)=b4;generalize o.cs.all _=b5;generalize decide (o.cs.flatten.length<=80)=b6;generalize o.cs.flatten.all pnF=b7;generalize o.ps.all paF=b8;revert b1 b2 b3 b4 b5 b6 b7 b8;decide
theorem zi2(S:Nat->Prop)(a:OA)(ca:Nat)(b:OA)(cb:Nat)(o:Ol)(w:World)(hc:Gr PnE.row S w a ca o.cs)(hp:Gr PaE S w b cb o.ps) :
 Calls Tryz.prog 101 #[.agg #[.slice a o.cs.length ca,.slice b o.ps.length cb]] w fun e w'=>e=.returned (.bool (foB o))/\Below w.heap.size w w':=by
 have k1:=hc.lenB;have k2:=hp.lenB;have HE:Hid (_):=z27 o;obtain⟨W,hW,X1,hbW⟩:∃W,W=w.alloc (.cells #[.slice a o.cs.length ca,.slice b o.ps.length cb] 57)/\Bk 57 W w.heap.size [.slice a o.cs.length ca,.slice b o.ps.length cb]/\Below w.heap.size w W:=⟨_,rfl,Bk.new _ _ _,bl1 _⟩;have hc1:=zp1 S a ca o.cs W (hc.below hbW);have hp1:=fun U (h:Below W.heap.size W U)=>zmk S b cb o.ps U ((hp.below hbW).below h);clear hc hp;by_cases h2:0<o.ps.length
 . have e1:decide (0<o.ps.length)=true:=qC h2
   have g1:decide ((0:Int)<(o.ps.length:Int))=true:=qC (by omega);by_cases h1:0<o.cs.length
   . have e2:decide (0<o.cs.length)=true:=qC h1
     have g2:decide ((0:Int)<(o.cs.length:Int))=true:=qC (by omega);have HF:Hid (foB o=false):=(by show _=_;rw[HE.out,e1,e2];rfl);clear HE hc1 hp1;obtain⟨x0,x1,_⟩:=X1.two;go_enter func101,ntmps101;go_wp2;go_ret;exact⟨zaa HF.out.symm,bl1 _⟩
   . have e2:decide (0<o.cs.length)=false:=qB h1
     have g2:decide ((0:Int)<(o.cs.length:Int))=false:=qB (by omega);have HF:Hid (foB o=(coF o.cs&&(decide (o.ps.length<=6)&&o.ps.all paF))):=(by show _=_;rw[HE.out,e2,Bool.and_false];rfl);clear HE;generalize coF o.cs=q1 at *;generalize (decide (o.ps.length<=6)&&o.ps.all paF)=q2 at *;go_enter func101,ntmps101;go_wp2_with fail
     rw[<-hW];clear hW;refine hc1.mono ?_;rintro e u1 ⟨rfl,hb1⟩;replace hbW:Below w.heap.size w u1:=hbW.trans (hb1.mono hbW.size);replace hp1:=hp1 u1 hb1;replace X1:=X1.below hb1;clear hc1 hb1;obtain⟨x0,x1,_⟩:=X1.two;cases q1 with
     | false =>
      go_wp2;go_ret;exact⟨zaa HF.out.symm,hbW⟩
     | true =>
      go_wp2_with fail
      refine hp1.mono ?_;rintro e u2 ⟨rfl,hb2⟩;replace hbW:Below w.heap.size w u2:=hbW.trans (hb2.mono hbW.size);go_wp2;go_ret;exact⟨zaa (by rw[HF.out,Bool.true_and]),hbW⟩
 . have e1:decide (0<o.ps.length)=false:=qB h2
   have g1:decide ((0:Int)<(o.ps.length:Int))=false:=qB (by omega);have HF:Hid (foB o=(coF o.cs&&(decide (o.ps.length<=6)&&o.ps.all paF))):=(by show _=_;rw[HE.out,e1,Bool.false_and];rfl);clear HE;generalize coF o.cs=q1 at *;generalize (decide (o.ps.length<=6)&&o.ps.all paF)=q2 at *;go_enter func101,ntmps101;go_wp2_with fail
   rw[<-hW];clear hW;refine hc1.mono ?_;rintro e u1 ⟨rfl,hb1⟩;replace hbW:Below w.heap.size w u1:=hbW.trans (hb1.mono hbW.size);replace hp1:=hp1 u1 hb1;replace X1:=X1.below hb1;clear hc1 hb1;obtain⟨x0,x1,_⟩:=X1.two;cases q1 with
   | false =>
    go_wp2;go_ret;exact⟨zaa HF.out.symm,hbW⟩
   | true =>
    go_wp2_with fail
    refine hp1.mono ?_;rintro e u2 ⟨rfl,hb2⟩;replace hbW:Below w.heap.size w u2:=hbW.trans (hb2.mono hbW.size);go_wp2;go_ret;exact⟨zaa (by rw[HF.out,Bool.true_and]),hbW⟩
theorem zqe(z:Array Value)(n:Nat):(Builtin.zeroCells z n).size=n*z.size:=by simp[Builtin.zeroCells]
theorem ztn(n:Nat)(w:World)(hn:n<=1000000) :
 Calls Tryz.prog 235 #[.slice none 0 0,.int .i64 (n:Int)] w fun e w'=>∃v,e=.returned v/\(∀S,Gw PnE 65 w.heap.size S w' v [])/\Below w.heap.size w w':=by
 by_cases h0:n=0
 . subst h0
   go_enter func235,ntmps235;go_wp2;go_ret;exact⟨_,rfl,fun S=>Gw.nil _ _ _ _ _,Below.refl _ _⟩
 have h1:¬((n:Int)<0):=by omega
 have h2:(0:Int)<(n:Int):=by omega
 obtain⟨i0,hi,hz0,hz1,hz2⟩:=info_parts zdo;have hold:=run_firstCells_none (P:=Tryz.prog) w.drew i0.size 0 0 0;have hrz:∀ty,(Builtin.append_ #[63,3] ty #[.slice none 0 0,.int .i64 (n:Int)]).run Tryz.prog w=_:=fun ty=>Lib.run_append_grow_zeros w 63 3 ty 65 i0 _ .i64 .i64 underlying63 underlying3 hi hz0 none 0 0 [] hold n (by omega) (by omega) (by omega) (by omega) (by rw[hz2];omega) (growslice_fits (by omega) (by rw[hz2];omega));simp only[Nat.zero_add]at hrz;have hGn:n<=grownCap w n 0 65:=grownCap_ge w _ _ _;obtain⟨G,hG⟩:∃G,G=grownCap w n 0 65:=⟨_,rfl⟩;rw[<-hG]at hrz hGn;have hG63:G<=9223372036854775807:=by
  have:=grownCap_le_maxLen w n 0 65 (by unfold maxLen;omega);rw[<-hG]at this;unfold maxLen at this;omega
 obtain⟨Z,hZ⟩:∃Z,(([]:LV).toArray++Builtin.zeroCells (Value.agg #[.int .i64 0,.int .i64 0,.bool false]).cells n++Builtin.zeroCells (Value.agg #[.int .i64 0,.int .i64 0,.bool false]).cells (G-n))=Z:=⟨_,rfl⟩;have hZs:Z.size=G*3:=by
  rw[<-hZ];simp only[Array.size_append,zqe];show 0+n*3+(G-n)*3=G*3;omega
 rw[hZ]at hrz;clear hold hG hi hz0 hz1 hz2 h0 hZ;go_enter func235,ntmps235;go_wp2_with (at_builtin;refine Lib.wpList_append_run _ rfl _ _ _ _ rfl _ _ rfl rfl _ _ (hrz _) ?_)
 go_ret;refine⟨_,rfl,fun S=>Gw.made ⟨rfl,.inr ⟨w.heap.size,G,Z,rfl,qE _,?_,qD _,by unfold maxLen;omega,hZs,rfl⟩⟩,?_⟩
 . exact heap_alloc_new w _
 . exact(bl1 _).drew
theorem Gr.anyP{S S':Nat->Prop}{w:World}{a:OA}{cap:Nat}{l:List Pn}(h:Gr PnE S w a cap l):Gr PnE S' w a cap l:=by
 refine⟨h.1,h.2.1,h.2.2.1,fun i hi=>?_⟩;obtain⟨b,off,vs,e,hb,hr,hc⟩:=h.2.2.2 i hi;exact⟨b,off,vs,e,hb,za0.2 (za0.1 hr),hc⟩
theorem Gr.anyA{S S':Nat->Prop}{w:World}{a:OA}{cap:Nat}{l:List Pa}(h:Gr PaE S w a cap l):Gr PaE S' w a cap l:=by
 refine⟨h.1,h.2.1,h.2.2.1,fun i hi=>?_⟩;obtain⟨b,off,vs,e,hb,hr,hc⟩:=h.2.2.2 i hi;exact⟨b,off,vs,e,hb,zce.2 (zce.1 hr),hc⟩
theorem zee{cs:List (List Pn)}{k:Nat}{c:List Pn}(hk:k<cs.length)(hc:cs.getD k []=c):(cs.take (k+1)).flatten=(cs.take k).flatten++c:=by
 rw[zak (d:=[]) hk,List.flatten_append,List.flatten_singleton,hc]
theorem zmp(S:Nat->Prop)(a:OA)(ca:Nat)(cs:List (List Pn))(w:World)(h:Gr PnE.row S w a ca cs)(hl:cs.flatten.length<=100000) :
 Calls Tryz.prog 185 #[.slice a cs.length ca] w fun e w'=>∃a' c',e=.returned (.slice a' cs.flatten.length c')/\Gr PnE (fun _=>True) w' a' c' cs.flatten/\(∀b o,a'=some ⟨b,o,none⟩->w.heap.size<=b/\b<w'.heap.size)/\Below w.heap.size w w':=by
 have k2:=h.lenB;have HH:Hid (Gr PnE.row S w a ca cs):=h;clear h;go_enter func185,ntmps185;go_wp2
 go_loopw [3,11] (fun n i wr=>∃k m:Nat,k<=cs.length/\i=.int .i64 k/\n=.int .i64 (m:Int)/\m=((cs.take k).flatten).length/\w=wr) (fun _ i _=>cs.length-(intOf i).toNat)
 case atStart=>exact⟨0,0,qD _,rfl,rfl,rfl,rfl⟩
 case round =>
  obtain⟨k,m,hk,rfl,rfl,hm,rfl⟩:=hrel;have HM:Hid (m=((cs.take k).flatten).length):=hm;clear hm;by_cases hkn:k<cs.length
  . obtain⟨b,off,a1,c1,ea,hb,d0,hrow,hlb,_⟩:=HH.out.rw (Below.refl _ _) k hkn
    subst ea;have hst:=zan hkn;have hle:=zav cs (k+1);rw[<-HM.out]at hst;obtain⟨c,hc⟩:∃c,cs.getD k []=c:=⟨_,rfl⟩;rw[hc]at d0 hst hlb;have HM2:Hid (m+c.length=((cs.take (k+1)).flatten).length):=hst.symm;have hmc:m+c.length<=100000:=(by omega);have i1:(0:Int)<=(k:Int):=(by omega);have i2:(k:Int)<(cs.length:Int):=(by omega);have i3:¬(m:Int)+(c.length:Int)<0:=(by omega);clear hc hst hle hrow HM hlb;go_wp2;go_roundw
    case rel=>exact⟨k+1,m+c.length,by omega,by go_num,by go_num,HM2.out,trivial⟩
    case measure=>simp[intOf];omega
  . obtain rfl:k=cs.length:=by omega
    have hm:m=cs.flatten.length:=(by rw[HM.out,List.take_length]);have g4:¬(cs.length:Int)<(cs.length:Int):=(by omega);have hgr:=ztn m w (by omega);clear HM hm;go_wp2_with fail
    refine hgr.mono ?_;rintro e u1 ⟨v1,rfl,hT0,hb1⟩;have HT0:Hid (Gw PnE 65 w.heap.size (fun _=>True) u1 v1 []):=hT0 _;have HB1:Hid (Below w.heap.size w u1):=hb1;clear hgr hT0 hb1 hk hkn;go_wp2
    go_loopw [6,27] (fun v i wr=>∃k:Nat,k<=cs.length/\i=.int .i64 k/\Gw PnE 65 w.heap.size (fun _=>True) wr v ((cs.take k).flatten)/\Below w.heap.size w wr) (fun _ i _=>cs.length-(intOf i).toNat)
    case atStart=>exact⟨0,qD _,rfl,HT0.out,HB1.out⟩
    case round =>
     clear HT0 HB1;obtain⟨k,hk,rfl,hT,hB⟩:=hrel;obtain⟨a2,c2,rfl,hgr,hblk⟩:=hT.slice;have HT:Hid (Gw PnE 65 w.heap.size (fun _=>True) wr (.slice a2 ((cs.take k).flatten).length c2) ((cs.take k).flatten)):=hT;clear hT;by_cases hkn:k<cs.length
     . obtain⟨b,off,a1,c1,ea,hb,d0,hrow,hlb,_⟩:=HH.out.rw hB k hkn
       subst ea;have hst:=zan hkn;have hle:=zav cs (k+1);obtain⟨c,hc⟩:∃c,cs.getD k []=c:=⟨_,rfl⟩;have HS:Hid (_):=zee hkn hc;rw[hc]at d0 hst hlb hrow;have hll:((cs.take k).flatten).length+c.length<=1000000:=(by omega);have i1:(0:Int)<=(k:Int):=(by omega);have i2:(k:Int)<(cs.length:Int):=(by omega);have hbs:w.heap.size<=wr.heap.size:=hB.size;clear hc hst hle hlb hgr hblk;generalize (cs.take k).flatten=L at *;go_wp2_with (at_builtin;refine zab 63 65 underlying63 zdo rfl (by decide) (by decide) rfl _ _ rfl w.heap.size (fun _=>True) _ L rfl HT.out a1 c1 _ c rfl rfl hrow.anyP hll hbs ?_)
       intro v9 w9 hT9 hgrow _;have hB9:Below w.heap.size w w9:=hB.grown hgrow hbs (fun k hk=>(HT.out.lo hk).1);rw[<-HS.out]at hT9;clear hgrow hbs hll HS;go_wp2;go_roundw
       case rel=>exact⟨k+1,by omega,by go_num,hT9,hB9⟩
       case measure=>simp[intOf];omega
     . obtain rfl:k=cs.length:=by omega
       rw[List.take_length]at HT hgr ⊢;have HB2:Hid (∀b o,a2=some ⟨b,o,none⟩->w.heap.size<=b/\b<wr.heap.size):=hblk;have g4:¬(cs.length:Int)<(cs.length:Int):=(by omega);clear hblk;go_wp2;go_ret;exact⟨a2,c2,rfl,hgr,HB2.out,hB⟩
theorem zdt(S:Nat->Prop)(a:OA)(ca:Nat)(vb:Value)(cs:List (List Pn))(w:World)(h:Gr PnE.row S w a ca cs)(hl:cs.flatten.length<=100000)(hv:vb.cells=#[vb]) :
 Calls Tryz.prog 128 #[.agg #[.slice a cs.length ca,vb]] w fun e w'=>∃a' c',e=.returned (.slice a' cs.flatten.length c')/\Gr PnE (fun _=>True) w' a' c' cs.flatten/\(∀b o,a'=some ⟨b,o,none⟩->w.heap.size<=b/\b<w'.heap.size)/\Below w.heap.size w w':=by
 obtain⟨W,hW,X1,hbW⟩:∃W,W=w.alloc (.cells #[.slice a cs.length ca,vb] 57)/\Bk 57 W w.heap.size [.slice a cs.length ca,vb]/\Below w.heap.size w W:=⟨_,rfl,Bk.new _ _ _,bl1 _⟩;have hc1:=zmp S a ca cs W (h.below hbW) hl;obtain⟨x0,x1,_⟩:=X1.two;clear X1 h;generalize cs.flatten=L at *;go_enter func128,ntmps128;go_wp2_with fail
 rw[<-hW];clear hW;refine hc1.mono ?_;rintro e u1 ⟨a1,c1,rfl,hg,hblk,hb1⟩;have HBK:Hid (∀b o,a1=some ⟨b,o,none⟩->w.heap.size<=b/\b<u1.heap.size):=fun b o e=>⟨qF hbW.size (hblk b o e).1,(hblk b o e).2⟩;replace hbW:Below w.heap.size w u1:=hbW.trans (hb1.mono hbW.size);clear hc1 hb1 hblk;go_wp2;go_ret;exact⟨a1,c1,rfl,hg,HBK.out,hbW⟩
theorem zle{cs:List (List Pn)}{k:Nat}{c:List Pn}(hk:k<cs.length)(hc:cs.getD k []=c):endF 0 (cs.take (k+1))=endF 0 (cs.take k)++[(((cs.take k).flatten).length:Int)+(c.length:Int)-1]:=by
 rw[zak (d:=[]) hk,zmf,hc];simp[endF]
theorem ztp(S:Nat->Prop)(a:OA)(ca:Nat)(vb:Value)(cs:List (List Pn))(w:World)(h:Gr PnE.row S w a ca cs)(hl:cs.flatten.length<=100000)(hn:cs.length<=100000)(hv:vb.cells=#[vb]) :
 Calls Tryz.prog 131 #[.agg #[.slice a cs.length ca,vb]] w fun e w'=>∃a' c',e=.returned (.slice a' (endF 0 cs).length c')/\Ri w' a' c' (endF 0 cs)/\(∀b o,a'=some ⟨b,o,none⟩->w.heap.size<=b/\b<w'.heap.size)/\Below w.heap.size w w':=by
 obtain⟨W,hW,X1,hbW⟩:∃W,W=w.alloc (.cells #[.slice a cs.length ca,vb] 57)/\Bk 57 W w.heap.size [.slice a cs.length ca,vb]/\Below w.heap.size w W:=⟨_,rfl,Bk.new _ _ _,bl1 _⟩;obtain⟨i0,hi0,hz0,hz1,hz2⟩:=info_parts zcu;obtain⟨w1,hmk,hown,hgrow⟩:=run_makeSlice_owned W w.heap.size 29 3 i0 _ 1 underlying29 hi0 hz0 hz1 .i64 .i64 cs.length (by omega) (by rw[hz2];omega) (by unfold maxLen;omega) hbW.size;have hI0:Io w.heap.size w1 (.slice (some ⟨W.heap.size,0,none⟩) 0 cs.length) (endF 0 (cs.take 0)):=⟨fun t ht=>(by cases ht),hown⟩;have hB1:Below W.heap.size W w1:=(Below.refl _ _).grown hgrow (qE _) (fun k hk=>by cases hk);have X2:=X1.below hB1;obtain⟨x0,x1,_⟩:=X1.two;obtain⟨y0,y1,_⟩:=X2.two;have HH:Hid (Gr PnE.row S w a ca cs):=h;have HB0:Hid (Below w.heap.size w w1):=hbW.trans (hB1.mono hbW.size);clear h hown hgrow hi0 hz0 hz1 hz2 X1 X2 hB1;have hsz:W.heap.size=w.heap.size+1:=by rw[hW];simp
 rw[hsz]at hmk hI0;rw[hW]at hmk;clear hsz;go_enter func131,ntmps131;go_wp2;clear hW x0 x1 y0 y1 hbW hmk
 go_loopw [3,4,14] (fun v la i wr=>∃k m:Nat,k<=cs.length/\i=.int .i64 k/\la=.int .i64 ((m:Int)-1)/\m=((cs.take k).flatten).length/\Io w.heap.size wr v (endF 0 (cs.take k))/\Below w.heap.size w wr) (fun _ _ i _=>cs.length-(intOf i).toNat)
 case atStart=>exact⟨0,0,qD _,rfl,rfl,rfl,hI0,HB0.out⟩
 case round =>
  clear hI0 HB0;obtain⟨k,m,hk,rfl,rfl,hm,hT,hB⟩:=hrel;obtain⟨a2,c2,rfl,hts⟩:=hT.slice;have hlen:(endF 0 (cs.take k)).length=k:=by rw[zck,qL];omega
  have HM:Hid (m=((cs.take k).flatten).length):=hm;have HT:Hid (Io w.heap.size wr (.slice a2 (endF 0 (cs.take k)).length c2) (endF 0 (cs.take k))):=hT;have hll:(endF 0 (cs.take k)).length+1<=1000000:=by omega
  clear hm hT hlen;by_cases hkn:k<cs.length
  . obtain⟨b,off,a1,c1,ea,hb,d0,hrow,hlb,_⟩:=HH.out.rw hB k hkn
    subst ea;have hst:=zan hkn;have hle:=zav cs (k+1);rw[<-HM.out]at hst;obtain⟨c,hc⟩:∃c,cs.getD k []=c:=⟨_,rfl⟩;have HS:Hid (_):=zle hkn hc;rw[<-HM.out]at HS;rw[hc]at d0 hst hlb;have HM2:Hid (m+c.length=((cs.take (k+1)).flatten).length):=hst.symm;have hmc:m+c.length<=100000:=(by omega);have i1:(0:Int)<=(k:Int):=(by omega);have i2:(k:Int)<(cs.length:Int):=(by omega);obtain⟨y,hy⟩:∃y,(m:Int)+(c.length:Int)-1=y:=⟨_,rfl⟩;have hy2:(m:Int)-1+(c.length:Int)=y:=(by omega);have HY:Hid (((m+c.length:Nat):Int)-1=y):=(by show _=_;omega);rw[hy]at HS;have hyi:I64 y:=⟨by omega,by omega⟩;have hT5:=HT.out.below (bl1 (.cells #[.int .i64 y] 3));have hN:=heap_alloc_new wr (.cells #[.int .i64 y] 3);have n0:=cell_of_row _ wr.heap.size 0 _ _ (0,0) hN;have hbs:w.heap.size<=(wr.alloc (.cells #[.int .i64 y] 3)).heap.size:=qF hB.size (bl1 _).size;clear hc hst hle hrow HM hlb hN hy hts;generalize endF 0 (cs.take k)=L at *;go_wp2_with (at_builtin;refine zad rfl _ _ rfl w.heap.size _ L rfl hT5 wr.heap.size y rfl n0 hyi hll hbs ?_)
    intro v' w9 hT9 hgrow;have hB9:Below w.heap.size w w9:=(hB.alloc hB.size _).grown hgrow hbs (fun k hk=>HT.out.lo hk);rw[<-HS.out]at hT9;clear hgrow hT5 n0 hbs hll HS;go_wp2;go_roundw
    case rel=>exact⟨k+1,m+c.length,by omega,by go_num,by rw[HY.out],HM2.out,hT9,hB9⟩
    case measure=>simp[intOf];omega
  . obtain rfl:k=cs.length:=by omega
    rw[List.take_length]at HT hts ⊢;have HB2:Hid (∀b o,a2=some ⟨b,o,none⟩->w.heap.size<=b/\b<wr.heap.size):=fun b o e=>by
     subst e;exact World.ownsRow.lt HT.out.2 b rfl
    have g4:¬(cs.length:Int)<(cs.length:Int):=(by omega);clear HM hll;go_wp2;go_ret;exact⟨a2,c2,rfl,hts,HB2.out,hB⟩
open Classical
def crd(z:Int):Bool:=decide (-16384<=z/\z<=16384)
def c14(z:Int):Int:=if z < -16384 then -16384 else if 16384<z then 16384 else z
theorem zmw(z:Int):IntKind.i16.wrap z=if 32768<=z%65536 then z%65536-65536 else z%65536:=by
 simp[IntKind.wrap,IntKind.bits,IntKind.signed]
theorem za4(z:Int)(w:World):Calls Tryz.prog 197 #[.int .i64 z] w fun e w'=>e=.returned (.bool (crd z))/\w=w':=by
 by_cases h1:-16384<=z
 . go_enter func197,ntmps197
   go_wp2;go_ret;exact⟨zch (by simp[crd,h1]),rfl⟩
 . go_enter func197,ntmps197
   go_wp2;go_ret;exact⟨zch (by simp[crd];omega),rfl⟩
open Go.Lib
def Two(w:World)(n:Bool)(a:OA)(c:Nat)(xs:LN)(a':OA)(c':Nat)(ys:LN)(m:Bool)(b:OA)(d:Nat)(ps:LN)(b':OA)(d':Nat)(qs:LN)(q:Rat):Prop :=
 Rd w a c xs/\Rd w a' c' ys/\Rd w b d ps/\Rd w b' d' qs/\Fmd n xs ys/\xs.length<=9/\ys.length<=9/\qv n xs ys=q/\Fmd m ps qs/\ps.length<=9/\qs.length<=9/\qv m ps qs=q
