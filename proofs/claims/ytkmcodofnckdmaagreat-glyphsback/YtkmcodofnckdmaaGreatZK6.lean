import Derived.Test.YtkmcodofnckdmaaGreatZK5
import Derived.Lib.AppendZerosOnto
import Derived.Deep.CutRange
import Derived.Test.YtkmcodofnckdmaaGreatChecked
import Derived.Lib.MinMax
set_option maxHeartbeats 2000000
set_option maxRecDepth 100000
set_option linter.unusedSimpArgs false
set_option linter.unusedVariables false
namespace Go.Proofs.YtkmcodofnckdmaaGreat
open Go.RowKit Go.Maps
def GlE:El Gl:=(PnE.row.row.cat (PaE.row.cat (TuE.row.cat (El.int.cat (El.int.cat El.bool))))).via (fun x=>(x.o.cs,x.o.ps,x.ts,x.ab,x.ar,x.mr)) Gl.none
def GlC(S:Nat->Prop)(w:World)(ca:OA)(cc:Nat)(pa:OA)(pc:Nat)(ta:OA)(tc:Nat)(x:Gl):Prop :=
 PnE.row.row.rep S w [.slice ca x.o.cs.length cc] x.o.cs/\PaE.row.rep S w [.slice pa x.o.ps.length pc] x.o.ps/\TuE.row.rep S w [.slice ta x.ts.length tc] x.ts/\I64 x.ab/\I64 x.ar
theorem zjv{S:Nat->Prop}{w:World}{vs:List Value}{x:Gl}:GlE.rep S w vs x ↔ ∃ca cc pa pc ta tc,vs=[.slice ca x.o.cs.length cc,.slice pa x.o.ps.length pc,.slice ta x.ts.length tc,.int .i64 x.ab,.int .i64 x.ar,.bool x.mr]/\GlC S w ca cc pa pc ta tc x:=by
 constructor
 . rintro ⟨us,ts,rfl,h1,us2,ts2,rfl,h2,us3,ts3,rfl,h3,us4,ts4,rfl,⟨rfl,h4⟩,us5,ts5,rfl,⟨rfl,h5⟩,h6⟩
   have h6:ts5=[.bool x.mr]:=h6
   subst h6
   have r1:=h1
   obtain⟨ca,cc,e1,_⟩:=h1
   have r2:=h2
   obtain⟨pa,pc,e2,_⟩:=h2
   have r3:=h3
   obtain⟨ta,tc,e3,_⟩:=h3;subst e1 e2 e3
   exact⟨ca,cc,pa,pc,ta,tc,rfl,r1,r2,r3,h4,h5⟩
 . rintro ⟨ca,cc,pa,pc,ta,tc,rfl,h1,h2,h3,h4,h5⟩
   exact⟨_,_,rfl,h1,_,_,rfl,h2,_,_,rfl,h3,[.int .i64 x.ab],_,rfl,⟨rfl,h4⟩,[.int .i64 x.ar],[.bool x.mr],rfl,⟨rfl,h5⟩,rfl⟩
theorem GlC.cs{S:Nat->Prop}{w:World}{ca:OA}{cc:Nat}{pa:OA}{pc:Nat}{ta:OA}{tc:Nat}{x:Gl}(h:GlC S w ca cc pa pc ta tc x):Gr PnE.row S w ca cc x.o.cs:=(zbq h.1).1
theorem GlC.ps{S:Nat->Prop}{w:World}{ca:OA}{cc:Nat}{pa:OA}{pc:Nat}{ta:OA}{tc:Nat}{x:Gl}(h:GlC S w ca cc pa pc ta tc x):Gr PaE S w pa pc x.o.ps:=(zbq h.2.1).1
theorem GlC.ts{S:Nat->Prop}{w:World}{ca:OA}{cc:Nat}{pa:OA}{pc:Nat}{ta:OA}{tc:Nat}{x:Gl}(h:GlC S w ca cc pa pc ta tc x):Gr TuE S w ta tc x.ts:=(zbq h.2.2.1).1
theorem GlC.below{S:Nat->Prop}{w w':World}{ca:OA}{cc:Nat}{pa:OA}{pc:Nat}{ta:OA}{tc:Nat}{x:Gl}(h:GlC S w ca cc pa pc ta tc x)(hb:Below w.heap.size w w'):GlC S w' ca cc pa pc ta tc x :=
 ⟨PnE.row.row.stay h.1 hb.size (fun k hk hl=>⟨hk,hb.block k hl⟩),PaE.row.stay h.2.1 hb.size (fun k hk hl=>⟨hk,hb.block k hl⟩),TuE.row.stay h.2.2.1 hb.size (fun k hk hl=>⟨hk,hb.block k hl⟩),h.2.2.2⟩
theorem Gr.gl{S:Nat->Prop}{w wr:World}{a:OA}{cap:Nat}{l:List Gl}(h:Gr GlE S w a cap l)(hb:Below w.heap.size w wr)(k:Nat)(hk:k<l.length) :
 ∃b off ca cc pa pc ta tc,a=some ⟨b,off,none⟩/\b<w.heap.size/\GlC S wr ca cc pa pc ta tc (l.getD k Gl.none) /\
     wr.cell? ⟨b,off+k*6,none⟩=some (.slice ca (l.getD k Gl.none).o.cs.length cc)/\wr.cell? ⟨b,off+k*6+1,none⟩=some (.slice pa (l.getD k Gl.none).o.ps.length pc)/\wr.cell? ⟨b,off+k*6+2,none⟩=some (.slice ta (l.getD k Gl.none).ts.length tc)/\wr.cell? ⟨b,off+k*6+3,none⟩=some (.int .i64 (l.getD k Gl.none).ab)/\wr.cell? ⟨b,off+k*6+4,none⟩=some (.int .i64 (l.getD k Gl.none).ar)/\wr.cell? ⟨b,off+k*6+5,none⟩=some (.bool (l.getD k Gl.none).mr):=by
 obtain⟨b,off,vs,e,h1,hr,hc⟩:=h.at hb k hk
 obtain⟨ca,cc,pa,pc,ta,tc,rfl,ht⟩:=zjv.1 hr
 exact⟨b,off,ca,cc,pa,pc,ta,tc,e,h1,ht,hc 0 (by decide),hc 1 (by decide),hc 2 (by decide),hc 3 (by decide),hc 4 (by decide),hc 5 (by decide)⟩
theorem Bk.six{t:TypeId}{w:World}{g:Nat}{x y z u v s:Value}(h:Bk t w g [x,y,z,u,v,s]):w.cell? ⟨g,0,none⟩=some x/\w.cell? ⟨g,1,none⟩=some y/\w.cell? ⟨g,2,none⟩=some z/\w.cell? ⟨g,3,none⟩=some u/\w.cell? ⟨g,4,none⟩=some v/\w.cell? ⟨g,5,none⟩=some s/\∀j,w.frozen? ⟨g,j,none⟩=false :=
 ⟨h.cell 0 (by simp),h.cell 1 (by simp),h.cell 2 (by simp),h.cell 3 (by simp),h.cell 4 (by simp),h.cell 5 (by simp),fun j=>h.fz j⟩
theorem z5f(o:Ol):foB o=(!(decide (0<o.ps.length)&&decide (0<o.cs.length))&&(coF o.cs&&(decide (o.ps.length<=6)&&o.ps.all paF))):=by
 unfold foB coF
 generalize decide (0<o.cs.length)=b1
 generalize decide (0<o.ps.length)=b2
 generalize decide (o.cs.length<=10)=b3
 generalize decide (o.ps.length<=6)=b4
 generalize o.cs.all _=b5
 generalize decide (o.cs.flatten.length<=80)=b6
 generalize o.cs.flatten.all pnF=b7
 generalize o.ps.all paF=b8
 revert b1 b2 b3 b4 b5 b6 b7 b8
 decide
theorem zfa(S:Nat->Prop)(a:OA)(ca:Nat)(b:OA)(cb:Nat)(o:Ol)(w:World)(hc:Gr PnE.row S w a ca o.cs)(hp:Gr PaE S w b cb o.ps) :
 Calls Tryz.prog 101 #[.agg #[.slice a o.cs.length ca,.slice b o.ps.length cb]] w fun e w'=>e=.returned (.bool (foB o))/\Below w.heap.size w w':=by
 have k1:=hc.lenB
 have k2:=hp.lenB
 have HE:Hid (_):=z5f o
 obtain⟨W,hW,X1,hbW⟩:∃W,W=w.alloc (.cells #[.slice a o.cs.length ca,.slice b o.ps.length cb] 57)/\Bk 57 W w.heap.size [.slice a o.cs.length ca,.slice b o.ps.length cb]/\Below w.heap.size w W:=⟨_,rfl,Bk.new _ _ _,bl1 _⟩
 have hc1:=zqe S a ca o.cs W (hc.below hbW)
 have hp1:=fun U (h:Below W.heap.size W U)=>zml S b cb o.ps U ((hp.below hbW).below h)
 clear hc hp
 by_cases h2:0<o.ps.length
 . have e1:decide (0<o.ps.length)=true:=decide_eq_true h2
   have g1:decide ((0:Int)<(o.ps.length:Int))=true:=decide_eq_true (by omega)
   by_cases h1:0<o.cs.length
   . have e2:decide (0<o.cs.length)=true:=decide_eq_true h1
     have g2:decide ((0:Int)<(o.cs.length:Int))=true:=decide_eq_true (by omega)
     have HF:Hid (foB o=false):=by show _=_;rw[HE.out,e1,e2];rfl
     clear HE hc1 hp1;obtain⟨x0,x1,_⟩:=X1.two
     go_enter Tryz.func101,Tryz.ntmps101
     go_wp2
     go_ret
     exact⟨zaa HF.out.symm,bl1 _⟩
   . have e2:decide (0<o.cs.length)=false:=decide_eq_false h1
     have g2:decide ((0:Int)<(o.cs.length:Int))=false:=decide_eq_false (by omega)
     have HF:Hid (foB o=(coF o.cs&&(decide (o.ps.length<=6)&&o.ps.all paF))):=by show _=_;rw[HE.out,e2,Bool.and_false];rfl
     clear HE
     generalize coF o.cs=q1 at *
     generalize (decide (o.ps.length<=6)&&o.ps.all paF)=q2 at *
     go_enter Tryz.func101,Tryz.ntmps101
     go_wp2_with fail
     rw[<-hW];clear hW
     refine hc1.mono ?_
     rintro e u1 ⟨rfl,hb1⟩
     replace hbW:Below w.heap.size w u1:=hbW.trans (hb1.mono hbW.size)
     replace hp1:=hp1 u1 hb1
     replace X1:=X1.below hb1;clear hc1 hb1;obtain⟨x0,x1,_⟩:=X1.two
     cases q1 with
     | false =>
      go_wp2
      go_ret
      exact⟨zaa HF.out.symm,hbW⟩
     | true =>
      go_wp2_with fail
      refine hp1.mono ?_
      rintro e u2 ⟨rfl,hb2⟩
      replace hbW:Below w.heap.size w u2:=hbW.trans (hb2.mono hbW.size)
      go_wp2
      go_ret
      exact⟨zaa (by rw[HF.out,Bool.true_and]),hbW⟩
 . have e1:decide (0<o.ps.length)=false:=decide_eq_false h2
   have g1:decide ((0:Int)<(o.ps.length:Int))=false:=decide_eq_false (by omega)
   have HF:Hid (foB o=(coF o.cs&&(decide (o.ps.length<=6)&&o.ps.all paF))):=by show _=_;rw[HE.out,e1,Bool.false_and];rfl
   clear HE
   generalize coF o.cs=q1 at *
   generalize (decide (o.ps.length<=6)&&o.ps.all paF)=q2 at *
   go_enter Tryz.func101,Tryz.ntmps101
   go_wp2_with fail
   rw[<-hW];clear hW
   refine hc1.mono ?_
   rintro e u1 ⟨rfl,hb1⟩
   replace hbW:Below w.heap.size w u1:=hbW.trans (hb1.mono hbW.size)
   replace hp1:=hp1 u1 hb1
   replace X1:=X1.below hb1;clear hc1 hb1;obtain⟨x0,x1,_⟩:=X1.two
   cases q1 with
   | false =>
    go_wp2
    go_ret
    exact⟨zaa HF.out.symm,hbW⟩
   | true =>
    go_wp2_with fail
    refine hp1.mono ?_
    rintro e u2 ⟨rfl,hb2⟩
    replace hbW:Below w.heap.size w u2:=hbW.trans (hb2.mono hbW.size)
    go_wp2
    go_ret
    exact⟨zaa (by rw[HF.out,Bool.true_and]),hbW⟩
theorem zqq(z:Array Value)(n:Nat):(Builtin.zeroCells z n).size=n*z.size:=by simp[Builtin.zeroCells]
theorem zuf(n:Nat)(w:World)(hn:n<=1000000) :
 Calls Tryz.prog 235 #[.slice none 0 0,.int .i64 (n:Int)] w fun e w'=>∃v,e=.returned v/\(∀S,Gw PnE 65 w.heap.size S w' v [])/\Below w.heap.size w w':=by
 by_cases h0:n=0
 . subst h0
   go_enter Tryz.func235,Tryz.ntmps235
   go_wp2
   go_ret
   exact⟨_,rfl,fun S=>Gw.nil _ _ _ _ _,Below.refl _ _⟩
 have h1:¬((n:Int)<0):=by omega
 have h2:(0:Int)<(n:Int):=by omega
 obtain⟨i0,hi,hz0,hz1,hz2⟩:=info_parts zcx
 have hold:=run_firstCells_none (P:=Tryz.prog) w.drew i0.size 0 0 0
 have hrz:∀ty,(Builtin.append_ #[63,3] ty #[.slice none 0 0,.int .i64 (n:Int)]).run Tryz.prog w=_:=fun ty=>Lib.run_append_grow_zeros w 63 3 ty 65 i0 _ .i64 .i64 Tryz.underlying63 Tryz.underlying3 hi hz0 none 0 0 [] hold n (by omega) (by omega) (by omega) (by omega) (by rw[hz2];omega) (growslice_fits (by omega) (by rw[hz2];omega))
 simp only[Nat.zero_add]at hrz
 have hGn:n<=grownCap w n 0 65:=grownCap_ge w _ _ _
 obtain⟨G,hG⟩:∃G,G=grownCap w n 0 65:=⟨_,rfl⟩
 rw[<-hG]at hrz hGn
 have hG63:G<=9223372036854775807:=by
  have:=grownCap_le_maxLen w n 0 65 (by unfold maxLen;omega)
  rw[<-hG]at this
  unfold maxLen at this
  omega
 obtain⟨Z,hZ⟩:∃Z,(([]:List Value).toArray++Builtin.zeroCells (Value.agg #[.int .i64 0,.int .i64 0,.bool false]).cells n++Builtin.zeroCells (Value.agg #[.int .i64 0,.int .i64 0,.bool false]).cells (G-n))=Z:=⟨_,rfl⟩
 have hZs:Z.size=G*3:=by
  rw[<-hZ]
  simp only[Array.size_append,zqq]
  show 0+n*3+(G-n)*3=G*3
  omega
 rw[hZ]at hrz;clear hold hG hi hz0 hz1 hz2 h0 hZ
 go_enter Tryz.func235,Tryz.ntmps235
 go_wp2_with (at_builtin;refine Lib.wpList_append_run _ rfl _ _ _ _ rfl _ _ rfl rfl _ _ (hrz _) ?_)
 go_ret
 refine⟨_,rfl,fun S=>Gw.made ⟨rfl,.inr ⟨w.heap.size,G,Z,rfl,Nat.le_refl _,?_,Nat.zero_le _,by unfold maxLen;omega,hZs,rfl⟩⟩,?_⟩
 . exact heap_alloc_new w _
 . exact(bl1 _).drew
theorem Gr.anyP{S S':Nat->Prop}{w:World}{a:OA}{cap:Nat}{l:List Pn}(h:Gr PnE S w a cap l):Gr PnE S' w a cap l:=by
 refine⟨h.1,h.2.1,h.2.2.1,fun i hi=>?_⟩
 obtain⟨b,off,vs,e,hb,hr,hc⟩:=h.2.2.2 i hi
 exact⟨b,off,vs,e,hb,zaz.2 (zaz.1 hr),hc⟩
theorem Gr.anyA{S S':Nat->Prop}{w:World}{a:OA}{cap:Nat}{l:List Pa}(h:Gr PaE S w a cap l):Gr PaE S' w a cap l:=by
 refine⟨h.1,h.2.1,h.2.2.1,fun i hi=>?_⟩
 obtain⟨b,off,vs,e,hb,hr,hc⟩:=h.2.2.2 i hi
 exact⟨b,off,vs,e,hb,zcf.2 (zcf.1 hr),hc⟩
theorem zdz{cs:List (List Pn)}{k:Nat}{c:List Pn}(hk:k<cs.length)(hc:cs.getD k []=c):(cs.take (k+1)).flatten=(cs.take k).flatten++c:=by
 rw[zaj (d:=[]) hk,List.flatten_append,List.flatten_singleton,hc]
theorem zms(S:Nat->Prop)(a:OA)(ca:Nat)(cs:List (List Pn))(w:World)(h:Gr PnE.row S w a ca cs)(hl:cs.flatten.length<=100000) :
 Calls Tryz.prog 185 #[.slice a cs.length ca] w fun e w'=>∃a' c',e=.returned (.slice a' cs.flatten.length c')/\Gr PnE (fun _=>True) w' a' c' cs.flatten/\(∀b o,a'=some ⟨b,o,none⟩->w.heap.size<=b/\b<w'.heap.size)/\Below w.heap.size w w':=by
 have k2:=h.lenB
 have HH:Hid (Gr PnE.row S w a ca cs):=h
 clear h
 go_enter Tryz.func185,Tryz.ntmps185
 go_wp2
 go_loopw [3,11] (fun n i wr=>∃k m:Nat,k<=cs.length/\i=.int .i64 k/\n=.int .i64 (m:Int)/\m=((cs.take k).flatten).length/\w=wr) (fun _ i _=>cs.length-(intOf i).toNat)
 case atStart=>exact⟨0,0,Nat.zero_le _,rfl,rfl,rfl,rfl⟩
 case round =>
  obtain⟨k,m,hk,rfl,rfl,hm,rfl⟩:=hrel
  have HM:Hid (m=((cs.take k).flatten).length):=hm
  clear hm
  by_cases hkn:k<cs.length
  . obtain⟨b,off,a1,c1,ea,hb,d0,hrow,hlb,_⟩:=HH.out.rw (Below.refl _ _) k hkn
    subst ea
    have hst:=zan hkn
    have hle:=zay cs (k+1)
    rw[<-HM.out]at hst
    obtain⟨c,hc⟩:∃c,cs.getD k []=c:=⟨_,rfl⟩
    rw[hc]at d0 hst hlb
    have HM2:Hid (m+c.length=((cs.take (k+1)).flatten).length):=hst.symm
    have hmc:m+c.length<=100000:=by omega
    have i1:(0:Int)<=(k:Int):=by omega
    have i2:(k:Int)<(cs.length:Int):=by omega
    have i3:¬(m:Int)+(c.length:Int)<0:=by omega
    clear hc hst hle hrow HM hlb;go_wp2
    go_roundw
    case rel=>exact⟨k+1,m+c.length,by omega,by go_num,by go_num,HM2.out,trivial⟩
    case measure=>simp[intOf];omega
  . obtain rfl:k=cs.length:=by omega
    have hm:m=cs.flatten.length:=by rw[HM.out,List.take_length]
    have g4:¬(cs.length:Int)<(cs.length:Int):=by omega
    have hgr:=zuf m w (by omega)
    clear HM hm
    go_wp2_with fail
    refine hgr.mono ?_
    rintro e u1 ⟨v1,rfl,hT0,hb1⟩
    have HT0:Hid (Gw PnE 65 w.heap.size (fun _=>True) u1 v1 []):=hT0 _
    have HB1:Hid (Below w.heap.size w u1):=hb1
    clear hgr hT0 hb1 hk hkn;go_wp2
    go_loopw [6,27] (fun v i wr=>∃k:Nat,k<=cs.length/\i=.int .i64 k/\Gw PnE 65 w.heap.size (fun _=>True) wr v ((cs.take k).flatten)/\Below w.heap.size w wr) (fun _ i _=>cs.length-(intOf i).toNat)
    case atStart=>exact⟨0,Nat.zero_le _,rfl,HT0.out,HB1.out⟩
    case round =>
     clear HT0 HB1;obtain⟨k,hk,rfl,hT,hB⟩:=hrel;obtain⟨a2,c2,rfl,hgr,hblk⟩:=hT.slice
     have HT:Hid (Gw PnE 65 w.heap.size (fun _=>True) wr (.slice a2 ((cs.take k).flatten).length c2) ((cs.take k).flatten)):=hT
     clear hT
     by_cases hkn:k<cs.length
     . obtain⟨b,off,a1,c1,ea,hb,d0,hrow,hlb,_⟩:=HH.out.rw hB k hkn
       subst ea
       have hst:=zan hkn
       have hle:=zay cs (k+1)
       obtain⟨c,hc⟩:∃c,cs.getD k []=c:=⟨_,rfl⟩
       have HS:Hid (_):=zdz hkn hc
       rw[hc]at d0 hst hlb hrow
       have hll:((cs.take k).flatten).length+c.length<=1000000:=by omega
       have i1:(0:Int)<=(k:Int):=by omega
       have i2:(k:Int)<(cs.length:Int):=by omega
       have hbs:w.heap.size<=wr.heap.size:=hB.size
       clear hc hst hle hlb hgr hblk
       generalize (cs.take k).flatten=L at *
       go_wp2_with (at_builtin;refine zad 63 65 Tryz.underlying63 zcx rfl (by decide) (by decide) rfl _ _ rfl w.heap.size (fun _=>True) _ L rfl HT.out a1 c1 _ c rfl rfl hrow.anyP hll hbs ?_)
       intro v9 w9 hT9 hgrow _
       have hB9:Below w.heap.size w w9:=hB.grown hgrow hbs (fun k hk=>(HT.out.lo hk).1)
       rw[<-HS.out]at hT9;clear hgrow hbs hll HS;go_wp2
       go_roundw
       case rel=>exact⟨k+1,by omega,by go_num,hT9,hB9⟩
       case measure=>simp[intOf];omega
     . obtain rfl:k=cs.length:=by omega
       rw[List.take_length]at HT hgr ⊢
       have HB2:Hid (∀b o,a2=some ⟨b,o,none⟩->w.heap.size<=b/\b<wr.heap.size):=hblk
       have g4:¬(cs.length:Int)<(cs.length:Int):=by omega
       clear hblk;go_wp2
       go_ret
       exact⟨a2,c2,rfl,hgr,HB2.out,hB⟩
theorem zdj(S:Nat->Prop)(a:OA)(ca:Nat)(vb:Value)(cs:List (List Pn))(w:World)(h:Gr PnE.row S w a ca cs)(hl:cs.flatten.length<=100000)(hv:vb.cells=#[vb]) :
 Calls Tryz.prog 128 #[.agg #[.slice a cs.length ca,vb]] w fun e w'=>∃a' c',e=.returned (.slice a' cs.flatten.length c')/\Gr PnE (fun _=>True) w' a' c' cs.flatten/\(∀b o,a'=some ⟨b,o,none⟩->w.heap.size<=b/\b<w'.heap.size)/\Below w.heap.size w w':=by
 obtain⟨W,hW,X1,hbW⟩:∃W,W=w.alloc (.cells #[.slice a cs.length ca,vb] 57)/\Bk 57 W w.heap.size [.slice a cs.length ca,vb]/\Below w.heap.size w W:=⟨_,rfl,Bk.new _ _ _,bl1 _⟩
 have hc1:=zms S a ca cs W (h.below hbW) hl
 obtain⟨x0,x1,_⟩:=X1.two;clear X1 h
 generalize cs.flatten=L at *
 go_enter Tryz.func128,Tryz.ntmps128
 go_wp2_with fail
 rw[<-hW];clear hW
 refine hc1.mono ?_
 rintro e u1 ⟨a1,c1,rfl,hg,hblk,hb1⟩
 have HBK:Hid (∀b o,a1=some ⟨b,o,none⟩->w.heap.size<=b/\b<u1.heap.size):=fun b o e=>⟨Nat.le_trans hbW.size (hblk b o e).1,(hblk b o e).2⟩
 replace hbW:Below w.heap.size w u1:=hbW.trans (hb1.mono hbW.size)
 clear hc1 hb1 hblk;go_wp2
 go_ret
 exact⟨a1,c1,rfl,hg,HBK.out,hbW⟩
theorem zk4{cs:List (List Pn)}{k:Nat}{c:List Pn}(hk:k<cs.length)(hc:cs.getD k []=c):endF 0 (cs.take (k+1))=endF 0 (cs.take k)++[(((cs.take k).flatten).length:Int)+(c.length:Int)-1]:=by
 rw[zaj (d:=[]) hk,zg4,hc]
 simp[endF]
theorem zk9(S:Nat->Prop)(a:OA)(ca:Nat)(vb:Value)(cs:List (List Pn))(w:World)(h:Gr PnE.row S w a ca cs)(hl:cs.flatten.length<=100000)(hn:cs.length<=100000)(hv:vb.cells=#[vb]) :
 Calls Tryz.prog 131 #[.agg #[.slice a cs.length ca,vb]] w fun e w'=>∃a' c',e=.returned (.slice a' (endF 0 cs).length c')/\Ri w' a' c' (endF 0 cs)/\(∀b o,a'=some ⟨b,o,none⟩->w.heap.size<=b/\b<w'.heap.size)/\Below w.heap.size w w':=by
 obtain⟨W,hW,X1,hbW⟩:∃W,W=w.alloc (.cells #[.slice a cs.length ca,vb] 57)/\Bk 57 W w.heap.size [.slice a cs.length ca,vb]/\Below w.heap.size w W:=⟨_,rfl,Bk.new _ _ _,bl1 _⟩
 obtain⟨i0,hi0,hz0,hz1,hz2⟩:=info_parts zcc
 obtain⟨w1,hmk,hown,hgrow⟩:=run_makeSlice_owned W w.heap.size 29 3 i0 _ 1 Tryz.underlying29 hi0 hz0 hz1 .i64 .i64 cs.length (by omega) (by rw[hz2];omega) (by unfold maxLen;omega) hbW.size
 have hI0:Io w.heap.size w1 (.slice (some ⟨W.heap.size,0,none⟩) 0 cs.length) (endF 0 (cs.take 0)):=⟨fun t ht=>(by cases ht),hown⟩
 have hB1:Below W.heap.size W w1:=(Below.refl _ _).grown hgrow (Nat.le_refl _) (fun k hk=>by cases hk)
 have X2:=X1.below hB1
 obtain⟨x0,x1,_⟩:=X1.two;obtain⟨y0,y1,_⟩:=X2.two
 have HH:Hid (Gr PnE.row S w a ca cs):=h
 have HB0:Hid (Below w.heap.size w w1):=hbW.trans (hB1.mono hbW.size)
 clear h hown hgrow hi0 hz0 hz1 hz2 X1 X2 hB1
 have hsz:W.heap.size=w.heap.size+1:=by rw[hW];simp
 rw[hsz]at hmk hI0;rw[hW]at hmk;clear hsz
 go_enter Tryz.func131,Tryz.ntmps131
 go_wp2;clear hW x0 x1 y0 y1 hbW hmk
 go_loopw [3,4,14] (fun v la i wr=>∃k m:Nat,k<=cs.length/\i=.int .i64 k/\la=.int .i64 ((m:Int)-1)/\m=((cs.take k).flatten).length/\Io w.heap.size wr v (endF 0 (cs.take k))/\Below w.heap.size w wr) (fun _ _ i _=>cs.length-(intOf i).toNat)
 case atStart=>exact⟨0,0,Nat.zero_le _,rfl,rfl,rfl,hI0,HB0.out⟩
 case round =>
  clear hI0 HB0;obtain⟨k,m,hk,rfl,rfl,hm,hT,hB⟩:=hrel;obtain⟨a2,c2,rfl,hts⟩:=hT.slice
  have hlen:(endF 0 (cs.take k)).length=k:=by rw[zbo,List.length_take];omega
  have HM:Hid (m=((cs.take k).flatten).length):=hm
  have HT:Hid (Io w.heap.size wr (.slice a2 (endF 0 (cs.take k)).length c2) (endF 0 (cs.take k))):=hT
  have hll:(endF 0 (cs.take k)).length+1<=1000000:=by omega
  clear hm hT hlen
  by_cases hkn:k<cs.length
  . obtain⟨b,off,a1,c1,ea,hb,d0,hrow,hlb,_⟩:=HH.out.rw hB k hkn
    subst ea
    have hst:=zan hkn
    have hle:=zay cs (k+1)
    rw[<-HM.out]at hst
    obtain⟨c,hc⟩:∃c,cs.getD k []=c:=⟨_,rfl⟩
    have HS:Hid (_):=zk4 hkn hc
    rw[<-HM.out]at HS;rw[hc]at d0 hst hlb
    have HM2:Hid (m+c.length=((cs.take (k+1)).flatten).length):=hst.symm
    have hmc:m+c.length<=100000:=by omega
    have i1:(0:Int)<=(k:Int):=by omega
    have i2:(k:Int)<(cs.length:Int):=by omega
    obtain⟨y,hy⟩:∃y,(m:Int)+(c.length:Int)-1=y:=⟨_,rfl⟩
    have hy2:(m:Int)-1+(c.length:Int)=y:=by omega
    have HY:Hid (((m+c.length:Nat):Int)-1=y):=by show _=_;omega
    rw[hy]at HS
    have hyi:I64 y:=⟨by omega,by omega⟩
    have hT5:=HT.out.below (bl1 (.cells #[.int .i64 y] 3))
    have hN:=heap_alloc_new wr (.cells #[.int .i64 y] 3)
    have n0:=cell_of_row _ wr.heap.size 0 _ _ (0,0) hN
    have hbs:w.heap.size<=(wr.alloc (.cells #[.int .i64 y] 3)).heap.size:=Nat.le_trans hB.size (bl1 _).size
    clear hc hst hle hrow HM hlb hN hy hts
    generalize endF 0 (cs.take k)=L at *
    go_wp2_with (at_builtin;refine zal rfl _ _ rfl w.heap.size _ L rfl hT5 wr.heap.size y rfl n0 hyi hll hbs ?_)
    intro v' w9 hT9 hgrow
    have hB9:Below w.heap.size w w9:=(hB.alloc hB.size _).grown hgrow hbs (fun k hk=>HT.out.lo hk)
    rw[<-HS.out]at hT9;clear hgrow hT5 n0 hbs hll HS;go_wp2
    go_roundw
    case rel=>exact⟨k+1,m+c.length,by omega,by go_num,by rw[HY.out],HM2.out,hT9,hB9⟩
    case measure=>simp[intOf];omega
  . obtain rfl:k=cs.length:=by omega
    rw[List.take_length]at HT hts ⊢
    have HB2:Hid (∀b o,a2=some ⟨b,o,none⟩->w.heap.size<=b/\b<wr.heap.size):=fun b o e=>by
     subst e
     exact World.ownsRow.lt HT.out.2 b rfl
    have g4:¬(cs.length:Int)<(cs.length:Int):=by omega
    clear HM hll;go_wp2
    go_ret
    exact⟨a2,c2,rfl,hts,HB2.out,hB⟩
def Kp(g:Nat)(w w':World):Prop:=Keep (fun k=>k<w.heap.size/\k≠g) w w'
theorem Kp.refl(g:Nat)(w:World):Kp g w w:=Keep.refl _ _
theorem Kp.size{g:Nat}{w w':World}(h:Kp g w w'):w.heap.size<=w'.heap.size:=Keep.size h
theorem Kp.trans{g:Nat}{a b c:World}(h:Kp g a b)(k:Kp g b c):Kp g a c :=
 Keep.trans h (Keep.mono k (fun i hi=>⟨Nat.lt_of_lt_of_le hi.1 h.size,hi.2⟩))
theorem Kp.of{g:Nat}{w w':World}(h:Below w.heap.size w w'):Kp g w w':=Keep.of_below h (fun k hk=>hk.1)
theorem Kp.setCell{g:Nat}{a w:World}(h:Kp g a w)(j:Nat)(z:Value):Kp g a (w.setCell ⟨g,j,none⟩ z):=Keep.setCell h (p:=⟨g,j,none⟩) (fun e=>e.2 rfl) z
theorem Kp.below{g B:Nat}{w w':World}(h:Kp g w w')(h1:B<=w.heap.size)(h2:B<=g):Below B w w':=Keep.below h (fun k hk=>⟨by omega,by omega⟩)
theorem Kp.alloc{g:Nat}{a w:World}(h:Kp g a w)(o:Obj):Kp g a (w.alloc o):=h.trans (Kp.of (bl1 o))
theorem Kp.drew{g:Nat}{a w:World}(h:Kp g a w):Kp g a w.drew:=h.trans (Kp.of (Below.refl _ _).drew)
theorem Kp.grown{g:Nat}{a w w':World}{r:Option Nat}(h:Kp g a w)(hg:w.grownBy w' r)(hr:∀k,r=some k->a.heap.size<=k):Kp g a w' :=
 Keep.trans h ⟨hg.os,hg.tape,hg.output,hg.size,fun k hk=>hg.block k (Nat.lt_of_lt_of_le hk.1 h.size) (fun e=>by have:=hr k e.symm;omega)⟩
theorem Kp.block{g:Nat}{w w':World}(h:Kp g w w'){k:Nat}(h1:k<w.heap.size)(h2:k≠g):w'.heap[k]?=w.heap[k]?:=Keep.block h k ⟨h1,h2⟩
theorem Bk.kp{t:TypeId}{g b:Nat}{w w':World}{cs:List Value}(h:Bk t w b cs)(hk:Kp g w w')(hb:b≠g):Bk t w' b cs:=(hk.block h.lt hb).trans h
theorem Bk.ne{t u:TypeId}{w:World}{g b:Nat}{cs ds:List Value}(h:Bk t w b cs)(h2:Bk u w g ds)(ht:t≠u):b≠g:=by
 intro e
 subst e
 unfold Bk at h h2
 rw[h]at h2
 simp at h2
 exact ht h2.2
theorem Gw.kp{α:Type}{E:El α}{t u:TypeId}{base g:Nat}{w w':World}{v:Value}{l:List α}{cs:List Value}(h:Gw E t base (fun _=>False) w v l)(hb:Bk u w g cs)(ht:u≠t)(hk:Kp g w w'):Gw E t base (fun _=>False) w' v l:=by
 refine h.stay hk.size (fun k h1=>h1.elim) (fun k hv=>hk.block (h.lo hv).2 (fun e=>?_))
 obtain⟨cur,k1⟩:=h.ty hv
 rw[e,hb]at k1
 simp at k1
 exact ht k1.2
theorem Gi.kp{u:TypeId}{base g:Nat}{w w':World}{v:Value}{l:List Int}{cs:List Value}(h:Gi base w v l)(hb:Bk u w g cs)(ht:u≠3)(hk:Kp g w w'):Gi base w' v l:=Gw.kp h hb ht hk
theorem Rb.keep'{w w':World}{a:OA}{cap:Nat}{xs:LN}(h:Rb w a cap xs)(hs:w.heap.size<=w'.heap.size)(hb:∀b o,b<w.heap.size->a=some ⟨b,o,none⟩->xs≠[]->w'.heap[b]?=w.heap[b]?):Rb w' a cap xs:=by
 by_cases h0:xs=[]
 . exact⟨h.1,h.2.1,h.2.2.1,h.2.2.2.1,.inl h0⟩
 . exact h.keep hs (fun b hb1 ⟨o,e⟩=>hb b o hb1 e h0)
def Sc(t:TypeId)(w:World)(g:Nat)(pa:OA)(pc:Nat)(xs:LN)(p:Nat):Prop :=
 Bk t w g [.slice pa xs.length pc,.int .i64 (p:Int)]/\Rb w pa pc xs/\∀b o,pa=some ⟨b,o,none⟩->xs≠[]->b≠g
theorem Sc.bk{t:TypeId}{w:World}{g:Nat}{pa:OA}{pc:Nat}{xs:LN}{p:Nat}(h:Sc t w g pa pc xs p):Bk t w g [.slice pa xs.length pc,.int .i64 (p:Int)]:=h.1
theorem Sc.rb{t:TypeId}{w:World}{g:Nat}{pa:OA}{pc:Nat}{xs:LN}{p:Nat}(h:Sc t w g pa pc xs p):Rb w pa pc xs:=h.2.1
theorem Sc.below{t:TypeId}{w w':World}{g:Nat}{pa:OA}{pc:Nat}{xs:LN}{p:Nat}(h:Sc t w g pa pc xs p)(hb:Below w.heap.size w w'):Sc t w' g pa pc xs p:=⟨h.1.below hb,h.2.1.below hb,h.2.2⟩
theorem Sc.step{t:TypeId}{w:World}{g:Nat}{pa:OA}{pc:Nat}{xs:LN}{p:Nat}(h:Sc t w g pa pc xs p)(q:Nat):Sc t (w.setCell ⟨g,1,none⟩ (.int .i64 (q:Int))) g pa pc xs q :=
 ⟨h.1.set 1 _,h.2.1.keep' (by simp[World.setCell]) (fun b o _ e hne=>Below.heap_setCell _ _ _ _ (fun e2=>h.2.2 b o e hne e2)),h.2.2⟩
theorem Sc.grown{t:TypeId}{w w':World}{g:Nat}{pa:OA}{pc:Nat}{xs:LN}{p:Nat}{r:Option Nat}(h:Sc t w g pa pc xs p)(hg:w.grownBy w' r)(hr:r≠some g)(hb:∀b o,pa=some ⟨b,o,none⟩->xs≠[]->r≠some b):Sc t w' g pa pc xs p :=
 ⟨h.1.grown hg hr,h.2.1.keep' hg.size (fun b o hb1 e hne=>hg.block b hb1 (fun e2=>hb b o e hne e2.symm)),h.2.2⟩
theorem Gw.low{α:Type}{E:El α}{t:TypeId}{base base':Nat}{S:Nat->Prop}{w:World}{v:Value}{l:List α}(h:Gw E t base S w v l)(hb:base'<=base):Gw E t base' S w v l:=by
 obtain⟨vss,hl,⟨k1,k2⟩,h4⟩:=h
 refine⟨vss,hl,⟨k1,?_⟩,h4⟩
 rcases k2 with k2|⟨g,cap,cur,e,hg,r⟩
 . exact .inl k2
 . exact .inr ⟨g,cap,cur,e,Nat.le_trans hb hg,r⟩
theorem Gw.form{α:Type}{E:El α}{t:TypeId}{base:Nat}{S:Nat->Prop}{w:World}{v:Value}{l:List α}(h:Gw E t base S w v l){q:Nat}(hq:v.ownBlock=some q):∃cap,v=.slice (some ⟨q,0,none⟩) l.length cap:=by
 obtain⟨vss,hl,⟨k1,k2⟩,h4⟩:=h
 rcases k2 with ⟨e,_⟩|⟨g,cap,cur,e,hg,r⟩
 . rw[e]at hq;cases hq
 . rw[e]at hq
   have:some g=some q:=hq
   injection this with this;subst this
   exact⟨cap,e⟩
theorem Gw.widenU{α:Type}{E:El α}{t:TypeId}{base:Nat}{S S':Nat->Prop}{w:World}{v:Value}{l:List α}(h:Gw E t base S w v l)(hS:∀k,S k->k<w.heap.size->S' k):Gw E t base S' w v l :=
 h.stay (Nat.le_refl _) (fun k h1 _ h2=>⟨hS k h1 h2,rfl⟩) (fun _ _=>rfl)
theorem Bk.set2U{t:TypeId}{w:World}{g:Nat}{x y:Value}(h:Bk t w g [x,y])(x' y':Value):Bk t ((w.setCell ⟨g,0,none⟩ x').setCell ⟨g,1,none⟩ y') g [x',y']:=(h.set 0 x').set 1 y'
theorem zac{w:World}{g b:Nat}(x' y':Value)(hb:b≠g):((w.setCell ⟨g,0,none⟩ x').setCell ⟨g,1,none⟩ y').heap[b]?=w.heap[b]?:=by
 rw[Below.heap_setCell _ _ _ _ (fun e=>hb e),Below.heap_setCell _ _ _ _ (fun e=>hb e)]
theorem zbi{w:World}{g:Nat}(x' y':Value):((w.setCell ⟨g,0,none⟩ x').setCell ⟨g,1,none⟩ y').heap.size=w.heap.size:=by simp[World.setCell]
def PkE:El (Nat×List Pn) where
 sz:=1
 dfl:=(0,[])
 rep:=fun S w vs x=>∃cap,vs=[.slice (some ⟨x.1,0,none⟩) x.2.length cap]/\S x.1/\Gw PnE 65 0 (fun _=>False) w (.slice (some ⟨x.1,0,none⟩) x.2.length cap) x.2/\x.2.length<=140737488351232
 len:=fun⟨cap,e,_⟩=>by rw[e];rfl
 one:=fun⟨cap,e,_⟩ u hu=>by rw[e]at hu;rw[List.mem_singleton.1 hu];rfl
 stay:=fun {S S' w w' vs x} ⟨cap,e,hS,h,hb⟩ hs hk=>by
  have hlt:=(h.lo (g:=x.1) rfl).2
  refine⟨cap,e,(hk x.1 hS hlt).1,h.stay hs (fun k h=>h.elim) (fun k hk'=>?_),hb⟩
  have hk2:some x.1=some k:=hk'
  injection hk2 with hk2;subst hk2
  exact(hk x.1 hS hlt).2
theorem z3o{S:Nat->Prop}{w:World}{vs:List Value}{x:Nat×List Pn}(h:PkE.rep S w vs x):PnE.row.rep S w vs x.2:=by
 obtain⟨cap,e,hS,hg,hb⟩:=h;obtain⟨a,c,e2,hr,_⟩:=hg.slice;injection e2 with e3 e4 e5;subst e3 e5
 refine⟨_,_,e,fun b o e6 _=>?_,hr.anyP,hb⟩
 cases e6
 exact hS
theorem zxo{L:List (Nat×List Pn)}{i:Nat}(hi:i<L.length):(L.map Prod.snd).getD i []=(L.getD i (0,[])).2:=by simp[List.getD,hi]
theorem Gw.rows{t:TypeId}{base:Nat}{S:Nat->Prop}{w:World}{v:Value}{L:List (Nat×List Pn)}(h:Gw PkE t base S w v L):Gw PnE.row t base S w v (L.map Prod.snd):=by
 obtain⟨vss,hl,h3,h4⟩:=h
 refine⟨vss,by rw[List.length_map];exact hl,by rw[List.length_map];exact h3,fun i hi=>?_⟩
 rw[List.length_map]at hi
 rw[show PnE.row.dfl=[]from rfl,zxo hi]
 exact z3o (h4 i hi)
theorem Gw.ids{t:TypeId}{base:Nat}{S:Nat->Prop}{w:World}{v:Value}{L:List (Nat×List Pn)}(h:Gw PkE t base S w v L):∀x∈L,S x.1/\x.1<w.heap.size:=by
 obtain⟨vss,hl,h3,h4⟩:=h
 intro x hx
 obtain⟨i,hi,e⟩:=List.getElem_of_mem hx
 obtain⟨cap,e1,hS,hg,hb⟩:=h4 i hi
 have e2:L.getD i PkE.dfl=x:=by rw[List.getD_eq_getElem?_getD,List.getElem?_eq_getElem hi,Option.getD_some,e]
 rw[e2]at hS hg
 exact⟨hS.1,(hg.lo rfl).2⟩
theorem zzv{S:Nat->Prop}{w:World}{base q cap:Nat}{c:List Pn}(h:Gw PnE 65 base (fun _=>False) w (.slice (some ⟨q,0,none⟩) c.length cap) c)(hS:S q)(hb:c.length<=140737488351232):PkE.rep S w [.slice (some ⟨q,0,none⟩) c.length cap] (q,c) :=
 ⟨cap,rfl,hS,h.low (Nat.zero_le _),hb⟩
theorem zhq{L:List (Nat×List Pn)}{x:Nat×List Pn}(h:(L.map Prod.fst).Nodup)(hx:∀y∈L,y.1≠x.1):((L++[x]).map Prod.fst).Nodup:=by
 rw[List.map_append,List.nodup_append]
 refine⟨h,by simp,fun a ha b hb=>?_⟩
 obtain⟨y,hy,rfl⟩:=List.mem_map.1 ha
 have:b=x.1:=by simpa using hb
 rw[this]
 exact hx y hy
theorem zss{L M:List (Nat×List Pn)}(h:(L.map Prod.fst).Nodup)(k:(M.map Prod.fst).Nodup)(hx:∀x∈L,∀y∈M,x.1≠y.1):((L++M).map Prod.fst).Nodup:=by
 rw[List.map_append,List.nodup_append]
 refine⟨h,k,fun a ha b hb=>?_⟩
 obtain⟨x,hx1,rfl⟩:=List.mem_map.1 ha
 obtain⟨y,hy1,rfl⟩:=List.mem_map.1 hb
 exact hx x hx1 y hy1
def rawE(v:Value):Option (DataW Value×List MemPlace):=some (.held v,[])
theorem keyN:Keyed Tryz.prog 3:=int_keyed Tryz.underlying3
theorem wfI{z:Int}(h:I64 z):(Lit.int .i64 z).wf=true:=WalkArith.wf_i64 h
theorem zn2{z:Int}(h:I64 z):keyOf Tryz.prog 3 (.int .i64 z)=some (.int .i64 z):=keyOf_int_mk Tryz.underlying3 (wfI h)
theorem zup{D:DataW Value}{k:Lit}(h:Maps.has D k=false)(z:DataW Value):D.atKey k z=z:=by
 cases D <;> try rfl
 rename_i es
 have h2:es.any (fun p=>p.1.sameKey k)=false:=h
 have h3:es.find? (fun p=>p.1.sameKey k)=none:=List.find?_eq_none.2 (fun p hp=>by
  have:=List.any_eq_false.1 h2 p hp
  simpa using this)
 unfold DataW.atKey
 simp only[h3]
def Mp(w:World)(b n:Nat)(F:Int->Option Value):Prop:=∃D:DataW Value,w.ownsMap Tryz.prog 3 rawE b n D/\∀z,Maps.has D (.int .i64 z)=(F z).isSome/\∀v,F z=some v->∀zd,D.atKey (.int .i64 z) zd=.held v
theorem Mp.made(w:World):Mp (w.alloc (.map #[] 0)) w.heap.size 0 (fun _=>none):=⟨_,World.ownsMap_made w Tryz.prog 3 rawE,fun z=>⟨by simp[Maps.has],fun v e=>by cases e⟩⟩
theorem Mp.lt{w:World}{b n:Nat}{F:Int->Option Value}(h:Mp w b n F):b<w.heap.size:=by
 obtain⟨D,h1,_⟩:=h
 exact h1.lt
theorem Mp.stay{w w':World}{b n:Nat}{F:Int->Option Value}(h:Mp w b n F)(hb:w'.heap[b]?=w.heap[b]?):Mp w' b n F:=by
 obtain⟨D,⟨es,clock,k1,k2⟩,h2⟩:=h
 exact⟨D,⟨es,clock,hb.trans k1,k2⟩,h2⟩
theorem Mp.below{w w':World}{b n:Nat}{F:Int->Option Value}(h:Mp w b n F)(hb:Below w.heap.size w w'):Mp w' b n F:=h.stay (hb.block b h.lt)
theorem Mp.mono{w:World}{b n m:Nat}{F:Int->Option Value}(h:Mp w b n F)(hn:n<=m):Mp w b m F:=by
 obtain⟨D,h1,h2⟩:=h
 exact⟨D,h1.mono hn,h2⟩
theorem zc2{w:World}{ops:Array Oper}{rest:List Oper}{o:Oper}{a:Act}{Q:Exit->Act->World->Prop}(t e:TypeId)(ht:Tryz.prog.underlying t=some (.map 3 e)){z0:Value}(hz:(zeroValue e).run Tryz.prog w=.ok z0 w)
    (hg:o.guard=none) (m x:Operand) (hop:o.op=Op.lookup t m x true) (b n:Nat) (F:Int->Option Value) (z:Int) (hi:I64 z) (h:Mp w b n F) (hm:a.eval m=.map (some b)) (hx:a.eval x=.int .i64 z) (v:Value) (hF:F z=some v)
    (hK:wpList Tryz.prog ops Q rest (a.put o.dst (.tuple #[v,.bool true])) w):wpList Tryz.prog ops Q (o::rest) a w:=by
 obtain⟨D,h1,h2⟩:=h
 refine wpList_lookup_own_ok w hg m x t hop 3 e keyN ht rawE hz (.held z0) [] rfl b n D hm h1 _ _ hx (zn2 hi) (fun u ps hu=>?_)
 obtain⟨k1,k2⟩:=h2 z
 rw[k2 v hF]at hu
 have:u=v:=by unfold rawE at hu;simp at hu;exact hu.1
 rw[this,k1,hF]
 exact hK
theorem zc3{w:World}{ops:Array Oper}{rest:List Oper}{o:Oper}{a:Act}{Q:Exit->Act->World->Prop}(t e:TypeId)(ht:Tryz.prog.underlying t=some (.map 3 e)){z0:Value}(hz:(zeroValue e).run Tryz.prog w=.ok z0 w)
    (hg:o.guard=none) (m x:Operand) (hop:o.op=Op.lookup t m x true) (b n:Nat) (F:Int->Option Value) (z:Int) (hi:I64 z) (h:Mp w b n F) (hm:a.eval m=.map (some b)) (hx:a.eval x=.int .i64 z) (hF:F z=none)
    (hK:wpList Tryz.prog ops Q rest (a.put o.dst (.tuple #[z0,.bool false])) w):wpList Tryz.prog ops Q (o::rest) a w:=by
 obtain⟨D,h1,h2⟩:=h
 obtain⟨k1,k2⟩:=h2 z
 have hno:Maps.has D (.int .i64 z)=false:=by rw[k1,hF];rfl
 have hat:D.atKey (.int .i64 z) (.held z0)=.held z0:=zup hno _
 refine wpList_lookup_own_ok w hg m x t hop 3 e keyN ht rawE hz (.held z0) [] rfl b n D hm h1 _ _ hx (zn2 hi) (fun u ps hu=>?_)
 rw[hat]at hu
 have:u=z0:=by unfold rawE at hu;simp at hu;exact hu.1
 rw[this,hno]
 exact hK
def Fup(F:Int->Option Value)(z:Int)(v:Value):Int->Option Value:=fun y=>if y=z then some v else F y
theorem zh7{w:World}{ops:Array Oper}{rest:List Oper}{o:Oper}{a:Act}{Q:Exit->Act->World->Prop}(t e:TypeId)(ht:Tryz.prog.underlying t=some (.map 3 e))
    (hg:o.guard=none) (m x y:Operand) (hop:o.op=Op.mapUpdate t m x y) (b n:Nat) (F:Int->Option Value) (z:Int) (v:Value) (hi:I64 z) (h:Mp w b n F) (hn:n<=1000000000000) (hm:a.eval m=.map (some b)) (hx:a.eval x=.int .i64 z) (hy:a.eval y=v)
    (hK:∀w',Mp w' b (n+1) (Fup F z v)->w.grownBy w' (some b)->wpList Tryz.prog ops Q rest (a.put o.dst undef) w'):wpList Tryz.prog ops Q (o::rest) a w:=by
 obtain⟨D,h1,h2⟩:=h
 have hmap:=h1.isMap
 refine wpList_mapUpdate_own w hg m x y t hop 3 e keyN ht rawE b n D hm h1 (by unfold maxLen;omega) _ _ _ hx hy (zn2 hi) (.held v) [] rfl (fun w' k1 k2=>hK w' ⟨_,k1,fun u=>?_⟩ k2)
 unfold Fup
 by_cases hu:u=z
 . subst hu
   rw[if_pos rfl]
   refine⟨has_put_same hmap (show WideAt.IsKeyLit (.int .i64 u)from trivial) _,fun v' e' zd=>?_⟩
   rw[<-Option.some.inj e']
   exact atKey_put_same hmap (show WideAt.IsKeyLit (.int .i64 u)from trivial) _ _
 . rw[if_neg hu]
   have hne:(Lit.int .i64 u)≠.int .i64 z:=fun e'=>hu (by injection e')
   refine⟨(has_put_other hne _).trans (h2 u).1,fun v' e' zd=>?_⟩
   rw[atKey_put_other hne]
   exact(h2 u).2 v' e' zd
theorem zqu{w:World}{o:Oper}{a:Act}{K:Act->World->Prop}{Q:Exit->Act->World->Prop}(t e:TypeId)(ht:Tryz.prog.underlying t=some (.map 3 e))
    (m x y:Operand) (hop:o.op=Op.mapUpdate t m x y) (b n:Nat) (F:Int->Option Value) (z:Int) (v:Value) (hi:I64 z) (h:Mp w b n F) (hn:n<=1000000000000) (hm:a.eval m=.map (some b)) (hx:a.eval x=.int .i64 z) (hy:a.eval y=v)
    (hK:∀w',Mp w' b (n+1) (Fup F z v)->w.grownBy w' (some b)->K (a.put o.dst undef) w'):o.wp Tryz.prog a w K Q:=by
 obtain⟨D,h1,h2⟩:=h
 have hmap:=h1.isMap
 obtain⟨w',hrun,k1,k2⟩:=h1.update keyN ht (by unfold maxLen;omega) (zn2 hi) (show rawE v=some (.held v,[])from rfl)
 unfold Oper.wp
 simp[execOp,hop,hm,hx,hy,hrun,Result.andThen]
 refine hK w' ⟨_,k1,fun u=>?_⟩ k2
 unfold Fup
 by_cases hu:u=z
 . subst hu
   rw[if_pos rfl]
   refine⟨has_put_same hmap (show WideAt.IsKeyLit (.int .i64 u)from trivial) _,fun v' e' zd=>?_⟩
   rw[<-Option.some.inj e']
   exact atKey_put_same hmap (show WideAt.IsKeyLit (.int .i64 u)from trivial) _ _
 . rw[if_neg hu]
   have hne:(Lit.int .i64 u)≠.int .i64 z:=fun e'=>hu (by injection e')
   refine⟨(has_put_other hne _).trans (h2 u).1,fun v' e' zd=>?_⟩
   rw[atKey_put_other hne]
   exact(h2 u).2 v' e' zd
theorem zbr(a:OA)(cap:Nat)(r:List Int)(w:World)(h:Ri w a cap r) :
 Calls Tryz.prog 227 #[.slice a r.length cap] w fun e w'=>e=.returned (.bool (r.all fdB))/\w=w':=by
 have k2:=h.lenB
 have HH:Hid (Ri w a cap r):=h
 clear h
 go_enter Tryz.func227,Tryz.ntmps227
 go_wp2
 go_loopw [7] (fun i wr=>∃k:Nat,k<=r.length/\i=.int .i64 k/\(∀j,j<k->fdB (r.getD j 0)=true)/\w=wr) (fun i _=>r.length-(intOf i).toNat)
 case atStart=>exact⟨0,Nat.zero_le _,rfl,(fun j hj=>by omega),rfl⟩
 case round =>
  obtain⟨k,hk,rfl,hok,rfl⟩:=hrel
  have HOK:Hid (∀j,j<k->fdB (r.getD j 0)=true):=hok
  clear hok
  by_cases hkn:k<r.length
  . obtain⟨b,off,ea,hb,d0⟩:=HH.out.at (Below.refl _ _) k hkn
    subst ea
    obtain⟨z,hzz⟩:∃z,r.getD k 0=z:=⟨_,rfl⟩
    have HZ:Hid (r.getD k 0=z):=hzz
    rw[hzz]at d0
    have i1:(0:Int)<=(k:Int):=by omega
    have i2:(k:Int)<(r.length:Int):=by omega
    have hw1:=zf8 z
    have hw2:=zew z
    clear hzz
    cases hf:fdB z with
    | false =>
     have HF:Hid (r.all fdB=false):=zhf hkn (by rw[HZ.out];exact hf)
     rw[hf]at hw2;clear hf HZ HOK;go_wp2
     go_ret
     exact⟨zaa HF.out.symm,rfl⟩
    | true =>
     have zea:Hid (∀j,j<k+1->fdB (r.getD j 0)=true):=za4 HOK.out (by rw[HZ.out];exact hf)
     rw[hf]at hw2;clear hf HZ HOK;go_wp2
     go_roundw
     case rel=>exact⟨k+1,by omega,by go_num,zea.out,trivial⟩
     case measure=>simp[intOf];omega
  . obtain rfl:k=r.length:=by omega
    have HF:Hid (r.all fdB=true):=zet HOK.out
    have g1:¬(r.length:Int)<(r.length:Int):=by omega
    clear HOK;go_wp2
    go_ret
    exact⟨zaa HF.out.symm,rfl⟩
def Rl(w:World)(a:OA)(cap:Nat)(ts:List Bool):Prop:=Gr El.bool (fun _=>False) w a cap ts
theorem Rl.of{S:Nat->Prop}{w:World}{a:OA}{cap:Nat}{ts:List Bool}(h:Gr El.bool S w a cap ts):Rl w a cap ts:=⟨h.1,h.2.1,h.2.2.1,h.2.2.2⟩
theorem Rl.lenB{w:World}{a:OA}{cap:Nat}{ts:List Bool}(h:Rl w a cap ts):ts.length<=9223372036854775807:=Gr.lenB h
theorem Rl.below{w w':World}{a:OA}{cap:Nat}{ts:List Bool}(h:Rl w a cap ts)(hb:Below w.heap.size w w'):Rl w' a cap ts:=Gr.below h hb
theorem Rl.at{w wr:World}{a:OA}{cap:Nat}{ts:List Bool}(h:Rl w a cap ts)(hb:Below w.heap.size w wr)(k:Nat)(hk:k<ts.length):∃b off,a=some ⟨b,off,none⟩/\b<w.heap.size/\wr.cell? ⟨b,off+k,none⟩=some (.bool (ts.getD k false)):=by
 obtain⟨b,off,vs,e,hb1,hr,hc⟩:=Gr.at h hb k hk
 have:=hc 0 Nat.one_pos
 rw[show vs=[.bool (ts.getD k false)]from hr,show k*El.bool.sz=k from Nat.mul_one k]at this
 exact⟨b,off,e,hb1,this⟩
theorem zrv(x n:Nat):Int.tmod (x:Int) (n:Int)=((x%n:Nat):Int):=by
 rw[Int.tmod_eq_emod_of_nonneg (by omega)];rfl
theorem zkn(f r:Nat->Nat)(s i:Nat)(a:OA)(cap:Nat)(ts:List Bool)(w:World)(h:Rl w a cap ts)(hi:i<ts.length)(hl:ts.length<=1000000)(hs:s<=1000000)
    (f0:(i+s)%ts.length=f 0) (f1:∀k,k+1<ts.length->(f k+s)%ts.length=f (k+1)) (f2:∀k,k<ts.length->f k<ts.length) (f3:∀k,k<ts.length-1->f k≠i) (f4:f (ts.length-1)=i) (f5:∀k,k<ts.length->r (f k)=k) :
    Calls Tryz.prog 286 #[.slice a ts.length cap,.int .i64 (i:Int),.int .i64 (s:Int)] w fun e w'=>e=.returned (.tuple #[.int .i64 (((nbT ts f (ts.length-1)).getD 0:Nat):Int),.bool (nbT ts f (ts.length-1)).isSome])/\w=w':=by
 have HF0:Hid ((i+s)%ts.length=f 0):=f0
 have HF1:Hid (∀k,k+1<ts.length->(f k+s)%ts.length=f (k+1)):=f1
 have HF2:Hid (∀k,k<ts.length->f k<ts.length):=f2
 have HF3:Hid (∀k,k<ts.length-1->f k≠i):=f3
 have HF4:Hid (f (ts.length-1)=i):=f4
 have HF5:Hid (∀k,k<ts.length->r (f k)=k):=f5
 have HH:Hid (Rl w a cap ts):=h
 obtain⟨n,hn⟩:∃n,ts.length=n:=⟨_,rfl⟩
 have HN:Hid (ts.length=n):=hn
 rw[hn]at hi hl f0 ⊢
 have q0:=zrv (i+s) n
 rw[f0]at q0
 have hf0:f 0<n:=by have:=f2 0 (by omega);omega
 have zb1:((i+s:Nat):Int)=(i:Int)+(s:Int):=by omega
 rw[zb1]at q0
 have g0:¬((n:Int)=0):=by omega
 clear hn h f0 f1 f2 f3 f4 zb1
 go_enter Tryz.func286,Tryz.ntmps286
 go_wp2
 go_loopw [9] (fun v wr=>∃k:Nat,k<n/\v=.int .i64 ((f k:Nat):Int)/\(∀j,j<k->ts.getD (f j) false=false)/\w=wr) (fun v _=>n-r (intOf v).toNat)
 case atStart=>exact⟨0,by omega,rfl,(fun j hj=>by omega),rfl⟩
 case round =>
  obtain⟨k,hk,rfl,hok,rfl⟩:=hrel
  have HOK:Hid (∀j,j<k->ts.getD (f j) false=false):=hok
  have hfk:f k<n:=by have:=HF2.out k (by rw[HN.out];exact hk);rw[HN.out]at this;exact this
  clear hok q0 hf0
  by_cases hkn:k<n-1
  . have hne:f k≠i:=HF3.out k (by rw[HN.out];exact hkn)
    obtain⟨b,off,ea,hb,d0⟩:=HH.out.at (Below.refl _ _) (f k) (by rw[HN.out];exact hfk)
    subst ea
    obtain⟨z,hzz⟩:∃z,ts.getD (f k) false=z:=⟨_,rfl⟩
    rw[hzz]at d0
    have hnx:=HF1.out k (by rw[HN.out];omega)
    have hf1:f (k+1)<n:=by have:=HF2.out (k+1) (by rw[HN.out];omega);rw[HN.out]at this;exact this
    have hr0:r (f k)=k:=HF5.out k (by rw[HN.out];omega)
    have hr1:r (f (k+1))=k+1:=HF5.out (k+1) (by rw[HN.out];omega)
    have HR:Hid (r (f k)=k/\r (f (k+1))=k+1):=⟨hr0,hr1⟩
    rw[HN.out]at hnx
    have q1:=zrv (f k+s) n
    rw[hnx]at q1
    have zb1:((f k+s:Nat):Int)=((f k:Nat):Int)+(s:Int):=by omega
    rw[zb1]at q1
    have HFK:Hid (k+1<n):=by show _<_;omega
    cases z with
    | true =>
     have HRES:Hid (nbT ts f (n-1)=some (f k)):=zwu hkn HOK.out hzz
     clear HOK hzz hnx hr0 hr1 HR zb1
     generalize f k=x at *
     have g1:¬((x:Int)=(i:Int)):=by omega
     have i1:(0:Int)<=(x:Int):=by omega
     have i2:(x:Int)<(n:Int):=by omega
     go_wp2
     go_ret2
     exact⟨by rw[HRES.out];rfl,rfl⟩
    | false =>
     have zea:Hid (∀j,j<k+1->ts.getD (f j) false=false):=za4 HOK.out hzz
     clear HOK hzz hnx hr0 hr1 zb1
     obtain⟨x,hx⟩:∃x,f k=x:=⟨_,rfl⟩
     obtain⟨y,hy⟩:∃y,f (k+1)=y:=⟨_,rfl⟩
     have HX:Hid (f k=x):=hx
     have HY:Hid (f (k+1)=y):=hy
     rw[hx]at hfk hne d0 q1 ⊢;rw[hy]at hf1 q1;clear hx hy
     have g1:¬((x:Int)=(i:Int)):=by omega
     have i1:(0:Int)<=(x:Int):=by omega
     have i2:(x:Int)<(n:Int):=by omega
     go_wp2
     go_roundw
     case rel=>exact⟨k+1,HFK.out,by rw[HY.out],zea.out,trivial⟩
     case measure =>
      have h1:=HR.out.1
      have h2:=HR.out.2
      have h3:=HFK.out
      rw[HX.out]at h1;rw[HY.out]at h2
      simp[intOf]
      omega
  . obtain rfl:k=n-1:=by omega
    have HRES:Hid (nbT ts f (n-1)=none):=zn0 HOK.out
    have hfe:f (n-1)=i:=by have:=HF4.out;rw[HN.out]at this;exact this
    rw[hfe]
    have g1:((i:Int)=(i:Int)):=rfl
    clear HOK hfe;go_wp2
    go_ret2
    exact⟨by rw[HRES.out];rfl,rfl⟩
theorem zsw(i:Nat)(a:OA)(cap:Nat)(ts:List Bool)(w:World)(h:Rl w a cap ts)(hi:i<ts.length)(hl:ts.length<=1000000) :
 Calls Tryz.prog 286 #[.slice a ts.length cap,.int .i64 (i:Int),.int .i64 ((ts.length-1:Nat):Int)] w fun e w'=>e=.returned (.tuple #[.int .i64 (((nbA ts i).getD 0:Nat):Int),.bool (nbA ts i).isSome])/\w=w' :=
 zkn (wyA ts.length i) (fun v=>if v<i then i-1-v else i+ts.length-1-v) (ts.length-1) i a cap ts w h hi hl (by omega) (zu6 hi) (fun k hk=>zu7 hi hk) (fun k hk=>zqs hi hk) (fun k hk=>zyq hi hk) (zz1 hi) (fun k hk=>by unfold wyA;split <;> split <;> omega)
theorem zsv(i:Nat)(a:OA)(cap:Nat)(ts:List Bool)(w:World)(h:Rl w a cap ts)(hi:i<ts.length)(hl:ts.length<=1000000) :
 Calls Tryz.prog 286 #[.slice a ts.length cap,.int .i64 (i:Int),.int .i64 1] w fun e w'=>e=.returned (.tuple #[.int .i64 (((nbB ts i).getD 0:Nat):Int),.bool (nbB ts i).isSome])/\w=w' :=
 zkn (wyB ts.length i) (fun v=>if i<v then v-1-i else v+ts.length-1-i) 1 i a cap ts w h hi hl (by omega) (zu3 hi) (fun k hk=>zu4 hi hk) (fun k hk=>zqr hi hk) (fun k hk=>zyp hi hk) (zz0 hi) (fun k hk=>by unfold wyB;split <;> split <;> omega)
theorem zkr(a x b y c:Int)(w:World)(ha:-32768<=a/\a<=32767)(hx:-32768<=x/\x<=32767)(hb:-32768<=b/\b<=32767)(hy:-32768<=y/\y<=32767)(hc:-32768<=c/\c<=32767) :
 Calls Tryz.prog 287 #[.agg #[.int .i64 a,.int .i64 x],.agg #[.int .i64 b,.int .i64 y],.int .i64 c] w fun e w'=>∃v',e=.returned v'/\Fr w' v' 7 (infQ a x b y c)/\Below w.heap.size w w':=by
 obtain⟨W,hW,X1,X2,B3,hbW⟩:∃W,W=(((w.alloc (.cells #[.int .i64 a,.int .i64 x] 314)).alloc (.cells #[.int .i64 b,.int .i64 y] 314)).alloc (.cells #[.bool false,.slice none 0 0,.slice none 0 0] 125))/\Bk 314 W w.heap.size [.int .i64 a,.int .i64 x]/\Bk 314 W (w.heap.size+1) [.int .i64 b,.int .i64 y]/\Box 125 W (w.heap.size+1+1) (.bool false) (.slice none 0 0) (.slice none 0 0)/\Below w.heap.size w W :=
  ⟨_,rfl,((Bk.new _ _ [.int .i64 a,.int .i64 x]).below (al1 _)).below (al1 _),(Bk.new1 _ _ _ [.int .i64 b,.int .i64 y]).below (al1 _),Box.new2 _ _ _ _ _ _ _,al3 _ _ _⟩
 obtain⟨V,hV,V1,V2,V3,hbV⟩:∃V,V=(((w.alloc (.cells #[.int .i64 b,.int .i64 y] 314)).alloc (.cells #[.int .i64 a,.int .i64 x] 314)).alloc (.cells #[.bool false,.slice none 0 0,.slice none 0 0] 125))/\Bk 314 V w.heap.size [.int .i64 b,.int .i64 y]/\Bk 314 V (w.heap.size+1) [.int .i64 a,.int .i64 x]/\Box 125 V (w.heap.size+1+1) (.bool false) (.slice none 0 0) (.slice none 0 0)/\Below w.heap.size w V :=
  ⟨_,rfl,((Bk.new _ _ [.int .i64 b,.int .i64 y]).below (al1 _)).below (al1 _),(Bk.new1 _ _ _ [.int .i64 a,.int .i64 x]).below (al1 _),Box.new2 _ _ _ _ _ _ _,al3 _ _ _⟩
 obtain⟨p0,p1,z0,z1⟩:=X1.two;obtain⟨p2,p3,z2,z3⟩:=X2.two
 rcases Int.lt_trichotomy a b with hab|hab|hab
 . by_cases h1:c<=a
   . have HE:Hid (infQ a x b y c=(x:Rat)):=by
       show _=_
       unfold infQ segQ
       rw[if_neg (by omega),if_pos hab,if_pos h1]
     have g0:decide (a=b)=false:=decide_eq_false (by omega)
     have g0b:(a==b)=false:=beq_false_of_ne (by omega)
     have g1:decide (a > b)=false:=decide_eq_false (by omega)
     have g1b:¬b<a:=by omega
     go_enter Tryz.func287,Tryz.ntmps287
     go_upto_region 1 with fail
     rw[<-hW];clear hV
     try clear hW
     go_wp2_with fail
     refine(zae x _ (by omega) (by omega)).mono ?_
     rintro e u1 ⟨v1,rfl,hF1,hb1⟩;replace B3:=B3.below hb1
     replace hbW:Below w.heap.size w u1:=hbW.trans (hb1.mono hbW.size)
     clear hb1
     have hs:=B3.lt
     obtain⟨q1,q2,q3,q4,q5,q6⟩:=B3.cells
     replace hF1:=(hF1.eq (r:=infQ a x b y c) (by rw[HE.out])).le (show 2<=7 by decide)
     obtain⟨n',xs',ys',⟨e1,f1,e2,f2,rfl,hx',hy'⟩,hF⟩:=hF1;go_wp2
     refine ret3 (v:=.agg #[.bool n',.slice e1 xs'.length f1,.slice e2 ys'.length f2]) B3 rfl (fun U hU=>by obtain⟨r1,r2,r3,_⟩:=hU.cells;simp[results,Tryz.results287,go_sem,r1,r2,r3]) (fun U hU hK=>⟨_,rfl,⟨_,_,_,⟨_,_,_,_,rfl,hK _ _ _ hx',hK _ _ _ hy'⟩,hF⟩,hU _ _ hbW (by omega)⟩)
   . by_cases h2:b<=c
     . have HE:Hid (infQ a x b y c=(y:Rat)):=by
         show _=_
         unfold infQ segQ
         rw[if_neg (by omega),if_pos hab,if_neg h1,if_pos h2]
       have g0:decide (a=b)=false:=decide_eq_false (by omega)
       have g0b:(a==b)=false:=beq_false_of_ne (by omega)
       have g1:decide (a > b)=false:=decide_eq_false (by omega)
       have g1b:¬b<a:=by omega
       have g2:¬c<=a:=h1
       go_enter Tryz.func287,Tryz.ntmps287
       go_upto_region 1 with fail
       rw[<-hW];clear hV
       try clear hW
       go_wp2_with fail
       refine(zae y _ (by omega) (by omega)).mono ?_
       rintro e u1 ⟨v1,rfl,hF1,hb1⟩;replace B3:=B3.below hb1
       replace hbW:Below w.heap.size w u1:=hbW.trans (hb1.mono hbW.size)
       clear hb1
       have hs:=B3.lt
       obtain⟨q1,q2,q3,q4,q5,q6⟩:=B3.cells
       replace hF1:=(hF1.eq (r:=infQ a x b y c) (by rw[HE.out])).le (show 2<=7 by decide)
       obtain⟨n',xs',ys',⟨e1,f1,e2,f2,rfl,hx',hy'⟩,hF⟩:=hF1;go_wp2
       refine ret3 (v:=.agg #[.bool n',.slice e1 xs'.length f1,.slice e2 ys'.length f2]) B3 rfl (fun U hU=>by obtain⟨r1,r2,r3,_⟩:=hU.cells;simp[results,Tryz.results287,go_sem,r1,r2,r3]) (fun U hU hK=>⟨_,rfl,⟨_,_,_,⟨_,_,_,_,rfl,hK _ _ _ hx',hK _ _ _ hy'⟩,hF⟩,hU _ _ hbW (by omega)⟩)
     . have HE:Hid (infQ a x b y c=btw x y (c-a) (b-a)):=by
         show _=_
         unfold infQ segQ
         rw[if_neg (by omega),if_pos hab,if_neg h1,if_neg h2]
       have g0:decide (a=b)=false:=decide_eq_false (by omega)
       have g0b:(a==b)=false:=beq_false_of_ne (by omega)
       have g1:decide (a > b)=false:=decide_eq_false (by omega)
       have g1b:¬b<a:=by omega
       have g2:¬c<=a:=h1
       have g3:¬c ≥ b:=by omega
       go_enter Tryz.func287,Tryz.ntmps287
       go_upto_region 1 with fail
       rw[<-hW];clear hV
       try clear hW
       go_wp2_with fail
       refine(zhe x y (c-a) (b-a) _ (by omega) (by omega) (by omega) (by omega)).mono ?_
       rintro e u1 ⟨v1,rfl,hF1,hb1⟩;replace B3:=B3.below hb1
       replace hbW:Below w.heap.size w u1:=hbW.trans (hb1.mono hbW.size)
       clear hb1
       have hs:=B3.lt
       obtain⟨q1,q2,q3,q4,q5,q6⟩:=B3.cells
       replace hF1:=(hF1.eq (r:=infQ a x b y c) (by rw[HE.out])).le (show 7<=7 by decide)
       obtain⟨n',xs',ys',⟨e1,f1,e2,f2,rfl,hx',hy'⟩,hF⟩:=hF1;go_wp2
       refine ret3 (v:=.agg #[.bool n',.slice e1 xs'.length f1,.slice e2 ys'.length f2]) B3 rfl (fun U hU=>by obtain⟨r1,r2,r3,_⟩:=hU.cells;simp[results,Tryz.results287,go_sem,r1,r2,r3]) (fun U hU hK=>⟨_,rfl,⟨_,_,_,⟨_,_,_,_,rfl,hK _ _ _ hx',hK _ _ _ hy'⟩,hF⟩,hU _ _ hbW (by omega)⟩)
 . by_cases hxy:x=y
   . by_cases h1:c<=a
     . have HE:Hid (infQ a x b y c=(x:Rat)):=by
         show _=_
         unfold infQ
         rw[if_pos hab,if_pos hxy]
       have g0:(a==b)=true:=by rw[hab];exact beq_self_eq_true b
       have g1b:¬b<a:=by omega
       have gx:(x != y)=false:=by rw[hxy];simp
       clear hab hxy
       go_enter Tryz.func287,Tryz.ntmps287
       go_upto_region 1 with fail
       rw[<-hW];clear hV
       try clear hW
       go_wp2_with fail
       refine(zae x _ (by omega) (by omega)).mono ?_
       rintro e u1 ⟨v1,rfl,hF1,hb1⟩;replace B3:=B3.below hb1
       replace hbW:Below w.heap.size w u1:=hbW.trans (hb1.mono hbW.size)
       clear hb1
       have hs:=B3.lt
       obtain⟨q1,q2,q3,q4,q5,q6⟩:=B3.cells
       replace hF1:=(hF1.eq (r:=infQ a x b y c) (by rw[HE.out])).le (show 2<=7 by decide)
       obtain⟨n',xs',ys',⟨e1,f1,e2,f2,rfl,hx',hy'⟩,hF⟩:=hF1;go_wp2
       refine ret3 (v:=.agg #[.bool n',.slice e1 xs'.length f1,.slice e2 ys'.length f2]) B3 rfl (fun U hU=>by obtain⟨r1,r2,r3,_⟩:=hU.cells;simp[results,Tryz.results287,go_sem,r1,r2,r3]) (fun U hU hK=>⟨_,rfl,⟨_,_,_,⟨_,_,_,_,rfl,hK _ _ _ hx',hK _ _ _ hy'⟩,hF⟩,hU _ _ hbW (by omega)⟩)
     . have HE:Hid (infQ a x b y c=(y:Rat)):=by
         show _=_
         unfold infQ
         rw[if_pos hab,if_pos hxy,hxy]
       have g0:(a==b)=true:=by rw[hab];exact beq_self_eq_true b
       have g1b:¬b<a:=by omega
       have gx:(x != y)=false:=by rw[hxy];simp
       have g2:¬c<=a:=h1
       have g3:c ≥ b:=by omega
       clear hab hxy
       go_enter Tryz.func287,Tryz.ntmps287
       go_upto_region 1 with fail
       rw[<-hW];clear hV
       try clear hW
       go_wp2_with fail
       refine(zae y _ (by omega) (by omega)).mono ?_
       rintro e u1 ⟨v1,rfl,hF1,hb1⟩;replace B3:=B3.below hb1
       replace hbW:Below w.heap.size w u1:=hbW.trans (hb1.mono hbW.size)
       clear hb1
       have hs:=B3.lt
       obtain⟨q1,q2,q3,q4,q5,q6⟩:=B3.cells
       replace hF1:=(hF1.eq (r:=infQ a x b y c) (by rw[HE.out])).le (show 2<=7 by decide)
       obtain⟨n',xs',ys',⟨e1,f1,e2,f2,rfl,hx',hy'⟩,hF⟩:=hF1;go_wp2
       refine ret3 (v:=.agg #[.bool n',.slice e1 xs'.length f1,.slice e2 ys'.length f2]) B3 rfl (fun U hU=>by obtain⟨r1,r2,r3,_⟩:=hU.cells;simp[results,Tryz.results287,go_sem,r1,r2,r3]) (fun U hU hK=>⟨_,rfl,⟨_,_,_,⟨_,_,_,_,rfl,hK _ _ _ hx',hK _ _ _ hy'⟩,hF⟩,hU _ _ hbW (by omega)⟩)
   . have HE:Hid (infQ a x b y c=0):=by
       show _=_
       unfold infQ
       rw[if_pos hab,if_neg hxy]
     have g0:(a==b)=true:=by rw[hab];exact beq_self_eq_true b
     have g1b:¬b<a:=by omega
     have gx:(x != y)=true:=by simp[hxy]
     clear hab
     go_enter Tryz.func287,Tryz.ntmps287
     go_upto_region 1 with fail
     rw[<-hW];clear hV
     try clear hW
     go_wp2_with fail
     refine(zae 0 _ (by omega) (by omega)).mono ?_
     rintro e u1 ⟨v1,rfl,hF1,hb1⟩;replace B3:=B3.below hb1
     replace hbW:Below w.heap.size w u1:=hbW.trans (hb1.mono hbW.size)
     clear hb1
     have hs:=B3.lt
     obtain⟨q1,q2,q3,q4,q5,q6⟩:=B3.cells
     replace hF1:=(hF1.eq (r:=infQ a x b y c) (by rw[HE.out];rfl)).le (show 2<=7 by decide)
     obtain⟨n',xs',ys',⟨e1,f1,e2,f2,rfl,hx',hy'⟩,hF⟩:=hF1;go_wp2
     refine ret3 (v:=.agg #[.bool n',.slice e1 xs'.length f1,.slice e2 ys'.length f2]) B3 rfl (fun U hU=>by obtain⟨r1,r2,r3,_⟩:=hU.cells;simp[results,Tryz.results287,go_sem,r1,r2,r3]) (fun U hU hK=>⟨_,rfl,⟨_,_,_,⟨_,_,_,_,rfl,hK _ _ _ hx',hK _ _ _ hy'⟩,hF⟩,hU _ _ hbW (by omega)⟩)
 . by_cases h1:c<=b
   . have HE:Hid (infQ a x b y c=(y:Rat)):=by
       show _=_
       unfold infQ segQ
       rw[if_neg (by omega),if_neg (by omega),if_pos h1]
     have g0:(a==b)=false:=beq_false_of_ne (by omega)
     have g1:b<a:=hab
     go_enter Tryz.func287,Tryz.ntmps287
     clear hW X1 X2 B3 hbW p0 p1 p2 p3 z0 z1 z2 z3
     go_upto_region 5 with fail
     rw[<-hV];clear hV;obtain⟨p0,p1,_⟩:=V1.two;obtain⟨p2,p3,_⟩:=V2.two
     have B3:=V3
     have hbW:=hbV
     try clear hW
     go_wp2_with fail
     refine(zae y _ (by omega) (by omega)).mono ?_
     rintro e u1 ⟨v1,rfl,hF1,hb1⟩;replace B3:=B3.below hb1
     replace hbW:Below w.heap.size w u1:=hbW.trans (hb1.mono hbW.size)
     clear hb1
     have hs:=B3.lt
     obtain⟨q1,q2,q3,q4,q5,q6⟩:=B3.cells
     replace hF1:=(hF1.eq (r:=infQ a x b y c) (by rw[HE.out])).le (show 2<=7 by decide)
     obtain⟨n',xs',ys',⟨e1,f1,e2,f2,rfl,hx',hy'⟩,hF⟩:=hF1;go_wp2
     refine ret3 (v:=.agg #[.bool n',.slice e1 xs'.length f1,.slice e2 ys'.length f2]) B3 rfl (fun U hU=>by obtain⟨r1,r2,r3,_⟩:=hU.cells;simp[results,Tryz.results287,go_sem,r1,r2,r3]) (fun U hU hK=>⟨_,rfl,⟨_,_,_,⟨_,_,_,_,rfl,hK _ _ _ hx',hK _ _ _ hy'⟩,hF⟩,hU _ _ hbW (by omega)⟩)
   . by_cases h2:a<=c
     . have HE:Hid (infQ a x b y c=(x:Rat)):=by
         show _=_
         unfold infQ segQ
         rw[if_neg (by omega),if_neg (by omega),if_neg h1,if_pos h2]
       have g0:(a==b)=false:=beq_false_of_ne (by omega)
       have g1:b<a:=hab
       have g2:¬c<=b:=h1
       go_enter Tryz.func287,Tryz.ntmps287
       clear hW X1 X2 B3 hbW p0 p1 p2 p3 z0 z1 z2 z3
       go_upto_region 5 with fail
       rw[<-hV];clear hV;obtain⟨p0,p1,_⟩:=V1.two;obtain⟨p2,p3,_⟩:=V2.two
       have B3:=V3
       have hbW:=hbV
       try clear hW
       go_wp2_with fail
       refine(zae x _ (by omega) (by omega)).mono ?_
       rintro e u1 ⟨v1,rfl,hF1,hb1⟩;replace B3:=B3.below hb1
       replace hbW:Below w.heap.size w u1:=hbW.trans (hb1.mono hbW.size)
       clear hb1
       have hs:=B3.lt
       obtain⟨q1,q2,q3,q4,q5,q6⟩:=B3.cells
       replace hF1:=(hF1.eq (r:=infQ a x b y c) (by rw[HE.out])).le (show 2<=7 by decide)
       obtain⟨n',xs',ys',⟨e1,f1,e2,f2,rfl,hx',hy'⟩,hF⟩:=hF1;go_wp2
       refine ret3 (v:=.agg #[.bool n',.slice e1 xs'.length f1,.slice e2 ys'.length f2]) B3 rfl (fun U hU=>by obtain⟨r1,r2,r3,_⟩:=hU.cells;simp[results,Tryz.results287,go_sem,r1,r2,r3]) (fun U hU hK=>⟨_,rfl,⟨_,_,_,⟨_,_,_,_,rfl,hK _ _ _ hx',hK _ _ _ hy'⟩,hF⟩,hU _ _ hbW (by omega)⟩)
     . have HE:Hid (infQ a x b y c=btw y x (c-b) (a-b)):=by
         show _=_
         unfold infQ segQ
         rw[if_neg (by omega),if_neg (by omega),if_neg h1,if_neg h2]
       have g0:(a==b)=false:=beq_false_of_ne (by omega)
       have g1:b<a:=hab
       have g2:¬c<=b:=h1
       have g3:¬c ≥ a:=by omega
       go_enter Tryz.func287,Tryz.ntmps287
       clear hW X1 X2 B3 hbW p0 p1 p2 p3 z0 z1 z2 z3
       go_upto_region 5 with fail
       rw[<-hV];clear hV;obtain⟨p0,p1,_⟩:=V1.two;obtain⟨p2,p3,_⟩:=V2.two
       have B3:=V3
       have hbW:=hbV
       try clear hW
       go_wp2_with fail
       refine(zhe y x (c-b) (a-b) _ (by omega) (by omega) (by omega) (by omega)).mono ?_
       rintro e u1 ⟨v1,rfl,hF1,hb1⟩;replace B3:=B3.below hb1
       replace hbW:Below w.heap.size w u1:=hbW.trans (hb1.mono hbW.size)
       clear hb1
       have hs:=B3.lt
       obtain⟨q1,q2,q3,q4,q5,q6⟩:=B3.cells
       replace hF1:=(hF1.eq (r:=infQ a x b y c) (by rw[HE.out])).le (show 7<=7 by decide)
       obtain⟨n',xs',ys',⟨e1,f1,e2,f2,rfl,hx',hy'⟩,hF⟩:=hF1;go_wp2
       refine ret3 (v:=.agg #[.bool n',.slice e1 xs'.length f1,.slice e2 ys'.length f2]) B3 rfl (fun U hU=>by obtain⟨r1,r2,r3,_⟩:=hU.cells;simp[results,Tryz.results287,go_sem,r1,r2,r3]) (fun U hU hK=>⟨_,rfl,⟨_,_,_,⟨_,_,_,_,rfl,hK _ _ _ hx',hK _ _ _ hy'⟩,hF⟩,hU _ _ hbW (by omega)⟩)
def nth:List Oper->Nat->Option Oper
 | [],_=>none
 | o::_,0=>some o
 | _::l,n+1=>nth l n
theorem zkm:∀(l:List Oper) (i:Nat),nth l i=l.toArray[i]?:=by
 intro l
 induction l with
 | nil=>intro i;simp[nth]
 | cons o l ih =>
  intro i
  cases i with
  | zero=>simp[nth]
  | succ i=>simp[nth,ih i]
theorem hTake{P:Program}{md:Region.Mode}{l:List Oper}{Q:Exit->Act->World->Prop}{S:World->Prop}{i:Nat}{o:Oper}{v:Value}{fuel:Nat}{listed:Array Bool}{a:Act}{w:World}(hi:nth l i=some o)
    (hs:Region.noSelect l.toArray=true) (hf:Region.free md l.toArray listed i=true) (hr:(Region.ready md l.toArray listed).contains i=true)
    (hQ:∀c a w,Q (.panic c) (a.put o.dst v) w->Q (.panic c) a w) (hy:YieldsIf P l.toArray S o v a) (hS:S w)
    (h:wpAnyH P md l.toArray Q S fuel (listed.setIfInBounds i true) (a.put o.dst v) w):wpAnyH P md l.toArray Q S (fuel+1) listed a w :=
 wpAnyH_take ((zkm l i).symm.trans hi) hs hf hr hQ hy hS h
theorem hCall{P:Program}{md:Region.Mode}{l:List Oper}{Q:Exit->Act->World->Prop}{S:World->Prop}{i:Nat}{o:Oper}{fuel:Nat}{listed:Array Bool}{a:Act}{w:World}(hi:nth l i=some o)
    (hr:Region.ready md l.toArray listed=[i]) (hw:Region.wanted o (yielded l.toArray a.tmps)=true)
    (h:∀K:Act->World->Prop,Shut (∀a w,S w->(S w->wpAnyH P md l.toArray Q S fuel (listed.setIfInBounds i true) a w)->K a w)->Oper.wp P o a w K Q) :
    wpAnyH P md l.toArray Q S (fuel+1) listed a w :=
 wpAnyH_ready hr (by simp) (AllReadyH.cons ((zkm l i).symm.trans hi) (fun K hK=>by rw[if_pos hw];exact h K hK) AllReadyH.nil)
theorem hCons{P:Program}{md:Region.Mode}{l:List Oper}{Q:Exit->Act->World->Prop}{S:World->Prop}{i:Nat}{o:Oper}{fuel:Nat}{listed:Array Bool}{a:Act}{w:World}{rs:LN}(hi:nth l i=some o)
    (hw:Region.wanted o (yielded l.toArray a.tmps)=true)
    (h:∀K:Act->World->Prop,Shut (∀a w,S w->(S w->wpAnyH P md l.toArray Q S fuel (listed.setIfInBounds i true) a w)->K a w)->Oper.wp P o a w K Q)
    (hs:AllReadyH P md l.toArray Q S fuel listed a w rs):AllReadyH P md l.toArray Q S fuel listed a w (i::rs) :=
 AllReadyH.cons ((zkm l i).symm.trans hi) (fun K hK=>by rw[if_pos hw];exact h K hK) hs
theorem pZ:(∀ {α:Type} (l:List α) (i:Nat) (x:α),l.toArray.setIfInBounds i x=(l.set i x).toArray)/\(∀ {α:Type} (a:α) (l:List α) (x:α),(a::l).set 0 x=x::l)/\(∀ {α:Type} (a:α) (l:List α) (n:Nat) (x:α),(a::l).set (n+1) x=a::l.set n x):=⟨fun _ _ _=>List.setIfInBounds_toArray ..,fun _ _ _=>rfl,fun _ _ _ _=>rfl⟩
theorem hT{P:Program}{md:Region.Mode}{l:List Oper}{Q:Exit->Act->World->Prop}{S:World->Prop}(i:Nat){o:Oper}{v:Value}{fuel:Nat}{listed:Array Bool}{a a2:Act}{w:World}(hS:S w)
    (h:wpAnyH P md l.toArray Q S fuel (listed.setIfInBounds i true) a2 w)
    (hi:nth l i=some o:=by rfl) (hs:Region.noSelect l.toArray=true:=by kernel_rfl) (hf:Region.free md l.toArray listed i=true:=by kernel_rfl) (hr:(Region.ready md l.toArray listed).contains i=true:=by kernel_rfl)
    (hQ:∀c a w,Q (.panic c) (a.put o.dst v) w->Q (.panic c) a w:=by exact fun _ _ _ h=>h) (hw:Region.wanted o (yielded l.toArray a.tmps)=true:=by rfl)
    (hy:∀w9,S w9->(execOp a.eval o).run P w9=.ok (.value v) w9:=by intro w9 hSw;(try dsimp only at hSw);go_simp;try with_reducible rfl)
    (ha:a.put o.dst v=a2:=by(try simp only[Act.put,pZ]);try rfl):wpAnyH P md l.toArray Q S (fuel+1) listed a w:=by
 subst ha
 exact wpAnyH_take ((zkm l i).symm.trans hi) hs hf hr hQ (Or.inl ⟨hw,hy⟩) hS h
theorem hN{P:Program}{md:Region.Mode}{l:List Oper}{Q:Exit->Act->World->Prop}{S:World->Prop}(i:Nat){o:Oper}{fuel:Nat}{listed:Array Bool}{a a2:Act}{w:World}(hS:S w)
    (h:wpAnyH P md l.toArray Q S fuel (listed.setIfInBounds i true) a2 w)
    (hi:nth l i=some o:=by rfl) (hs:Region.noSelect l.toArray=true:=by kernel_rfl) (hf:Region.free md l.toArray listed i=true:=by kernel_rfl) (hr:(Region.ready md l.toArray listed).contains i=true:=by kernel_rfl)
    (hQ:∀c a w,Q (.panic c) (a.put o.dst undef) w->Q (.panic c) a w:=by exact fun _ _ _ h=>h) (hw:Region.wanted o (yielded l.toArray a.tmps)=false:=by rfl)
    (ha:a.put o.dst undef=a2:=by(try simp only[Act.put,pZ]);try rfl):wpAnyH P md l.toArray Q S (fuel+1) listed a w:=by
 subst ha
 exact wpAnyH_take ((zkm l i).symm.trans hi) hs hf hr hQ (Or.inr ⟨hw,rfl⟩) hS h
theorem Ri.cell{w u:World}{b off cap:Nat}{zs:List Int}(h:Ri w (some ⟨b,off,none⟩) cap zs)(hb:Below w.heap.size w u){k:Nat}(hk:k<zs.length){z:Int}(hz:zs.getD k 0=z):u.cell? ⟨b,off+k,none⟩=some (.int .i64 z):=by
 obtain⟨b',off',e,_,d⟩:=h.at hb k hk
 cases e
 rw[d,hz]
theorem zk8(i:Nat)(a:OA)(ca:Nat)(ns:List Int)(ta:OA)(tc:Nat)(ts:List Bool)(da:OA)(dc:Nat)(cs:List Int)(w:World)(hn:Ri w a ca ns)(ht:Rl w ta tc ts)(hc:Ri w da dc cs)(hF:fitB ns ts cs=true)(hi:i<ns.length) :
 Calls Tryz.prog 278 #[.int .i64 (i:Int),.slice a ns.length ca,.slice ta ts.length tc,.slice da cs.length dc] w fun e w'=>∃v',e=.returned v'/\Fr w' v' 7 (fiQ ns ts cs i)/\Below w.heap.size w w':=by
 obtain⟨⟨l1,l2,l3⟩,f1,f2⟩:=zjd.1 hF
 have hA:=fun U (h:Rl U ta tc ts)=>zsw i ta tc ts U h (by omega) (by omega)
 have hB:=fun U (h:Rl U ta tc ts)=>zsv i ta tc ts U h (by omega) (by omega)
 have HAB:=nbAB (t:=ts) (i:=i) (by omega)
 obtain⟨n,hnn⟩:∃n,ns.length=n:=⟨_,rfl⟩
 rw[hnn]at l1 l2 l3 hi ⊢;rw[l1,l2];rw[l1]at hA hB HAB
 have HL:Hid (ns.length=n/\ts.length=n/\cs.length=n):=⟨hnn,l1,l2⟩
 have HN:Hid (Ri w a ca ns):=hn
 have HT:Hid (Rl w ta tc ts):=ht
 have HC:Hid (Ri w da dc cs):=hc
 have HF1:Hid (∀z∈ns,-32768<=z/\z<=32767):=f1
 have HF2:Hid (∀z∈cs,-32768<=z/\z<=32767):=f2
 clear hn ht hc f1 f2 hnn l1 l2 hF
 obtain⟨W,hW,B1,hbW⟩:∃W,W=w.alloc (.cells #[.bool false,.slice none 0 0,.slice none 0 0] 125)/\Box 125 W w.heap.size (.bool false) (.slice none 0 0) (.slice none 0 0)/\Below w.heap.size w W:=⟨_,rfl,Box.new _ _ _ _ _,al1 _⟩
 obtain⟨tb,tof,eta,htb,dt⟩:=HT.out.at hbW i (by rw[HL.out.2.1];exact hi)
 obtain⟨tz,htz⟩:∃z,ts.getD i false=z:=⟨_,rfl⟩
 rw[htz]at dt;subst eta
 have i0:(0:Int)<=(i:Int):=by omega
 have i9:(i:Int)<(n:Int):=by omega
 cases tz with
 | true =>
  obtain⟨b1,o1,ea1,hb1,d1⟩:=HC.out.at hbW i (by rw[HL.out.2.2];exact hi)
  have hzb:=zd8 HF2.out i
  have HQ:Hid (fiQ ns ts cs i=((cs.getD i 0:Int):Rat)):=z20 htz
  subst ea1;clear htz hA hB HAB
  generalize cs.getD i 0=z at *
  go_enter Tryz.func278,Tryz.ntmps278
  go_upto_region 1 with fail
  rw[<-hW];clear hW
  go_wp2_with fail
  refine(zae z _ (by omega) (by omega)).mono ?_
  rintro e u1 ⟨v1,rfl,hF1,hb2⟩;replace B1:=B1.below hb2
  replace hbW:Below w.heap.size w u1:=hbW.trans (hb2.mono hbW.size)
  clear hb2 d1 dt
  replace hF1:=(hF1.eq (r:=fiQ ns ts cs i) HQ.out.symm).le (show 2<=7 by decide)
  have hs:=B1.lt
  obtain⟨q1,q2,q3,q4,q5,q6⟩:=B1.cells;obtain⟨n',xs',ys',⟨e1,f1,e2,f2,rfl,hx',hy'⟩,hF⟩:=hF1;go_wp2
  refine ret3 (v:=.agg #[.bool n',.slice e1 xs'.length f1,.slice e2 ys'.length f2]) B1 rfl (fun U hU=>by obtain⟨r1,r2,r3,_⟩:=hU.cells;simp[results,Tryz.results278,go_sem,r1,r2,r3]) (fun U hU hK=>⟨_,rfl,⟨_,_,_,⟨_,_,_,_,rfl,hK _ _ _ hx',hK _ _ _ hy'⟩,hF⟩,hU _ _ hbW (by omega)⟩)
 | false =>
  have hA1:=hA W (HT.out.below hbW)
  rcases HAB with ⟨k1,k2,k3⟩|⟨p,q,k1,k2,k3,k4,k5,k6,k7,k8⟩
  . have HQ:Hid (fiQ ns ts cs i=0):=z21 htz k1
    rw[k1]at hA1
    dsimp only[Option.getD,Option.isSome]at hA1
    have z4v:((n-1:Nat):Int)=(n:Int)-1:=by omega
    rw[z4v]at hA1;clear htz hA hB k1 k2 k3 z4v
    go_enter Tryz.func278,Tryz.ntmps278
    go_upto_region 1 with fail
    rw[<-hW];clear hW
    go_wp2_with fail
    refine hA1.mono ?_
    rintro e u0 ⟨rfl,rfl⟩;clear hA1
    go_wp2_with fail
    refine(zae 0 _ (by decide) (by decide)).mono ?_
    rintro e u1 ⟨v1,rfl,hF1,hb2⟩;replace B1:=B1.below hb2
    replace hbW:Below w.heap.size w u1:=hbW.trans (hb2.mono hbW.size)
    clear hb2 dt
    replace hF1:=(hF1.eq (r:=fiQ ns ts cs i) (by rw[HQ.out];rfl)).le (show 2<=7 by decide)
    have hs:=B1.lt
    obtain⟨q1,q2,q3,q4,q5,q6⟩:=B1.cells;obtain⟨n',xs',ys',⟨e1,f1,e2,f2,rfl,hx',hy'⟩,hF⟩:=hF1;go_wp2
    refine ret3 (v:=.agg #[.bool n',.slice e1 xs'.length f1,.slice e2 ys'.length f2]) B1 rfl (fun U hU=>by obtain⟨r1,r2,r3,_⟩:=hU.cells;simp[results,Tryz.results278,go_sem,r1,r2,r3]) (fun U hU hK=>⟨_,rfl,⟨_,_,_,⟨_,_,_,_,rfl,hK _ _ _ hx',hK _ _ _ hy'⟩,hF⟩,hU _ _ hbW (by omega)⟩)
  . have HQ:Hid (fiQ ns ts cs i=infQ (ns.getD p 0) (cs.getD p 0) (ns.getD q 0) (cs.getD q 0) (ns.getD i 0)):=z2z htz k1 k2
    rw[k1]at hA1
    have hB1:=hB W (HT.out.below hbW)
    rw[k2]at hB1
    dsimp only[Option.getD,Option.isSome]at hA1 hB1
    have z4v:((n-1:Nat):Int)=(n:Int)-1:=by omega
    rw[z4v]at hA1
    have hp:p<n:=k3
    have hq:q<n:=k4
    have bpn:=zd8 HF1.out p
    have bpc:=zd8 HF2.out p
    have bqn:=zd8 HF1.out q
    have bqc:=zd8 HF2.out q
    have bin:=zd8 HF1.out i
    have hi':i<ns.length:=by rw[HL.out.1];exact hi
    clear htz hA hB k1 k2 k3 k4 k5 k6 k7 k8 z4v
    obtain⟨pn,e⟩:∃z,ns.getD p 0=z:=⟨_,rfl⟩
    have Epn:Hid (ns.getD p 0=pn):=e
    rw[e]at bpn;clear e
    obtain⟨pc,e⟩:∃z,cs.getD p 0=z:=⟨_,rfl⟩
    have Epc:Hid (cs.getD p 0=pc):=e
    rw[e]at bpc;clear e
    obtain⟨qn,e⟩:∃z,ns.getD q 0=z:=⟨_,rfl⟩
    have Eqn:Hid (ns.getD q 0=qn):=e
    rw[e]at bqn;clear e
    obtain⟨qc,e⟩:∃z,cs.getD q 0=z:=⟨_,rfl⟩
    have Eqc:Hid (cs.getD q 0=qc):=e
    rw[e]at bqc;clear e
    obtain⟨iz,e⟩:∃z,ns.getD i 0=z:=⟨_,rfl⟩
    have Ein:Hid (ns.getD i 0=iz):=e
    rw[e]at bin;clear e
    have HQ2:Hid (fiQ ns ts cs i=infQ pn pc qn qc iz):=by
     show _=_
     rw[HQ.out,Epn.out,Epc.out,Eqn.out,Eqc.out,Ein.out]
    clear HQ
    go_enter Tryz.func278,Tryz.ntmps278
    go_upto_region 1 with fail
    rw[<-hW];clear hW
    go_wp2_with fail
    refine hA1.mono ?_
    rintro e u0 ⟨rfl,rfl⟩;clear hA1
    go_wp2_with fail
    refine hB1.mono ?_
    rintro e u0 ⟨rfl,rfl⟩;clear hB1 dt
    go_wp2_with fail
    obtain⟨b0,o0,ea0,hb0,d0⟩:=HN.out.at hbW p (by rw[HL.out.1];exact hp)
    obtain⟨b1,o1,ea1,hb1,d1⟩:=HC.out.at hbW p (by rw[HL.out.2.2];exact hp)
    rw[Epn.out]at d0;rw[Epc.out]at d1;subst ea0 ea1
    have i1:(0:Int)<=(p:Int):=by omega
    have i2:(p:Int)<(n:Int):=by omega
    refine wp_region_held_drew (S:=fun w9=>w9.cell? ⟨b0,o0+p,none⟩=some (.int .i64 pn)/\w9.cell? ⟨b1,o1+p,none⟩=some (.int .i64 pc)) (by kernel_rfl) ?_ (fun hH=>?_)
    . (try dsimp only)
      go_keep
    have hdr:Below W.heap.size W W.drew:=Below.drew1
    generalize W.drew=Vd at hdr hH ⊢
    replace hbW:Below w.heap.size w Vd:=hbW.trans (hdr.mono hbW.size)
    replace B1:=B1.below hdr
    have zgy:=hH
    clear hdr d0 d1;refine hT 0 hH ?_;refine hT 1 hH ?_;refine hT 2 hH ?_;refine hT 3 hH ?_;refine hT 4 hH ?_;refine hT 5 hH ?_;refine hT 6 hH ?_;refine hT 7 hH ?_;refine hT 8 hH ?_
    obtain⟨V,hV,XP,hal⟩:∃V,V=Vd.alloc (.cells #[.int .i64 pn,.int .i64 pc] 314)/\Bk 314 V Vd.heap.size [.int .i64 pn,.int .i64 pc]/\Below Vd.heap.size Vd V:=⟨_,rfl,Bk.new _ _ _,al1 _⟩
    refine hCall (i:=9) rfl (by kernel_rfl) (by rfl) (fun K hK=>?_)
    go_simp
    refine hK.out _ _ ?_ (fun hH=>?_)
    . (try dsimp only)
      exact⟨((al1 _).cell (p:=⟨b0,o0+p,none⟩) (Nat.lt_of_lt_of_le hb0 hbW.size)).trans hH.1,((al1 _).cell (p:=⟨b1,o1+p,none⟩) (Nat.lt_of_lt_of_le hb1 hbW.size)).trans hH.2⟩
    clear hK K
    try simp only[Act.put,pZ]
    refine hCall (i:=10) rfl (by kernel_rfl) (by rfl) (fun K hK=>?_)
    go_simp;rw[<-hV];clear hV
    refine hK.out _ _ ?_ (fun zkw=>?_)
    . (try dsimp only)
      exact⟨(hal.cell (p:=⟨b0,o0+p,none⟩) (Nat.lt_of_lt_of_le hb0 hbW.size)).trans zgy.1,(hal.cell (p:=⟨b1,o1+p,none⟩) (Nat.lt_of_lt_of_le hb1 hbW.size)).trans zgy.2⟩
    clear hK K
    try simp only[Act.put,pZ]
    refine wpAnyH_done (by kernel_rfl) ?_ _
    clear hH zkw zgy
    have hVl:w.heap.size<Vd.heap.size:=B1.lt
    replace B1:=B1.below hal
    replace hbW:Below w.heap.size w V:=hbW.trans (hal.mono hbW.size)
    clear hal i1 i2
    go_wp2_with fail
    obtain⟨b0,o0,ea0,hb0,d0⟩:=HN.out.at hbW q (by rw[HL.out.1];exact hq)
    obtain⟨b1,o1,ea1,hb1,d1⟩:=HC.out.at hbW q (by rw[HL.out.2.2];exact hq)
    rw[Eqn.out]at d0;rw[Eqc.out]at d1
    cases ea0
    cases ea1
    have i1:(0:Int)<=(q:Int):=by omega
    have i2:(q:Int)<(n:Int):=by omega
    refine wp_region_held_drew (S:=fun w9=>w9.cell? ⟨b0,o0+q,none⟩=some (.int .i64 qn)/\w9.cell? ⟨b1,o1+q,none⟩=some (.int .i64 qc)) (by kernel_rfl) ?_ (fun hH=>?_)
    . (try dsimp only)
      go_keep
    have hdr:Below V.heap.size V V.drew:=Below.drew1
    generalize V.drew=Ud at hdr hH ⊢
    replace hbW:Below w.heap.size w Ud:=hbW.trans (hdr.mono hbW.size)
    replace B1:=B1.below hdr;replace XP:=XP.below hdr
    have zgy:=hH
    clear hdr d0 d1;refine hT 0 hH ?_;refine hT 1 hH ?_;refine hT 2 hH ?_;refine hT 3 hH ?_;refine hT 4 hH ?_;refine hT 5 hH ?_;refine hT 6 hH ?_;refine hT 7 hH ?_;refine hT 8 hH ?_
    obtain⟨U,hU,XQ,hal⟩:∃V,V=Ud.alloc (.cells #[.int .i64 qn,.int .i64 qc] 314)/\Bk 314 V Ud.heap.size [.int .i64 qn,.int .i64 qc]/\Below Ud.heap.size Ud V:=⟨_,rfl,Bk.new _ _ _,al1 _⟩
    refine hCall (i:=9) rfl (by kernel_rfl) (by rfl) (fun K hK=>?_)
    go_simp
    refine hK.out _ _ ?_ (fun hH=>?_)
    . (try dsimp only)
      exact⟨((al1 _).cell (p:=⟨b0,o0+q,none⟩) (Nat.lt_of_lt_of_le hb0 hbW.size)).trans hH.1,((al1 _).cell (p:=⟨b1,o1+q,none⟩) (Nat.lt_of_lt_of_le hb1 hbW.size)).trans hH.2⟩
    clear hK K
    try simp only[Act.put,pZ]
    refine hCall (i:=10) rfl (by kernel_rfl) (by rfl) (fun K hK=>?_)
    go_simp;rw[<-hU];clear hU
    refine hK.out _ _ ?_ (fun zkw=>?_)
    . (try dsimp only)
      exact⟨(hal.cell (p:=⟨b0,o0+q,none⟩) (Nat.lt_of_lt_of_le hb0 hbW.size)).trans zgy.1,(hal.cell (p:=⟨b1,o1+q,none⟩) (Nat.lt_of_lt_of_le hb1 hbW.size)).trans zgy.2⟩
    clear hK K
    try simp only[Act.put,pZ]
    refine wpAnyH_done (by kernel_rfl) ?_ _
    clear hH zkw zgy
    have hUl:w.heap.size<Ud.heap.size:=B1.lt
    replace B1:=B1.below hal;replace XP:=XP.below hal
    replace hbW:Below w.heap.size w U:=hbW.trans (hal.mono hbW.size)
    clear hal i1 i2
    go_wp2_with fail
    obtain⟨b0',o0',ea0,hb0',d0⟩:=HN.out.at hbW i (by rw[HL.out.1];exact hi)
    cases ea0
    rw[Ein.out]at d0;obtain⟨x0,x1,_⟩:=XP.two;obtain⟨y0,y1,_⟩:=XQ.two
    refine wp_region_held_drew (S:=fun w9=>w9.cell? ⟨Vd.heap.size,0,none⟩=some (.int .i64 pn)/\w9.cell? ⟨Vd.heap.size,1,none⟩=some (.int .i64 pc)/\w9.cell? ⟨Ud.heap.size,0,none⟩=some (.int .i64 qn)/\w9.cell? ⟨Ud.heap.size,1,none⟩=some (.int .i64 qc)/\w9.cell? ⟨b0,o0+i,none⟩=some (.int .i64 iz)) (by kernel_rfl) ?_ (fun hH=>?_)
    . (try dsimp only)
      go_keep
    have hdr:Below U.heap.size U U.drew:=Below.drew1
    generalize U.drew=Z at hdr hH ⊢
    replace hbW:Below w.heap.size w Z:=hbW.trans (hdr.mono hbW.size)
    replace B1:=B1.below hdr;replace XP:=XP.below hdr;replace XQ:=XQ.below hdr;clear hdr d0 x0 x1 y0 y1;refine hT 0 hH ?_;refine hT 1 hH ?_;refine hT 2 hH ?_;refine hT 3 hH ?_;refine hT 4 hH ?_;refine hT 5 hH ?_
    refine hCall (i:=6) rfl (by kernel_rfl) (by rfl) (fun K hK=>?_)
    go_simp
    refine(zkr pn pc qn qc iz _ bpn bpc bqn bqc bin).mono ?_
    rintro e u1 ⟨v1,rfl,hF1,hb2⟩;replace B1:=B1.below hb2;replace XP:=XP.below hb2;replace XQ:=XQ.below hb2
    replace hbW:Below w.heap.size w u1:=hbW.trans (hb2.mono hbW.size)
    obtain⟨x0,x1,_⟩:=XP.two;obtain⟨y0,y1,_⟩:=XQ.two
    have d0:=HN.out.cell hbW hi' Ein.out
    go_wp2_with fail
    refine hK.out _ _ ?_ (fun hH=>?_)
    . (try dsimp only)
      exact⟨x0,x1,y0,y1,d0⟩
    clear hK K hb2 x0 x1 y0 y1 d0
    try simp only[Act.put,pZ]
    replace hF1:=hF1.eq (r:=fiQ ns ts cs i) HQ2.out.symm
    obtain⟨n',xs',ys',⟨e1,f1,e2,f2,rfl,hx',hy'⟩,hF⟩:=hF1;obtain⟨q1,q2,q3,q4,q5,q6⟩:=B1.cells
    have hs:=B1.lt
    refine hCall (i:=7) rfl (by kernel_rfl) (by rfl) (fun K hK=>?_)
    go_simp
    obtain⟨U9,hU9,BU,hU1,hU2,hU3⟩:=zb7 B1 (.bool n') (.slice e1 xs'.length f1) (.slice e2 ys'.length f2)
    rw[<-hU9];clear hU9
    refine hK.out _ _ ?_ (fun zkw=>?_)
    . (try dsimp only)
      refine⟨(World.cell?_of_block (w:=u1) (a:=⟨Vd.heap.size,0,none⟩) (hU3 Vd.heap.size (by omega))).trans hH.1,(World.cell?_of_block (w:=u1) (a:=⟨Vd.heap.size,1,none⟩) (hU3 Vd.heap.size (by omega))).trans hH.2.1,(World.cell?_of_block (w:=u1) (a:=⟨Ud.heap.size,0,none⟩) (hU3 Ud.heap.size (by omega))).trans hH.2.2.1,(World.cell?_of_block (w:=u1) (a:=⟨Ud.heap.size,1,none⟩) (hU3 Ud.heap.size (by omega))).trans hH.2.2.2.1,(World.cell?_of_block (w:=u1) (a:=⟨b0,o0+i,none⟩) (hU3 b0 (by omega))).trans hH.2.2.2.2⟩
    clear hK K
    try simp only[Act.put,pZ]
    refine wpAnyH_done (by kernel_rfl) ?_ _
    clear hH zkw;go_wp2
    exact bodyPost_ret (v:=.agg #[.bool n',.slice e1 xs'.length f1,.slice e2 ys'.length f2]) (by obtain⟨r1,r2,r3,_⟩:=BU.cells;simp[results,Tryz.results278,go_sem,r1,r2,r3]) rfl ⟨_,rfl,⟨_,_,_,⟨_,_,_,_,rfl,hU2 _ _ _ hx',hU2 _ _ _ hy'⟩,hF⟩,hU1 _ _ hbW (by omega)⟩
theorem zmy{P:Program}{w w':World}{v v':Value}(base:Nat)(t ty e:TypeId)(i:TypeInfo)(ht:P.underlying t=some (.slice e))(hi:P.info? e=some i)(hz:i.zero=some rtZ)(hsize:i.size=3)(hby:i.bytes=56)
    (n:Nat) (xs:List Value) (hown:w.ownsRow base e 3 v n xs) (hn:∀g,v.ownBlock=some g->NoI w g)
    (a:Addr) (m pc:Nat) (news:List Value) (hm:0<m) (hl:news.length=m*3) (hnews:∀j u,news[j]?=some u->w.cell? (a.add j)=some u) (h1:∀u∈news,isI u=false/\u.oneCell'=true) (hlen:n+m<=1000000)
    (hr:(Builtin.append_ #[t,t] ty #[v,.slice (some a) m pc]).run P w=.ok v' w'):∀g,v'.ownBlock=some g->NoI w' g:=by
 have hl':news.length=m*i.size:=by rw[hsize,hl]
 have zpr:∀u∈news,isI u=false:=fun u hu=>(h1 u hu).1
 rcases hown.2 with ⟨rfl,rfl⟩|⟨g,cap,cur,rfl,hbg,hg,hnc,hcm,hcs,zxb⟩
 . have h2:=run_append_nil (P:=P) w t ty e i rtZ ht hi hz a m pc news hl' hnews hm (by omega) (by rw[hby];omega)
   rw[h2]at hr;injection hr with e1 e2;subst e1 e2
   intro g hg
   simp[Value.ownBlock]at hg
   subst hg
   refine NoI.of (heap_alloc_new w.drew _) (fun c hc=>?_)
   rw[Array.toList_append,List.mem_append]at hc
   rcases hc with hc|hc
   . exact zpr c (by simpa using hc)
   . exact zne _ c hc
 . have zu1:=(hn g rfl).mem hg
   have hxs:∀c∈xs,isI c=false:=fun c hc=>zu1 c (by rw[<-zxb]at hc;exact List.mem_of_mem_take hc)
   by_cases hroom:n+m<=cap
   . have z3t:n*i.size+news.length<=cur.size:=by rw[hsize,hl,hcs];omega
     have h2:=run_append_room (P:=P) w t ty e i ht hi g n cap cur hg a m pc news hl' hnews (fun u hu=>(h1 u hu).2) hroom z3t
     rw[h2]at hr;injection hr with e1 e2;subst e1 e2
     intro g' hg'
     simp[Value.ownBlock]at hg'
     subst hg'
     refine NoI.of (setRow_heap w g cur _ e _ hg) (fun c hc=>?_)
     simp only[List.mem_append]at hc
     rcases hc with (hc|hc)|hc
     . exact zu1 c (List.mem_of_mem_take hc)
     . exact zpr c hc
     . exact zu1 c (List.mem_of_mem_drop hc)
   . have holds:∀j u,xs[j]?=some u->w.cell? ((⟨g,0,none⟩:Addr).add j)=some u:=hown.cells (g:=g) rfl
     have h2:=run_append_grow (P:=P) w t ty e i rtZ ht hi hz ⟨g,0,none⟩ n cap xs (by rw[hsize];exact hown.1) holds a m pc news hl' hnews (by omega) (by omega) (growslice_fits (by omega) (by rw[hby];omega))
     rw[h2]at hr;injection hr with e1 e2;subst e1 e2
     intro g' hg'
     simp[Value.ownBlock]at hg'
     subst hg'
     refine NoI.of (heap_alloc_new w.drew _) (fun c hc=>?_)
     rw[Array.toList_append,Array.toList_append,List.mem_append,List.mem_append]at hc
     rcases hc with (hc|hc)|hc
     . exact hxs c (by simpa using hc)
     . exact zpr c (by simpa using hc)
     . exact zne _ c hc
theorem Rz.cells{w:World}{b off cap k:Nat}{qs:List Rat}(h:Rz w (some ⟨b,off,none⟩) cap k qs):∃us:List Value,us.length=qs.length*3/\(∀j u,us[j]?=some u->w.cell? ((⟨b,off,none⟩:Addr).add j)=some u)/\(∀u∈us,isI u=false/\u.oneCell'=true) /\
    ∀i,i<qs.length->∃x y z,us[i*3]?=some x/\us[i*3+1]?=some y/\us[i*3+2]?=some z/\Fr w (.agg #[x,y,z]) k (qs.getD i 0):=by
 have key:∀n,n<=qs.length->∃us:List Value,us.length=n*3/\(∀j u,us[j]?=some u->w.cell? ((⟨b,off,none⟩:Addr).add j)=some u)/\(∀u∈us,isI u=false/\u.oneCell'=true) /\
     ∀i,i<n->∃x y z,us[i*3]?=some x/\us[i*3+1]?=some y/\us[i*3+2]?=some z/\Fr w (.agg #[x,y,z]) k (qs.getD i 0):=by
  intro n
  induction n with
  | zero=>exact fun _=>⟨[],rfl,(fun j u h=>by simp at h),(fun u h=>by simp at h),fun i hi=>by omega⟩
  | succ n ih =>
   intro hn
   obtain⟨us,h1,h2,h3,h4⟩:=ih (by omega)
   obtain⟨b',off',x,y,z,e,hb,c0,c1,c2,hF⟩:=h.2.2 n (by omega)
   cases e
   refine⟨us++[x,y,z],by rw[List.length_append,h1];simp;omega,fun j u hj=>?_,fun u hu=>?_,fun i hi=>?_⟩
   . by_cases hjl:j<us.length
     . rw[List.getElem?_append_left hjl]at hj
       exact h2 j u hj
     . rw[List.getElem?_append_right (by omega)]at hj
       have zb1:(⟨b,off,none⟩:Addr).add j=⟨b,off+j,none⟩:=by unfold Addr.add;split <;> simp_all
       rw[zb1]
       obtain⟨d,hd⟩:∃d,j-us.length=d:=⟨_,rfl⟩
       rw[hd]at hj
       have ej:j=n*3+d:=by omega
       match d,hj with
       | 0,hj=>simp at hj;subst hj;rw[ej];exact c0
       | 1,hj=>simp at hj;subst hj;rw[ej,<-Nat.add_assoc];exact c1
       | 2,hj=>simp at hj;subst hj;rw[ej,<-Nat.add_assoc];exact c2
   . rcases List.mem_append.1 hu with hu|hu
     . exact h3 u hu
     . exact hF.noI u hu
   . by_cases hin:i<n
     . obtain⟨x',y',z',q0,q1,q2,q3⟩:=h4 i hin
       exact⟨x',y',z',by rw[List.getElem?_append_left (by omega)];exact q0,by rw[List.getElem?_append_left (by omega)];exact q1,by rw[List.getElem?_append_left (by omega)];exact q2,q3⟩
     . obtain rfl:i=n:=by omega
       refine⟨x,y,z,?_,?_,?_,hF⟩
       . rw[List.getElem?_append_right (by omega),h1];simp
       . rw[List.getElem?_append_right (by omega),h1,show i*3+1-i*3=1 by omega];simp
       . rw[List.getElem?_append_right (by omega),h1,show i*3+2-i*3=2 by omega];simp
 exact key _ (Nat.le_refl _)
theorem zbj{w:World}{o:Oper}{a:Act}{K:Act->World->Prop}{Q:Exit->Act->World->Prop}(t e:TypeId)
    (ht:Tryz.prog.underlying t=some (.slice e)) (zl3:(Tryz.prog.info? e).map (fun i=>(i.zero,i.size,i.bytes))=some (some rtZ,3,56))
    (s x:Operand) (ho:o.op=.call { callee:=.builtin .append,args:=#[s,x],argTypes:=#[t,t] })
    (base:Nat) (v:Value) (k:Nat) (qs ms:List Rat) (hs:a.eval s=v) (hown:Ro e base w v k qs) (pa:OA) (pc n:Nat) (hn:n=ms.length) (hx:a.eval x=.slice pa n pc) (hp:Rz w pa pc k ms) (hpn:pa=none->pc=0) (hps:∀ad,pa=some ad->∃b off,ad=⟨b,off,none⟩) (hlen:qs.length+ms.length<=1000000) (hbase:base<=w.heap.size)
    (h:∀v' w',Ro e base w' v' k (qs++ms)->w.grownBy w' v.ownBlock->(v'.ownBlock=v.ownBlock\/v'.ownBlock=some w.heap.size)->K (a.put o.dst v') w'):o.wp Tryz.prog a w K Q:=by
 subst hn
 obtain⟨i0,hi,hz0,hz1,hz2⟩:=info_parts zl3
 obtain⟨vs,h3,hnI,h4⟩:=hown
 cases pa with
 | none =>
  obtain rfl:=hpn rfl
  have hm:ms=[]:=List.length_eq_zero_iff.1 (Nat.le_zero.1 hp.1)
  subst hm
  have hrun:=run_append_owned_none (P:=Tryz.prog) (w:=w) base t o.type e i0 3 ht hi v qs.length vs h3
  have hx':a.eval x=.slice none 0 0:=hx
  unfold Oper.wp execOp
  simp only[ho,resolve,invoke,builtin,Sem.run_bind,Sem.run_pure,Result.andThen_ok,List.map_toArray,List.map_cons,List.map_nil,hs,hx',hrun]
  exact h v w (by rw[List.append_nil];exact⟨vs,h3,hnI,h4⟩) (World.grownBy.refl w _) (.inl rfl)
 | some ad =>
  obtain⟨b,off,rfl⟩:=hps ad rfl
  obtain⟨us,l1,l2,l3,l4⟩:=hp.cells
  obtain⟨v',w',hr,k1,k2,k3,k4⟩:=run_append_own_at (P:=Tryz.prog) w base t o.type e i0 rtZ 3 56 ht hi hz0 hz1 hz2 rfl (by decide) v qs.length vs h3 ⟨b,off,none⟩ ms.length pc us l1 l2 (fun u hu=>(l3 u hu).2) (by unfold maxLen;omega) (by omega) hbase
  have hn':∀g,v'.ownBlock=some g->NoI w' g:=by
   by_cases hm:0<ms.length
   . exact zmy base t o.type e i0 ht hi hz0 hz1 hz2 qs.length vs h3 hnI ⟨b,off,none⟩ ms.length pc us hm l1 l2 l3 hlen hr
   . have hm0:ms.length=0:=by omega
     rcases h3.2 with ⟨rfl,h0⟩|⟨g,cap,cur,rfl,hbg,hg,hnc,hcm,hcs,zxb⟩
     . rw[k3.2 ⟨rfl,hm0⟩]
       intro g hg
       cases hg
     . have hus:us=[]:=List.length_eq_zero_iff.1 (by omega)
       subst hus
       have h2:=run_append_room (P:=Tryz.prog) w t o.type e i0 ht hi g qs.length cap cur hg ⟨b,off,none⟩ ms.length pc [] (by rw[hm0];simp) (by simp) (by simp) (by omega) (by rw[hz1,hcs];simp;omega)
       rw[h2]at hr;injection hr with e1 e2;subst e1 e2
       intro g' hg'
       simp[Value.ownBlock]at hg'
       subst hg'
       have zu1:=(hnI g rfl).mem hg
       refine NoI.of (setRow_heap w g cur _ e _ hg) (fun c hc=>?_)
       simp only[List.mem_append]at hc
       rcases hc with (hc|hc)|hc
       . exact zu1 c (List.mem_of_mem_take hc)
       . simp at hc
       . exact zu1 c (List.mem_of_mem_drop hc)
  have hvs:vs.length=qs.length*3:=h3.1
  unfold Oper.wp execOp
  simp only[ho,resolve,invoke,builtin,Sem.run_bind,Sem.run_pure,Result.andThen_ok,List.map_toArray,List.map_cons,List.map_nil,hs,hx,hr]
  refine h v' w' ⟨vs++us,by rw[List.length_append];exact k1,hn',fun j hj=>?_⟩ k2 k4
  by_cases hjm:j<qs.length
  . obtain⟨x',y',z',q0,q1,q2,q3⟩:=h4 j hjm
    have e':(qs++ms).getD j 0=qs.getD j 0:=by simp[List.getD,List.getElem?_append_left hjm]
    rw[e']
    exact⟨x',y',z',by rw[List.getElem?_append_left (by omega)];exact q0,by rw[List.getElem?_append_left (by omega)];exact q1,by rw[List.getElem?_append_left (by omega)];exact q2,q3.grown k2 hnI⟩
  . have hj':j-qs.length<ms.length:=by simp at hj;omega
    have e':(qs++ms).getD j 0=ms.getD (j-qs.length) 0:=by simp[List.getD,List.getElem?_append_right (show qs.length<=j by omega)]
    rw[e']
    obtain⟨x',y',z',q0,q1,q2,q3⟩:=l4 _ hj'
    refine⟨x',y',z',?_,?_,?_,q3.grown k2 hnI⟩
    . rw[List.getElem?_append_right (by omega),hvs,show j*3-qs.length*3=(j-qs.length)*3 by omega];exact q0
    . rw[List.getElem?_append_right (by omega),hvs,show j*3+1-qs.length*3=(j-qs.length)*3+1 by omega];exact q1
    . rw[List.getElem?_append_right (by omega),hvs,show j*3+2-qs.length*3=(j-qs.length)*3+2 by omega];exact q2
theorem zbp{w:World}{ops:Array Oper}{rest:List Oper}{o:Oper}{a:Act}{Q:Exit->Act->World->Prop}(t e:TypeId)
    (ht:Tryz.prog.underlying t=some (.slice e)) (zl3:(Tryz.prog.info? e).map (fun i=>(i.zero,i.size,i.bytes))=some (some rtZ,3,56)) (hgd:o.guard=none)
    (s x:Operand) (ho:o.op=.call { callee:=.builtin .append,args:=#[s,x],argTypes:=#[t,t] })
    (base:Nat) (v:Value) (k:Nat) (qs ms:List Rat) (hs:a.eval s=v) (hown:Ro e base w v k qs) (pa:OA) (pc n:Nat) (hn:n=ms.length) (hx:a.eval x=.slice pa n pc) (hp:Rz w pa pc k ms) (hpn:pa=none->pc=0) (hps:∀ad,pa=some ad->∃b off,ad=⟨b,off,none⟩) (hlen:qs.length+ms.length<=1000000) (hbase:base<=w.heap.size)
    (h:∀v' w',Ro e base w' v' k (qs++ms)->w.grownBy w' v.ownBlock->(v'.ownBlock=v.ownBlock\/v'.ownBlock=some w.heap.size)->wpList Tryz.prog ops Q rest (a.put o.dst v') w'):wpList Tryz.prog ops Q (o::rest) a w :=
 wpList_plain hgd fun K hK=>zbj t e ht zl3 s x ho base v k qs ms hs hown pa pc n hn hx hp hpn hps hlen hbase (fun v' w' k1 k2 k3=>hK _ _ (h v' w' k1 k2 k3))
def Rf(w:World)(a:OA)(cap k:Nat)(qs:List Rat):Prop:=Rz w a cap k qs/\(a=none->cap=0)/\∀ad,a=some ad->∃b off,ad=⟨b,off,none⟩
theorem Rf.nil(w:World)(k:Nat):Rf w none 0 k []:=⟨Rz.nil _ _ _ _ (Nat.zero_le _),(fun _=>rfl),(fun ad e=>by cases e)⟩
theorem Rf.below{w w':World}{a:OA}{cap k:Nat}{qs:List Rat}(h:Rf w a cap k qs)(hb:Below w.heap.size w w'):Rf w' a cap k qs:=⟨h.1.below hb,h.2⟩
theorem Rz.le{w:World}{a:OA}{cap k m:Nat}{qs:List Rat}(h:Rz w a cap k qs)(hk:k<=m):Rz w a cap m qs:=by
 refine⟨h.1,h.2.1,fun i hi=>?_⟩
 obtain⟨b,off,x,y,z,h1,h2,h3,h4,h5,h6⟩:=h.2.2 i hi
 exact⟨b,off,x,y,z,h1,h2,h3,h4,h5,h6.le hk⟩
theorem Ro.rf{T:TypeId}{base:Nat}{w:World}{v:Value}{k:Nat}{qs:List Rat}(h:Ro T base w v k qs):∃a cap,v=.slice a qs.length cap/\Rf w a cap k qs:=by
 obtain⟨a,cap,e,hz⟩:=h.slice;obtain⟨vs,h3,_,h4⟩:=h
 rcases h3.2 with ⟨e1,h0⟩|⟨g,cap',cur,e1,_⟩
 . rw[e]at e1
   injection e1 with e1 e2 e3
   exact⟨a,cap,e,hz,(fun _=>e3),(fun ad e4=>by rw[e1]at e4;cases e4)⟩
 . rw[e]at e1
   injection e1 with e1 e2 e3
   exact⟨a,cap,e,hz,(fun e4=>by rw[e1]at e4;cases e4),(fun ad e4=>by rw[e1]at e4;cases e4;exact⟨_,_,rfl⟩)⟩
theorem Rz.one{w:World}{g k:Nat}{x y z:Value}{q:Rat}(hg:g<w.heap.size)(c0:w.cell? ⟨g,0,none⟩=some x)(c1:w.cell? ⟨g,1,none⟩=some y)(c2:w.cell? ⟨g,2,none⟩=some z)(hF:Fr w (.agg #[x,y,z]) k q):Rz w (some ⟨g,0,none⟩) 1 k [q]:=by
 refine⟨Nat.le_refl _,by unfold maxLen;omega,fun i hi=>?_⟩
 obtain rfl:i=0:=by simpa using hi
 exact⟨g,0,x,y,z,rfl,hg,c0,c1,c2,hF⟩
def Rg(base:Nat)(w:World)(a:OA)(cap k:Nat)(qs:List Rat):Prop:=Rf w a cap k qs/\∀b o,a=some ⟨b,o,none⟩->base<=b
theorem Rg.nil(base:Nat)(w:World)(k:Nat):Rg base w none 0 k []:=⟨Rf.nil _ _,fun b o e=>by cases e⟩
theorem Rg.below{base:Nat}{w w':World}{a:OA}{cap k:Nat}{qs:List Rat}(h:Rg base w a cap k qs)(hb:Below w.heap.size w w'):Rg base w' a cap k qs:=⟨h.1.below hb,h.2⟩
theorem Rg.lower{base base':Nat}{w:World}{a:OA}{cap k:Nat}{qs:List Rat}(h:Rg base w a cap k qs)(hb:base'<=base):Rg base' w a cap k qs:=⟨h.1,fun b o e=>Nat.le_trans hb (h.2 b o e)⟩
theorem Ro.rg{T:TypeId}{base:Nat}{w:World}{v:Value}{k:Nat}{qs:List Rat}(h:Ro T base w v k qs):∃a cap,v=.slice a qs.length cap/\Rg base w a cap k qs:=by
 obtain⟨a,cap,e,hz⟩:=h.rf;obtain⟨vs,h3,_,h4⟩:=h
 refine⟨a,cap,e,hz,fun b o e4=>?_⟩
 rcases h3.2 with ⟨e1,h0⟩|⟨g,cap',cur,e1,hb,_⟩
 . rw[e]at e1
   injection e1 with e1 e2 e3;rw[e1]at e4
   cases e4
 . rw[e]at e1
   injection e1 with e1 e2 e3;rw[e1]at e4
   cases e4
   exact hb
theorem Fr.cells3'{w:World}{v:Value}{k:Nat}{q:Rat}(h:Fr w v k q):∃n a l c a' l' c',v=.agg #[.bool n,.slice a l c,.slice a' l' c']:=by
 obtain⟨n,xs,ys,⟨a,c,a',c',rfl,h1,h2⟩,h3⟩:=h
 exact⟨_,_,_,_,_,_,_,rfl⟩
theorem zij{α:Type}(f:Nat->α)(k:Nat):(List.range (k+1)).map f=(List.range k).map f++[f k]:=by rw[List.range_succ,List.map_append];rfl
theorem zuh(a:OA)(ca:Nat)(ns:List Int)(ta:OA)(tc:Nat)(ts:List Bool)(da:OA)(dc:Nat)(cs:List Int)(w:World)(hn:Ri w a ca ns)(ht:Rl w ta tc ts)(hc:Ri w da dc cs) :
 Calls Tryz.prog 267 #[.slice a ns.length ca,.slice ta ts.length tc,.slice da cs.length dc] w fun e w'=>∃a' c',e=.returned (.slice a' (fillQ ns ts cs).length c')/\Rf w' a' c' 7 (fillQ ns ts cs)/\Below w.heap.size w w':=by
 have b1:=hn.lenB
 have b2:=ht.lenB
 have b3:=hc.lenB
 cases hF:fitB ns ts cs with
 | false =>
  rw[zol hF]
  by_cases l1:ts.length=ns.length
  . by_cases l2:cs.length=ns.length
    . by_cases l3:ns.length<=80
      . have hf1:=zbr a ca ns w hn
        have hf2:=zbr da dc cs w hc
        cases hq:ns.all fdB with
        | false =>
         rw[hq]at hf1
         rw[l1,l2]at *
         generalize ns.length=n at *
         clear hF hq hn ht hc l1 l2 hf2
         have g1:¬(n:Int) > 80:=by omega
         go_enter Tryz.func267,Tryz.ntmps267
         go_wp2_with fail
         refine hf1.mono ?_
         rintro e u0 ⟨rfl,rfl⟩;go_wp2
         go_ret
         exact⟨none,0,rfl,Rf.nil _ _,Below.refl _ _⟩
        | true =>
         have hq2:cs.all fdB=false:=by
          cases h9:cs.all fdB with
          | false=>rfl
          | true=>rw[fitB,hq,h9,decide_eq_true ⟨l1,l2,l3⟩]at hF;cases hF
         rw[hq]at hf1;rw[hq2]at hf2
         rw[l1,l2]at *
         generalize ns.length=n at *
         clear hF hq hq2 hn ht hc l1 l2
         have g1:¬(n:Int) > 80:=by omega
         go_enter Tryz.func267,Tryz.ntmps267
         go_wp2_with fail
         refine hf1.mono ?_
         rintro e u0 ⟨rfl,rfl⟩
         go_wp2_with fail
         refine hf2.mono ?_
         rintro e u0 ⟨rfl,rfl⟩;go_wp2
         go_ret
         exact⟨none,0,rfl,Rf.nil _ _,Below.refl _ _⟩
      . rw[l1,l2]at *
        generalize ns.length=n at *
        have g1:(n:Int) > 80:=by omega
        clear hF hn ht hc l1 l2
        go_enter Tryz.func267,Tryz.ntmps267
        go_wp2
        go_ret
        exact⟨none,0,rfl,Rf.nil _ _,Below.refl _ _⟩
    . rw[l1]
      generalize ns.length=n at *
      generalize cs.length=m at *
      have g1:¬((m:Int)=(n:Int)):=by omega
      clear hF hn ht hc l1
      go_enter Tryz.func267,Tryz.ntmps267
      go_wp2
      go_ret
      exact⟨none,0,rfl,Rf.nil _ _,Below.refl _ _⟩
  . generalize ns.length=n at *
    generalize ts.length=m at *
    generalize cs.length=m2 at *
    have g1:¬((m:Int)=(n:Int)):=by omega
    clear hF hn ht hc
    go_enter Tryz.func267,Tryz.ntmps267
    go_wp2
    go_ret
    exact⟨none,0,rfl,Rf.nil _ _,Below.refl _ _⟩
 | true =>
  obtain⟨⟨l1,l2,l3⟩,f1,f2⟩:=zjd.1 hF
  have hf1:=zbr a ca ns w hn
  have hf2:=zbr da dc cs w hc
  rw[show ns.all fdB=true from List.all_eq_true.2 (fun z hz=>zce.2 (f1 z hz))]at hf1
  rw[show cs.all fdB=true from List.all_eq_true.2 (fun z hz=>zce.2 (f2 z hz))]at hf2
  have HR:Hid (fillQ ns ts cs=(List.range ns.length).map (fiQ ns ts cs)):=zk2 hF
  have hch:=fun U (h1:Ri U a ca ns) (h2:Rl U ta tc ts) (h3:Ri U da dc cs) i hi=>zk8 i a ca ns ta tc ts da dc cs U h1 h2 h3 hF hi
  have HFL:Hid ((fillQ ns ts cs).length=ns.length):=zg3 hF
  rw[HFL.out]
  rw[l1,l2]at *
  obtain⟨n,hnn⟩:∃n,ns.length=n:=⟨_,rfl⟩
  have HN:Hid (Ri w a ca ns):=hn
  have HT:Hid (Rl w ta tc ts):=ht
  have HC:Hid (Ri w da dc cs):=hc
  rw[hnn]at HR HFL hf1 hf2 hch b1 l3 ⊢;clear b2 b3
  have HL:Hid (ns.length=n):=hnn
  have HCH:Hid (∀U,Ri U a ca ns->Rl U ta tc ts->Ri U da dc cs->∀i:Nat,i<n->Calls Tryz.prog 278 #[.int .i64 (i:Int),.slice a n ca,.slice ta n tc,.slice da n dc] U fun e w'=>∃v',e=.returned v'/\Fr w' v' 7 (fiQ ns ts cs i)/\Below U.heap.size U w'):=hch
  clear hF f1 f2 hn ht hc l1 l2 hnn hch
  have g1:¬(n:Int) > 80:=by omega
  obtain⟨i0,hi0,hz0,hz1,hz2⟩:=info_parts zch
  have hmk:=run_make (P:=Tryz.prog) w 173 125 i0 rtZ Tryz.underlying173 hi0 hz0 .i64 .i64 0 (n:Int) (by omega) (by omega) (by rw[hz2];omega) (by omega)
  rw[hz1]at hmk
  simp only[Int.toNat_zero,Int.toNat_natCast]at hmk
  obtain⟨w1,hw1⟩:∃w1,w.alloc (.cells (madeCells rtZ.cells (n*3)) 125)=w1:=⟨_,rfl⟩
  have hI0:Ro 125 w.heap.size w1 (.slice (some ⟨w.heap.size,0,none⟩) 0 n) 7 ((List.range 0).map (fiQ ns ts cs)):=by
   refine⟨[],?_,fun g hg=>?_,fun i hi=>by simp at hi⟩
   . rw[<-hw1]
     have:=World.ownsRow_made (base:=w.heap.size) (e:=125) (size:=3) w (madeCells rtZ.cells (n*3)) n (Nat.le_refl _) (by unfold maxLen;omega) (size_madeCells _ _)
     simpa using this
   . simp[Value.ownBlock]at hg
     subst hg;rw[<-hw1]
     exact NoI.of (heap_alloc_new w _) (zie _)
  have zob:Below w.heap.size w w1:=by rw[<-hw1];exact bl1 _
  rw[hw1]at hmk;clear hw1 hi0 hz0 hz1 hz2
  go_enter Tryz.func267,Tryz.ntmps267
  go_wp2_with fail
  refine hf1.mono ?_
  rintro e u0 ⟨rfl,rfl⟩
  go_wp2_with fail
  refine hf2.mono ?_
  rintro e u0 ⟨rfl,rfl⟩;clear hf1 hf2;go_wp2
  go_loopw [8,37] (fun v i wr=>∃k:Nat,k<=n/\i=.int .i64 k/\Ro 125 w.heap.size wr v 7 ((List.range k).map (fiQ ns ts cs))/\Below w.heap.size w wr) (fun _ i _=>n-(intOf i).toNat)
  case atStart=>exact⟨0,Nat.zero_le _,rfl,hI0,zob⟩
  case round =>
   obtain⟨k,hk,rfl,hT,hB⟩:=hrel;obtain⟨a2,c2,rfl,hts⟩:=hT.rf
   have hlen:((List.range k).map (fiQ ns ts cs)).length=k:=by simp
   rw[hlen]at hT ⊢
   have HT2:Hid (Ro 125 w.heap.size wr (.slice a2 k c2) 7 ((List.range k).map (fiQ ns ts cs))):=hT
   have HTS:Hid (Rf wr a2 c2 7 ((List.range k).map (fiQ ns ts cs))):=hts
   clear hT hts hmk hI0 zob
   have hsz:=hB.size
   by_cases hkn:k<n
   . have hc1:=HCH.out wr (HN.out.below hB) (HT.out.below hB) (HC.out.below hB) k hkn
     have HS:Hid (_):=zij (fiQ ns ts cs) k
     go_wp2_with fail
     refine hc1.mono ?_
     rintro e u1 ⟨v1,rfl,hF1,hb1⟩;obtain⟨z1,x1,x2,x3,x4,x5,x6,rfl⟩:=hF1.cells3'
     obtain⟨V,hV,B4,hb4⟩:∃V,V=u1.alloc (.cells #[.bool z1,.slice x1 x2 x3,.slice x4 x5 x6] 125)/\Box 125 V u1.heap.size (.bool z1) (.slice x1 x2 x3) (.slice x4 x5 x6)/\Below u1.heap.size u1 V:=⟨_,rfl,Box.new _ _ _ _ _,bl1 _⟩
     have hbv:Below wr.heap.size wr V:=hb1.trans (hb4.mono hb1.size)
     obtain⟨r0,r1,r2,_⟩:=B4.cells
     have zba:=Rz.one B4.lt r0 r1 r2 (hF1.below hb4)
     have hown:=HT2.out.below hbv
     have hll:((List.range k).map (fiQ ns ts cs)).length+[fiQ ns ts cs k].length<=1000000:=by rw[hlen];simp;omega
     have hbs:w.heap.size<=V.heap.size:=Nat.le_trans hsz hbv.size
     have hBV:Below w.heap.size w V:=hB.trans (hbv.mono hsz)
     have z4x:∀g,(Value.slice a2 k c2).ownBlock=some g->w.heap.size<=g:=fun g hg=>(HT2.out.lo hg).1
     clear hc1 hF1 hb1 hb4 hbv B4 r0 r1 r2
     go_wp2_with (at_builtin;rw[<-hV];refine zbp 173 125 Tryz.underlying173 zch rfl _ _ rfl w.heap.size (.slice a2 k c2) 7 _ _ rfl hown _ 1 1 rfl rfl zba (fun e=>by cases e) (fun ad e=>by cases e;exact⟨_,_,rfl⟩) hll hbs ?_)
     intro v9 w9 hT9 hgrow _
     rw[<-hV]at hgrow
     have hB9:Below w.heap.size w w9:=hBV.grown hgrow hbs z4x
     rw[<-HS.out]at hT9;clear hgrow hbs hll HS zba hown hV;go_wp2
     go_roundw
     case rel=>exact⟨k+1,by omega,by go_num,hT9,hB9⟩
     case measure=>simp[intOf];omega
   . obtain rfl:k=n:=by omega
     have g4:¬(k:Int)<(k:Int):=by omega
     go_wp2
     go_ret
     exact⟨a2,c2,rfl,by rw[HR.out];exact HTS.out,hB⟩
def nilV:Value:=.slice none 0 0
def Fam{α:Type}(E:El α)(t:TypeId)(base:Nat)(w:World)(vs:List Value)(ls:List (List α)):Prop :=
 vs.length=ls.length/\(∀i,i<vs.length->Gw E t base (fun _=>False) w (vs.getD i nilV) (ls.getD i [])) /\
  ∀i j g,i<vs.length->j<vs.length->i≠j->(vs.getD i nilV).ownBlock=some g->(vs.getD j nilV).ownBlock≠some g
theorem Fam.row{α:Type}{E:El α}{t:TypeId}{base:Nat}{w:World}{vs:List Value}{ls:List (List α)}(h:Fam E t base w vs ls)(k:Nat)(hk:k<vs.length):Gw E t base (fun _=>False) w (vs.getD k nilV) (ls.getD k []):=h.2.1 k hk
theorem Fam.below{α:Type}{E:El α}{t:TypeId}{base:Nat}{w w':World}{vs:List Value}{ls:List (List α)}(h:Fam E t base w vs ls)(hb:Below w.heap.size w w'):Fam E t base w' vs ls:=⟨h.1,fun i hi=>(h.2.1 i hi).below hb,h.2.2⟩
theorem Fam.grow{α:Type}{E:El α}{t:TypeId}{base:Nat}{w w':World}{vs:List Value}{ls:List (List α)}(h:Fam E t base w vs ls)(k:Nat)(hk:k<vs.length){v':Value}{l':List α}(h1:Gw E t base (fun _=>False) w' v' l')(hg:w.grownBy w' (vs.getD k nilV).ownBlock)(ho:v'.ownBlock=(vs.getD k nilV).ownBlock\/v'.ownBlock=some w.heap.size):Fam E t base w' (vs.set k v') (ls.set k l'):=by
 have e1:∀i,i≠k->(vs.set k v').getD i nilV=vs.getD i nilV:=fun i hi=>by simp[List.getD,List.getElem?_set_ne (fun e=>hi e.symm)]
 have e2:(vs.set k v').getD k nilV=v':=by simp[List.getD,hk]
 have e3:∀i,i≠k->(ls.set k l').getD i []=ls.getD i []:=fun i hi=>by simp[List.getD,List.getElem?_set_ne (fun e=>hi e.symm)]
 have e4:(ls.set k l').getD k []=l':=by have:=h.1;simp[List.getD,show k<ls.length by omega]
 have hlt:∀i g,i<vs.length->(vs.getD i nilV).ownBlock=some g->g<w.heap.size:=fun i g hi e=>((h.2.1 i hi).lo e).2
 have zpr:∀j g,j<vs.length->j≠k->(vs.getD j nilV).ownBlock=some g->v'.ownBlock≠some g:=fun j g hj hjk e e5=>by
  rcases ho with ho|ho
  . rw[ho]at e5
    exact h.2.2 j k g hj hk hjk e e5
  . rw[ho]at e5
    injection e5 with e5
    have:=hlt j g hj e
    omega
 refine⟨by rw[List.length_set,List.length_set];exact h.1,fun i hi=>?_,fun i j g hi hj hij e=>?_⟩
 . rw[List.length_set]at hi
   by_cases hik:i=k
   . subst hik
     rw[e2,e4]
     exact h1
   . rw[e1 i hik,e3 i hik]
     exact(h.2.1 i hi).stay hg.size (fun k hk=>hk.elim) (fun g eg=>hg.block g (hlt i g hi eg) (fun e=>h.2.2 i k g hi hk hik eg e.symm))
 . rw[List.length_set]at hi hj
   by_cases hik:i=k
   . subst hik
     rw[e2]at e
     rw[e1 j (fun x=>hij x.symm)]
     intro e5
     exact zpr j g hj (fun x=>hij x.symm) e5 e
   . rw[e1 i hik]at e
     by_cases hjk:j=k
     . subst hjk
       rw[e2]
       exact zpr i g hi hik e
     . rw[e1 j hjk]
       exact h.2.2 i j g hi hj hij e
theorem Fam.beside{α β:Type}{E:El α}{F:El β}{t u:TypeId}{base base2:Nat}{S:Nat->Prop}{w w':World}{vs:List Value}{ls:List (List α)}{x:Value}{m:List β}(h:Fam E t base w vs ls)(h2:Gw F u base2 S w x m)(ht:t≠u)(hg:w.grownBy w' x.ownBlock):Fam E t base w' vs ls :=
 ⟨h.1,fun i hi=>(h.2.1 i hi).beside h2 ht (fun k hk=>hk.elim) hg,h.2.2⟩
theorem Fam.two{α:Type}(E:El α)(t:TypeId)(base:Nat)(w:World):Fam E t base w [nilV,nilV] [[],[]] :=
 ⟨rfl,fun i hi=>by
  have:i=0\/i=1:=by simp at hi;omega
  rcases this with rfl|rfl <;> exact Gw.nil _ _ _ _ _,fun i j g hi hj hij e=>by
  have:i=0\/i=1:=by simp at hi;omega
  rcases this with rfl|rfl <;> cases e⟩
theorem Fam.three{α:Type}(E:El α)(t:TypeId)(base:Nat)(w:World):Fam E t base w [nilV,nilV,nilV] [[],[],[]] :=
 ⟨rfl,fun i hi=>by
  have:i=0\/i=1\/i=2:=by simp at hi;omega
  rcases this with rfl|rfl|rfl <;> exact Gw.nil _ _ _ _ _,fun i j g hi hj hij e=>by
  have:i=0\/i=1\/i=2:=by simp at hi;omega
  rcases this with rfl|rfl|rfl <;> cases e⟩
theorem Fam.four{α:Type}(E:El α)(t:TypeId)(base:Nat)(w:World):Fam E t base w [nilV,nilV,nilV,nilV] [[],[],[],[]] :=
 ⟨rfl,fun i hi=>by
  have:i=0\/i=1\/i=2\/i=3:=by simp at hi;omega
  rcases this with rfl|rfl|rfl|rfl <;> exact Gw.nil _ _ _ _ _,fun i j g hi hj hij e=>by
  have:i=0\/i=1\/i=2\/i=3:=by simp at hi;omega
  rcases this with rfl|rfl|rfl|rfl <;> cases e⟩
theorem zhs:(Tryz.prog.info? 4).map (fun i=>(i.zero,i.size,i.bytes))=some (some (.bool false),1,1):=by kernel_rfl
theorem zqn{w:World}{ops:Array Oper}{rest:List Oper}{o:Oper}{a:Act}{Q:Exit->Act->World->Prop}
    (hgd:o.guard=none) (s x:Operand) (ho:o.op=.call { callee:=.builtin .append,args:=#[s,x],argTypes:=#[238,238] })
    (base:Nat) (v:Value) (l:List Bool) (hs:a.eval s=v) (hown:Gw El.bool 4 base (fun _=>False) w v l) (g:Nat) (z:Bool) (hx:a.eval x=.slice (some ⟨g,0,none⟩) 1 1)
    (hg:g<w.heap.size) (c0:w.cell? ⟨g,0,none⟩=some (.bool z)) (hlen:l.length+1<=1000000) (hbase:base<=w.heap.size)
    (h:∀v' w',Gw El.bool 4 base (fun _=>False) w' v' (l++[z])->w.grownBy w' v.ownBlock->(v'.ownBlock=v.ownBlock\/v'.ownBlock=some w.heap.size)->wpList Tryz.prog ops Q rest (a.put o.dst v') w'):wpList Tryz.prog ops Q (o::rest) a w:=by
 refine zad 238 4 Tryz.underlying238 zhs rfl Nat.one_pos (by decide) hgd s x ho base (fun _=>False) v l hs hown (some ⟨g,0,none⟩) 1 1 [z] rfl hx ?_ hlen hbase (fun v' w' k1 k2 k3=>h v' w' k1 k2 k3)
 refine Gr.one (vs:=[.bool z]) rfl hg (fun j hj=>?_)
 obtain rfl:j=0:=by simp[El.bool]at hj;exact hj
 exact c0
theorem Gw.mk1{α:Type}{E:El α}{t:TypeId}(w:World)(n:Nat)(z:α)(zc:Value)(hsz:E.sz=1)(hd:E.dfl=z)(zjw:∀S w,E.rep S w [zc] z)(hn:n<=1000000):Gw E t w.heap.size (fun _=>False) (w.alloc (.cells (madeCells #[zc] n) t)) (.slice (some ⟨w.heap.size,0,none⟩) n n) (List.replicate n z):=by
 have hm:(madeCells #[zc] n).toList=List.replicate n zc:=by
  refine List.ext_getElem (by simp[madeCells]) (fun i h1 h2=>?_)
  simp[madeCells,Nat.mod_one]
 have hfl:(List.replicate n [zc]).flatten=List.replicate n zc:=by
  clear hm
  induction n with
  | zero=>rfl
  | succ n ih=>rw[List.replicate_succ,List.flatten_cons,ih (by omega),List.replicate_succ];rfl
 refine⟨List.replicate n [zc],by simp,⟨?_,.inr ⟨w.heap.size,n,madeCells #[zc] n,by rw[List.length_replicate],Nat.le_refl _,heap_alloc_new w _,by simp,by unfold maxLen;omega,?_,?_⟩⟩,fun i hi=>?_⟩
 . rw[hfl,List.length_replicate,List.length_replicate,hsz,Nat.mul_one]
 . rw[hsz,Nat.mul_one,size_madeCells]
 . rw[hfl,hm,List.length_replicate,hsz,Nat.mul_one]
   simp
 . rw[List.length_replicate]at hi
   have e1:(List.replicate n [zc]).getD i []=[zc]:=by simp[List.getD,hi]
   have e2:(List.replicate n z).getD i E.dfl=z:=by simp[List.getD,hi]
   rw[e1,e2]
   exact zjw _ _
theorem zfb(S:Nat->Prop)(a:OA)(ca:Nat)(b:OA)(cb:Nat)(o:Ol)(w:World)(hc:Gr PnE.row S w a ca o.cs)(hp:Gr PaE S w b cb o.ps)(hl:o.cs.flatten.length<=100000)(hl2:o.ps.length<=100000) :
 Calls Tryz.prog 102 #[.agg #[.slice a o.cs.length ca,.slice b o.ps.length cb]] w fun e w'=>e=.returned (.int .i64 (cntO o:Int))/\Below w.heap.size w w':=by
 have k2:=hc.lenB
 obtain⟨W,hW,X1,hbW⟩:∃W,W=w.alloc (.cells #[.slice a o.cs.length ca,.slice b o.ps.length cb] 57)/\Bk 57 W w.heap.size [.slice a o.cs.length ca,.slice b o.ps.length cb]/\Below w.heap.size w W:=⟨_,rfl,Bk.new _ _ _,bl1 _⟩
 obtain⟨x0,x1,_⟩:=X1.two
 have HH:Hid (Gr PnE.row S W a ca o.cs):=hc.below hbW
 have HC:Hid (cntO o=o.ps.length+ofC o.cs o.cs.length):=by show _=_;rw[zlt];rfl
 clear hc hp X1;obtain⟨cs,ps⟩:=o
 dsimp only at *
 go_enter Tryz.func102,Tryz.ntmps102
 go_upto_region 1 with fail
 rw[<-hW];clear hW;go_wp2;clear x0 x1
 go_loopw [3,12] (fun c i wr=>∃k:Nat,k<=cs.length/\i=.int .i64 k/\c=.int .i64 ((ps.length+ofC cs k:Nat):Int)/\W=wr) (fun _ i _=>cs.length-(intOf i).toNat)
 case atStart=>exact⟨0,Nat.zero_le _,rfl,rfl,rfl⟩
 case round =>
  obtain⟨k,hk,rfl,rfl,rfl⟩:=hrel
  by_cases hkn:k<cs.length
  . obtain⟨b0,off,a1,c1,ea,hb,d0,hrow,hlb,_⟩:=HH.out.rw (Below.refl _ _) k hkn
    subst ea
    have hst:=zdp hkn
    have hle:=zny cs (k+1)
    obtain⟨m,hm⟩:∃m,(cs.getD k []).length=m:=⟨_,rfl⟩
    rw[hm]at d0 hst
    obtain⟨x,hx⟩:∃x,ofC cs k=x:=⟨_,rfl⟩
    obtain⟨y,hy⟩:∃x,ofC cs (k+1)=x:=⟨_,rfl⟩
    have HY:Hid (ofC cs (k+1)=y):=hy
    rw[hx,hy]at hst;rw[hy]at hle;rw[hx]
    have i1:(0:Int)<=(k:Int):=by omega
    have i2:(k:Int)<(cs.length:Int):=by omega
    have hs:((ps.length+x:Nat):Int)+(m:Int)=((ps.length+y:Nat):Int):=by omega
    clear hm hx hy hrow hlb;go_wp2
    go_roundw
    case rel=>exact⟨k+1,by omega,by go_num,by rw[HY.out];exact congrArg (Value.int .i64) (by omega),trivial⟩
    case measure=>simp[intOf];omega
  . obtain rfl:k=cs.length:=by omega
    have g4:¬(cs.length:Int)<(cs.length:Int):=by omega
    rw[<-HC.out];go_wp2
    go_ret
    exact⟨rfl,hbW⟩
theorem zpj(a:OA)(ca:Nat)(pts:List Int)(n:Nat)(w:World)(h:Ri w a ca pts)(hn:n<=1000000) :
 Calls Tryz.prog 226 #[.slice a pts.length ca,.int .i64 (n:Int)] w fun e w'=>e=.returned (.bool (risB pts n))/\w=w':=by
 have k2:=h.lenB
 have HH:Hid (Ri w a ca pts):=h
 clear h
 go_enter Tryz.func226,Tryz.ntmps226
 go_wp2
 go_loopw [5,10] (fun l i wr=>∃k:Nat,k<=pts.length/\i=.int .i64 k/\l=.int .i64 (lastI pts k)/\(∀j,j<k->risP pts n j)/\w=wr) (fun _ i _=>pts.length-(intOf i).toNat)
 case atStart=>exact⟨0,Nat.zero_le _,rfl,rfl,(fun j hj=>by omega),rfl⟩
 case round =>
  obtain⟨k,hk,rfl,rfl,hok,rfl⟩:=hrel
  have HOK:Hid (∀j,j<k->risP pts n j):=hok
  clear hok
  by_cases hkn:k<pts.length
  . obtain⟨b,off,ea,hb,d0⟩:=HH.out.at (Below.refl _ _) k hkn
    have hzi:=HH.out.i64 hkn
    subst ea
    have HL:Hid (lastI pts (k+1)=pts.getD k 0):=by show _=_;unfold lastI;rw[if_neg (by omega),Nat.add_sub_cancel]
    obtain⟨z,hzz⟩:∃z,pts.getD k 0=z:=⟨_,rfl⟩
    obtain⟨l,hll⟩:∃z,lastI pts k=z:=⟨_,rfl⟩
    have HP:Hid (risP pts n k↔l<z/\z<(n:Int)):=by show _↔_;unfold risP;rw[hzz,hll]
    rw[hzz]at d0 HL hzi;rw[hll]
    have i1:(0:Int)<=(k:Int):=by omega
    have i2:(k:Int)<(pts.length:Int):=by omega
    clear hzz hll
    by_cases h1:l<z
    . have g1:¬z<=l:=by omega
      have g1b:decide (z<=l)=false:=decide_eq_false g1
      by_cases h2:z<(n:Int)
      . have g2:decide (z ≥ (n:Int))=false:=decide_eq_false (by omega)
        have zea:Hid (∀j,j<k+1->risP pts n j):=za4 HOK.out (HP.out.2 ⟨h1,h2⟩)
        clear HOK HP;go_wp2
        go_roundw
        case rel=>exact⟨k+1,by omega,by go_num,by rw[HL.out],zea.out,trivial⟩
        case measure=>simp[intOf];omega
      . have g2:decide (z ≥ (n:Int))=true:=decide_eq_true (by omega)
        have HF:Hid (risB pts n=false):=zii hkn (fun h=>h2 (HP.out.1 h).2)
        clear HOK HP;go_wp2
        go_ret
        exact⟨zaa HF.out.symm,rfl⟩
    . have g1:z<=l:=by omega
      have g1b:decide (z<=l)=true:=decide_eq_true g1
      have HF:Hid (risB pts n=false):=zii hkn (fun h=>h1 (HP.out.1 h).1)
      clear HOK HP;go_wp2
      go_ret
      exact⟨zaa HF.out.symm,rfl⟩
  . obtain rfl:k=pts.length:=by omega
    have HF:Hid (risB pts n=true):=zih HOK.out
    have g1:¬(pts.length:Int)<(pts.length:Int):=by omega
    clear HOK;go_wp2
    go_ret
    exact⟨zaa HF.out.symm,rfl⟩
theorem zgv(a:OA)(ca:Nat)(pts:List Int)(b:OA)(cb:Nat)(told:List Int)(n:Nat)(w:World)(h:Ri w a ca pts)(h2:Ri w b cb told)(hl:told.length=pts.length)(hr:risB pts n=true)(hn:n<=1000) :
 Calls Tryz.prog 228 #[.slice a pts.length ca,.slice b told.length cb,.int .i64 (n:Int)] w fun e w'=>∃a' c',e=.returned (.slice a' (layI pts told n pts.length).length c')/\Ri w' a' c' (layI pts told n pts.length)/\Below w.heap.size w w':=by
 have k2:=h.lenB
 have HH:Hid (Ri w a ca pts):=h
 have H2:Hid (Ri w b cb told):=h2
 have HR:Hid (∀k,k<pts.length->risP pts n k):=zcu.1 hr
 have HL:Hid (told.length=pts.length):=hl
 rw[hl];clear h h2 hr hl
 obtain⟨i0,hi0,hz0,hz1,hz2⟩:=info_parts zcc
 have hmk:=run_make (P:=Tryz.prog) w 29 3 i0 (.int .i64 0) Tryz.underlying29 hi0 hz0 .i64 .i64 (n:Int) (n:Int) (by omega) (by omega) (by rw[hz2];omega) (by omega)
 rw[hz1]at hmk
 simp only[Int.toNat_natCast,Nat.mul_one]at hmk
 have hI0:Gw El.int 3 w.heap.size (fun _=>False) (w.alloc (.cells (madeCells #[.int .i64 0] n) 3)) (.slice (some ⟨w.heap.size,0,none⟩) n n) (layI pts told n 0):=Gw.mk1 w n 0 (.int .i64 0) rfl rfl (fun S w=>⟨rfl,by decide,by decide⟩) (by omega)
 have hB0:Below w.heap.size w (w.alloc (.cells (madeCells #[.int .i64 0] n) 3)):=bl1 _
 replace hmk:(Instr.makeSlice 29 (.int .i64 (n:Int)) (.int .i64 (n:Int))).run Tryz.prog w=.ok (.slice (some ⟨w.heap.size,0,none⟩) n n) (w.alloc (.cells (madeCells #[.int .i64 0] n) 3)):=hmk
 generalize w.alloc (.cells (madeCells #[.int .i64 0] n) 3)=w1 at *
 clear hi0 hz0 hz1 hz2
 go_enter Tryz.func228,Tryz.ntmps228
 go_wp2
 go_loopw [14] (fun i wr=>∃k:Nat,k<=pts.length/\i=.int .i64 k/\Gw El.int 3 w.heap.size (fun _=>False) wr (.slice (some ⟨w.heap.size,0,none⟩) n n) (layI pts told n k)/\Below w.heap.size w wr) (fun i _=>pts.length-(intOf i).toNat)
 case atStart=>exact⟨0,Nat.zero_le _,rfl,hI0,hB0⟩
 case round =>
  clear hI0 hB0 hmk;obtain⟨k,hk,rfl,hG,hB⟩:=hrel
  by_cases hkn:k<pts.length
  . obtain⟨b0,off,ea,hb,d0⟩:=HH.out.at hB k hkn
    subst ea
    obtain⟨b1,off1,ea,hb1,d1⟩:=H2.out.at hB k (by rw[HL.out];exact hkn)
    subst ea
    have hzi:=H2.out.i64 (k:=k) (by rw[HL.out];exact hkn)
    have hp:=zct k (fun j hj=>HR.out j (by omega))
    have HS:Hid (layI pts told n (k+1)=(layI pts told n k).set (pts.getD k 0).toNat (told.getD k 0)):=rfl
    obtain⟨p,hpp⟩:∃p:Nat,pts.getD k 0=(p:Int):=⟨(pts.getD k 0).toNat,by omega⟩
    rw[hpp]at d0 hp HS;rw[Int.toNat_natCast]at HS
    obtain⟨z,hzz⟩:∃z,told.getD k 0=z:=⟨_,rfl⟩
    rw[hzz]at d1 hzi HS
    have hne:layI pts told n k≠[]:=fun e=>by have:=za8 pts told n k;rw[e]at this;simp at this;omega
    obtain⟨g,cap,e5,h5,h6,h7,hfz,hrd,zks⟩:=hG.own hne
    injection e5 with e5 e6 e7;injection e5 with e5;injection e5 with e5;subst e5
    have hfp:=hfz p
    have hsw:=zks p 0 (.int .i64 z) z (by rw[za8];omega) Nat.one_pos (fun S' vs hv=>by rw[hv.1];exact⟨rfl,hzi⟩)
    rw[show p*El.int.sz+0=p from Nat.mul_one p,<-HS.out]at hsw
    obtain⟨vs,hrx,hcx⟩:=hrd p (by rw[za8];omega)
    have hc0:=hcx 0 Nat.one_pos
    rw[hrx.1,show p*El.int.sz+0=p from Nat.mul_one p]at hc0
    have hBs:Below w.heap.size w (wr.setCell ⟨w.heap.size,p,none⟩ (.int .i64 z)):=hB.setCell (p:=⟨w.heap.size,p,none⟩) (Nat.le_refl _) _
    have i1:(0:Int)<=(k:Int):=by omega
    have i2:(k:Int)<(pts.length:Int):=by omega
    have i3:(0:Int)<=(p:Int):=by omega
    have i4:(p:Int)<(n:Int):=by omega
    have HSW:Hid (Gw El.int 3 w.heap.size (fun _=>False) (wr.setCell ⟨w.heap.size,p,none⟩ (.int .i64 z)) (.slice (some ⟨w.heap.size,0,none⟩) n n) (layI pts told n (k+1))):=hsw
    have HBS:Hid (Below w.heap.size w (wr.setCell ⟨w.heap.size,p,none⟩ (.int .i64 z))):=hBs
    clear zks hfz hrd hsw hBs hpp hzz hcx hrx hG hne e6 e7 h7;go_wp2
    go_roundw
    case rel=>exact⟨k+1,by omega,by go_num,HSW.out,HBS.out⟩
    case measure=>simp[intOf];omega
  . obtain rfl:k=pts.length:=by omega
    have g1:¬(pts.length:Int)<(pts.length:Int):=by omega
    obtain⟨a9,c9,e9,hg9,_⟩:=hG.slice
    have hri:=hg9.ri
    have HLL:Hid ((layI pts told n pts.length).length=n):=za8 _ _ _ _
    rw[HLL.out]at e9;injection e9 with e1 e2 e3;subst e1 e3
    have HRI:Hid (Ri wr (some ⟨w.heap.size,0,none⟩) n (layI pts told n pts.length)):=hri
    clear hri hg9 hG;go_wp2
    go_ret
    exact⟨_,n,by rw[HLL.out];rfl,HRI.out,hB⟩
def isG(n:Nat)(g:Int):Bool:=decide (0<=g)&&decide (g<(n:Int))
theorem zn4{l:List Gl}{g:Int}(h:isG l.length g=false):gAt l g=none:=by
 unfold isG at h
 by_cases h0:0<=g
 . rw[decide_eq_true h0,Bool.true_and,decide_eq_false_iff_not]at h
   exact z2o (by omega)
 . exact z2m (by omega)
theorem zn3{n:Nat}{g:Int}(h:isG n g=true):0<=g/\g<(n:Int):=by
 unfold isG at h
 rw[Bool.and_eq_true,decide_eq_true_iff,decide_eq_true_iff]at h
 exact h
theorem zy4{l:List Gl}{g:Int}(h:isG l.length g=true):gAt l g=some (l.getD g.toNat Gl.none):=by
 obtain⟨h1,h2⟩:=zn3 h
 have:=z2n (l:=l) (k:=g.toNat) (by omega)
 rw[show((g.toNat:Nat):Int)=g by omega]at this
 exact this
theorem zly(a:OA)(n c:Nat)(g:Int)(w:World)(hn:n<=9223372036854775807)(hg:I64 g) :
 Calls Tryz.prog 35 #[.slice a n c,.int .i64 g] w fun e w'=>e=.returned (.bool (isG n g))/\w=w':=by
 by_cases h0:0<=g
 . have HE:Hid (isG n g=decide (g<(n:Int))):=by show _=_;unfold isG;rw[decide_eq_true h0,Bool.true_and]
   have g1:decide ((0:Int)<=g)=true:=decide_eq_true h0
   go_enter Tryz.func35,Tryz.ntmps35
   go_wp2
   go_ret
   exact⟨zaa HE.out.symm,rfl⟩
 . have HE:Hid (isG n g=false):=by show _=_;unfold isG;rw[decide_eq_false h0,Bool.false_and]
   have g1:decide ((0:Int)<=g)=false:=decide_eq_false h0
   go_enter Tryz.func35,Tryz.ntmps35
   go_wp2
   go_ret
   exact⟨zaa HE.out.symm,rfl⟩
theorem z3h(n m:Nat):min (((cap n:Nat):Int)+(m:Int)) 2001=((cap (n+m):Nat):Int):=by unfold cap;omega
theorem zyc(n m:Nat):min (((cap n:Nat):Int)+((cap m:Nat):Int)) 2001=((cap (n+m):Nat):Int):=by unfold cap;omega
theorem zzp(n:Nat):cap n<=2001:=by unfold cap;omega
theorem zl9(S:Nat->Prop)(a:OA)(ca:Nat)(b:OA)(nb cb:Nat)(cs:List (List Pn))(w:World)(h:Gr PnE.row S w a ca cs) :
 Calls Tryz.prog 66 #[.agg #[.slice a cs.length ca,.slice b nb cb]] w fun e w'=>e=.returned (.int .i64 ((cap cs.flatten.length:Nat):Int))/\Below w.heap.size w w':=by
 have k2:=h.lenB
 obtain⟨W,hW,X1,hbW⟩:∃W,W=w.alloc (.cells #[.slice a cs.length ca,.slice b nb cb] 57)/\Bk 57 W w.heap.size [.slice a cs.length ca,.slice b nb cb]/\Below w.heap.size w W:=⟨_,rfl,Bk.new _ _ _,bl1 _⟩
 obtain⟨x0,x1,_⟩:=X1.two
 have HH:Hid (Gr PnE.row S W a ca cs):=h.below hbW
 clear h X1
 go_enter Tryz.func66,Tryz.ntmps66
 go_upto_region 1 with fail
 rw[<-hW];clear hW;go_wp2;clear x0 x1
 go_loopw [3,9] (fun c i wr=>∃k:Nat,k<=cs.length/\i=.int .i64 k/\c=.int .i64 ((cap (cs.take k).flatten.length:Nat):Int)/\W=wr) (fun _ i _=>cs.length-(intOf i).toNat)
 case atStart=>exact⟨0,Nat.zero_le _,rfl,rfl,rfl⟩
 case round =>
  obtain⟨k,hk,rfl,rfl,rfl⟩:=hrel
  by_cases hkn:k<cs.length
  . obtain⟨b0,off,a1,c1,ea,hb,d0,hrow,hlb,_⟩:=HH.out.rw (Below.refl _ _) k hkn
    subst ea
    have HST:Hid (_):=zan hkn
    have hmn:=z3h (cs.take k).flatten.length (cs.getD k []).length
    rw[<-HST.out]at hmn
    have hcb:=zzp (cs.take k).flatten.length
    obtain⟨m,hm⟩:∃m,(cs.getD k []).length=m:=⟨_,rfl⟩
    rw[hm]at d0 hmn hlb
    obtain⟨y,hy⟩:∃x,cap (cs.take (k+1)).flatten.length=x:=⟨_,rfl⟩
    have HY:Hid (cap (cs.take (k+1)).flatten.length=y):=hy
    rw[hy]at hmn
    generalize cap (cs.take k).flatten.length=x at *
    have i1:(0:Int)<=(k:Int):=by omega
    have i2:(k:Int)<(cs.length:Int):=by omega
    clear hm hy hrow HST;go_wp2
    go_roundw
    case rel=>exact⟨k+1,by omega,by go_num,by rw[HY.out],trivial⟩
    case measure=>simp[intOf];omega
  . obtain rfl:k=cs.length:=by omega
    have g4:¬(cs.length:Int)<(cs.length:Int):=by omega
    rw[List.take_length];go_wp2
    go_ret
    exact⟨rfl,hbW⟩
theorem zeroX(w:World):(zeroValue 71).run Tryz.prog w=.ok (.agg #[.int .i64 0,.int .i64 0]) w:=by kernel_rfl
theorem zd6(a:OA)(n c:Nat)(w:World) :
 Calls Tryz.prog 31 #[.slice a n c] w fun e w'=>e=.returned (.pointer (some ⟨w.heap.size+1,0,none⟩))/\Bk 119 w' (w.heap.size+1) [.slice a n c,.map (some w.heap.size)]/\Mp w' w.heap.size 0 (fun _=>none)/\Below w.heap.size w w':=by
 have hmm:=@run_makeMap Tryz.prog
 have M:=Mp.made w
 obtain⟨W,hW⟩:∃W,W=w.alloc (.map #[] 0):=⟨_,rfl⟩
 have hb:Below w.heap.size w W:=by rw[hW];exact bl1 _
 have hs:W.heap.size=w.heap.size+1:=by rw[hW];simp
 rw[<-hW]at M
 have X:=Bk.new 119 W [.slice a n c,.map (some w.heap.size)]
 rw[hs]at X
 have zau:Bk 119 (W.alloc (.cells #[.slice a n c,.map (some w.heap.size)] 119)) (w.heap.size+1) [.slice a n c,.map (some w.heap.size)]/\Mp (W.alloc (.cells #[.slice a n c,.map (some w.heap.size)] 119)) w.heap.size 0 (fun _=>none)/\Below w.heap.size w (W.alloc (.cells #[.slice a n c,.map (some w.heap.size)] 119)):=⟨X,M.below (bl1 _),hb.trans ((bl1 _).mono hb.size)⟩
 have HF:Hid (_):=zau
 clear zau X M hb
 go_enter Tryz.func31,Tryz.ntmps31
 go_wp2
 go_ret
 subst hW
 exact⟨rfl,HF.out⟩
