import Derived.Test.YtgbhidcokobmmaaGreatDoorZL35
set_option maxRecDepth 100000
set_option linter.unusedSimpArgs false
set_option linter.unusedVariables false
namespace Go.Proofs.YtgbhidcokobmmaaGreatDoor
open Go.RowKit Go.Maps
open Go.ChangeShapes Go.WideShapes Go.Joins Go.Deep
theorem ze2:Opens El.int.row 37:=Opens.row zba Tryz.underlying37 (by kernel_rfl) Nat.one_pos (of_decide_eq_true (by kernel_rfl))
theorem zsk:Opens TeE 220 :=
 (Opens.struct (E:=El.int.cat (El.int.cat El.int)) Tryz.underlying220 (by kernel_rfl) (OpensF.more zba rfl (OpensF.more zba rfl (OpensF.last zba rfl)))).via (fun x=>⟨⟨x.1,x.2.1,x.2.2⟩,rfl⟩)
theorem zip:Opens TeE.row 112:=Opens.row zsk Tryz.underlying112 (by kernel_rfl) (by decide) (of_decide_eq_true (by kernel_rfl))
theorem zsj:Opens TuE 190 :=
 (Opens.struct (E:=TeE.row.cat (El.bool.cat (El.int.row.cat (El.int.row.cat El.int.row)))) Tryz.underlying190 (by kernel_rfl) (OpensF.more zip rfl (OpensF.more zee rfl (OpensF.more ze2 rfl (OpensF.more ze2 rfl (OpensF.last ze2 rfl)))))).via (fun x=>⟨⟨x.1,x.2.1,x.2.2.1,x.2.2.2.1,x.2.2.2.2⟩,rfl⟩)
theorem zo8:Opens TuE.row 60:=Opens.row zsj Tryz.underlying60 (by kernel_rfl) (by decide) (of_decide_eq_true (by kernel_rfl))
theorem zec:Opens (El.int.cat El.int) 62:=Opens.struct Tryz.underlying62 (by kernel_rfl) (OpensF.more zba rfl (OpensF.last zba rfl))
theorem zso:Opens GlE 64:=by
 refine⟨by kernel_rfl,fun H enc W held fuel cs x hf hz=>?_⟩
 have h:=(Opens.struct (E:=(PnE.row.row.cat PaE.row).cat (TuE.row.cat ((El.int.cat El.int).cat El.bool))) Tryz.underlying64 (by kernel_rfl) (OpensF.more zhf rfl (OpensF.more zo8 rfl (OpensF.more zec rfl (OpensF.last zee rfl))))).2 H enc W held fuel cs x hf hz
 obtain⟨⟨⟨l,m⟩,n,⟨y,z⟩,q⟩,us,ts,rfl,⟨us1,ts1,rfl,h1,h2⟩,us2,ts2,rfl,h3,us3,ts3,rfl,⟨us4,ts4,rfl,h4,h5⟩,h6⟩:=h
 refine⟨⟨⟨l,m⟩,n,y,z,q⟩,us1,ts1++(us2++((us4++ts4)++ts3)),by simp only[List.append_assoc],h1,ts1,us2++((us4++ts4)++ts3),rfl,h2,us2,(us4++ts4)++ts3,rfl,h3,us4,ts4++ts3,by simp only[List.append_assoc],h4,ts4,ts3,rfl,h5,h6⟩
theorem zpi:Opens GlE.row 28:=Opens.row zso Tryz.underlying28 (by kernel_rfl) (by decide) (of_decide_eq_true (by kernel_rfl))
theorem zm2:Opens TeE.row.row 24:=Opens.row zip Tryz.underlying24 (by kernel_rfl) Nat.one_pos (of_decide_eq_true (by kernel_rfl))
theorem zph:Opens El.int.row.row 25:=Opens.row ze2 Tryz.underlying25 (by kernel_rfl) Nat.one_pos (of_decide_eq_true (by kernel_rfl))
theorem zjt:Opens (TeE.row.row.cat El.int.row.row) 27:=Opens.struct Tryz.underlying27 (by kernel_rfl) (OpensF.more zm2 rfl (OpensF.last zph rfl))
theorem Gr.tzz{S:Nat->Prop}{w:World}{a:Option Addr}{cap:Nat}{m:List (List Te)}(h:Gr TeE.row S w a cap m):Tzz w a cap m:=by
 refine⟨h.1,h.2.1,fun i hi=>?_⟩
 obtain⟨b,off,a',cap',h1,h2,h3,h4,-⟩:=h.rw (Below.refl _ _) i hi
 exact⟨b,off,a',cap',h1,h2,h3,h4.tz⟩
theorem Gr.rii{S:Nat->Prop}{w:World}{a:Option Addr}{cap:Nat}{m:List (List Int)}(h:Gr El.int.row S w a cap m):Rii w a cap m:=by
 refine⟨h.1,h.2.1,fun i hi=>?_⟩
 obtain⟨b,off,a',cap',h1,h2,h3,h4,-⟩:=h.rw (Below.refl _ _) i hi
 exact⟨b,off,a',cap',h1,h2,h3,h4.ri⟩
theorem zed:Opens El.int 3:=Opens.int Tryz.underlying3 (by kernel_rfl)
theorem zsl:Opens RnE 72 :=
 (Opens.struct (E:=El.int.cat (El.int.cat El.int)) Tryz.underlying72 (by kernel_rfl) (OpensF.more zed rfl (OpensF.more zed rfl (OpensF.last zed rfl)))).via (fun x=>⟨⟨x.1,x.2.1,x.2.2⟩,rfl⟩)
theorem zpc:Opens RnE.row 31:=Opens.row zsl Tryz.underlying31 (by kernel_rfl) (by decide) (of_decide_eq_true (by kernel_rfl))
theorem za2:Opens El.int 3:=Opens.int Tryz.underlying3 (by kernel_rfl)
theorem zfl:Opens El.int.row 37:=Opens.row za2 Tryz.underlying37 (by kernel_rfl) Nat.one_pos (of_decide_eq_true (by kernel_rfl))
theorem zch:Opens El.str 9:=Opens.str Tryz.underlying9 (by kernel_rfl)
theorem zpa:Opens El.str.row 38:=Opens.row zch Tryz.underlying38 (by kernel_rfl) Nat.one_pos (of_decide_eq_true (by kernel_rfl))
theorem zpk:Opens CnE 183 :=
 (Opens.struct (E:=El.int.cat (El.int.cat El.int)) Tryz.underlying183 (by kernel_rfl) (OpensF.more za2 rfl (OpensF.more za2 rfl (OpensF.last za2 rfl)))).via (fun x=>⟨⟨x.1,x.2.1,x.2.2⟩,rfl⟩)
theorem zm9:Opens CnE.row 142:=Opens.row zpk Tryz.underlying142 (by kernel_rfl) (by decide) (of_decide_eq_true (by kernel_rfl))
theorem zpj:Opens FtE 100 :=
 (Opens.struct (E:=El.str.cat El.int.row) Tryz.underlying100 (by kernel_rfl) (OpensF.more zch rfl (OpensF.last zfl rfl))).via (fun x=>⟨⟨x.1,x.2⟩,rfl⟩)
theorem zm8:Opens FtE.row 33:=Opens.row zpj Tryz.underlying33 (by kernel_rfl) (by decide) (of_decide_eq_true (by kernel_rfl))
theorem zo9:Opens SwE 144 :=
 (Opens.struct (E:=CnE.row.cat (El.int.cat El.int.row)) Tryz.underlying144 (by kernel_rfl) (OpensF.more zm9 rfl (OpensF.more za2 rfl (OpensF.last zfl rfl)))).via (fun x=>⟨⟨x.1,x.2.1,x.2.2⟩,rfl⟩)
theorem zm3:Opens SwE.row 34:=Opens.row zo9 Tryz.underlying34 (by kernel_rfl) (by decide) (of_decide_eq_true (by kernel_rfl))
def AxH:El (ByteArray×Int×Int×Int):=El.str.cat (El.int.cat (El.int.cat El.int))
def MtH:El (ByteArray×Int×Int):=El.str.cat (El.int.cat El.int)
def SpH:El (Int×List (Int×Int)):=El.int.cat (El.int.cat El.int).row
theorem zpl:Opens AxH 298:=Opens.struct Tryz.underlying298 (by kernel_rfl) (OpensF.more zch rfl (OpensF.more za2 rfl (OpensF.more za2 rfl (OpensF.last za2 rfl))))
theorem zna:Opens AxH.row 22:=Opens.row zpl Tryz.underlying22 (by kernel_rfl) (by decide) (of_decide_eq_true (by kernel_rfl))
theorem zpd:Opens PrH 305:=Opens.struct Tryz.underlying305 (by kernel_rfl) (OpensF.more za2 rfl (OpensF.last za2 rfl))
theorem zm5:Opens PrH.row 108:=Opens.row zpd Tryz.underlying108 (by kernel_rfl) (by decide) (of_decide_eq_true (by kernel_rfl))
theorem zjw:Opens PrH.row.row 23:=Opens.row zm5 Tryz.underlying23 (by kernel_rfl) Nat.one_pos (of_decide_eq_true (by kernel_rfl))
theorem zpg:Opens MtH 300:=Opens.struct Tryz.underlying300 (by kernel_rfl) (OpensF.more zch rfl (OpensF.last zec rfl))
theorem zm7:Opens MtH.row 29:=Opens.row zpg Tryz.underlying29 (by kernel_rfl) (by decide) (of_decide_eq_true (by kernel_rfl))
theorem ziq:Opens (El.int.cat El.int).row 309:=Opens.row zec Tryz.underlying309 (by kernel_rfl) (by decide) (of_decide_eq_true (by kernel_rfl))
theorem zpb:Opens SpH 311:=Opens.struct Tryz.underlying311 (by kernel_rfl) (OpensF.more za2 rfl (OpensF.last ziq rfl))
theorem zm4:Opens SpH.row 301:=Opens.row zpb Tryz.underlying301 (by kernel_rfl) (by decide) (of_decide_eq_true (by kernel_rfl))
theorem zju:Opens SpH.row.row 30:=Opens.row zm4 Tryz.underlying30 (by kernel_rfl) Nat.one_pos (of_decide_eq_true (by kernel_rfl))
theorem opens_fontH:Opens (AxH.row.cat (PrH.row.row.cat ((TeE.row.row.cat El.int.row.row).cat (GlE.row.cat (MtH.row.cat (SpH.row.row.cat (RnE.row.cat (LkE.row.cat (FtE.row.cat SwE.row))))))))) 36 :=
 Opens.struct Tryz.underlying36 (by kernel_rfl) (OpensF.more zna rfl (OpensF.more zjw rfl (OpensF.more zjt rfl (OpensF.more zpi rfl (OpensF.more zm7 rfl (OpensF.more zju rfl (OpensF.more zpc rfl (OpensF.more zis rfl (OpensF.more zm8 rfl (OpensF.last zm3 rfl))))))))))
theorem opens_askedH:Opens (El.int.row.cat (El.str.cat El.str.row)) 40 :=
 Opens.struct Tryz.underlying40 (by kernel_rfl) (OpensF.more zfl rfl (OpensF.more zch rfl (OpensF.last zpa rfl)))
theorem Gr.lensH{α:Type}{E:El α}{S:Nat->Prop}{w:World}{a:Option Addr}{cap:Nat}{m:List (List α)}(h:Gr E.row S w a cap m):∀l∈m,l.length<=140737488351232:=by
 intro l hl
 obtain⟨i,hi,e⟩:=List.getElem_of_mem hl
 obtain⟨b,off,a',cap',_,_,_,_,h5,_⟩:=h.rw (Below.refl _ _) i hi
 rw[getL' hi,e]at h5
 exact h5
theorem znb{H:Type}{enc:TypeId×Value->H}{W:World}{held:Bool}{r:Reach}{b0:Nat}{v:Value}{d:DataW H}{p:List MemPlace}
    (hv:Value.okWide Tryz.prog W r b0 36 v) (hd:DataW.Trod enc Tryz.prog W 0 (fun _=>true) held 36 v d p) (hz:∀n∈d.weights Tryz.prog 36,n<=reachBytes) :
    ∃(q:FoD) (x:Fo) (bd:List (List (Int×Int))),v=fV q x/\FoR (fun k=>k<W.heap.size) W q x/\FoX (fun k=>k<W.heap.size) W q x bd:=by
 obtain⟨xs,⟨ax,bd,⟨rg,rw⟩,gl,mt,dw,rn,lk,ft,sw⟩,rfl,us,ts,e,⟨a0,c0,h0,_,g0,_⟩,us1,ts1,e1,⟨a1,c1,h1,_,g1,_⟩,us2,ts2,e2,⟨us3,ts3,e3,⟨a2,c2,h2,_,g2,_⟩,a3,c3,h3,_,g3,_⟩,us4,ts4,e4,⟨a4,c4,h4,_,g4,_⟩,us5,ts5,e5,⟨a5,c5,h5,_,g5,_⟩,us6,ts6,e6,⟨a6,c6,h6,_,g6,_⟩,us7,ts7,e7,⟨a7,c7,h7,_,g7,_⟩,us8,ts8,e8,⟨a8,c8,h8,_,g8,_⟩,us9,ts9,e9,⟨a9,c9,h9,_,g9,l9⟩,aA,cA,hA,_,gA,lA⟩:=opens_fontH.agg Tryz.underlying36 hv hd hz
 subst h0 h1 h2 h3 h4 h5 h6 h7 h8 h9 hA
 refine⟨⟨a0,ax.length,c0,a1,bd.length,c1,a2,c2,a3,c3,a4,c4,a5,mt.length,c5,a6,dw.length,c6,a7,c7,a8,c8,a9,c9,aA,cA⟩,⟨gl,⟨rg,rw⟩,rn,lk,ft,sw⟩,bd,?_,⟨g2.tzz,g3.rii,g4,g7,g8,g9,gA⟩,⟨rfl,g1,g0.lenB,g5.lenB,l9,lA,g2.lensH,g3.lensH⟩⟩
 congr 1
 apply Array.ext'
 rw[e,e1,e2,e3,e4,e5,e6,e7,e8,e9]
 rfl
theorem zjz{H:Type}{enc:TypeId×Value->H}{W:World}{held:Bool}{r:Reach}{b0:Nat}{v:Value}{d:DataW H}{p:List MemPlace}
    (hv:Value.okWide Tryz.prog W r b0 40 v) (hd:DataW.Trod enc Tryz.prog W 0 (fun _=>true) held 40 v d p) (hz:∀n∈d.weights Tryz.prog 40,n<=reachBytes) :
    ∃a ca,∃cs:List Int,∃t:ByteArray,∃b cb,∃on:List ByteArray,v=.agg #[.slice a cs.length ca,.string t,.slice b on.length cb]/\Gr El.int (fun k=>k<W.heap.size) W a ca cs/\El.str.rep (fun k=>k<W.heap.size) W [.string t] t/\Gr El.str (fun k=>k<W.heap.size) W b cb on:=by
 obtain⟨xs,⟨cs,t,on⟩,rfl,us,ts,e,⟨a,ca,h1,_,h2,_⟩,us2,ts2,e2,h3,b,cb,h5,_,h6,_⟩:=opens_askedH.agg Tryz.underlying40 hv hd hz
 have r3:=h3
 obtain⟨h4,_⟩:=h3;subst h1 h4 h5
 refine⟨a,ca,cs,t,b,cb,on,?_,h2,r3,h6⟩
 congr 1
 apply Array.ext'
 rw[e,e2]
 rfl
