import Derived.Test.YtgbhidcokobmmaaGreatDoorZG26
set_option maxHeartbeats 4000000
set_option maxRecDepth 100000
set_option linter.unusedSimpArgs false
set_option linter.unusedVariables false
namespace Go.Proofs.YtgbhidcokobmmaaGreatDoor
open Go.RowKit
open Go.ChangeShapes Go.WideShapes Go.Joins Go.Deep
def El.i16:El Int:=El.num .i16 (-32768) 32767
theorem zd7:Opens El.int.row 37:=Opens.row zat Tryz.underlying37 (by kernel_rfl) Nat.one_pos (of_decide_eq_true (by kernel_rfl))
theorem zot:Opens TeE 220 :=
 (Opens.struct (E:=El.int.cat (El.int.cat El.int)) Tryz.underlying220 (by kernel_rfl) (OpensF.more zat rfl (OpensF.more zat rfl (OpensF.last zat rfl)))).via (fun x=>⟨⟨x.1,x.2.1,x.2.2⟩,rfl⟩)
theorem zgh:Opens TeE.row 112:=Opens.row zot Tryz.underlying112 (by kernel_rfl) (by decide) (of_decide_eq_true (by kernel_rfl))
theorem zos:Opens TuE 190 :=
 (Opens.struct (E:=TeE.row.cat (El.bool.cat (El.int.row.cat (El.int.row.cat El.int.row)))) Tryz.underlying190 (by kernel_rfl) (OpensF.more zgh rfl (OpensF.more zdk rfl (OpensF.more zd7 rfl (OpensF.more zd7 rfl (OpensF.last zd7 rfl)))))).via (fun x=>⟨⟨x.1,x.2.1,x.2.2.1,x.2.2.2.1,x.2.2.2.2⟩,rfl⟩)
theorem zlm:Opens TuE.row 60:=Opens.row zos Tryz.underlying60 (by kernel_rfl) (by decide) (of_decide_eq_true (by kernel_rfl))
theorem zdi:Opens (El.int.cat El.int) 62:=Opens.struct Tryz.underlying62 (by kernel_rfl) (OpensF.more zat rfl (OpensF.last zat rfl))
theorem zox:Opens GlE 64:=by
 refine⟨by kernel_rfl,fun H enc W held fuel cs x hf hz=>?_⟩
 have h:=(Opens.struct (E:=(PnE.row.row.cat PaE.row).cat (TuE.row.cat ((El.int.cat El.int).cat El.bool))) Tryz.underlying64 (by kernel_rfl) (OpensF.more zfr rfl (OpensF.more zlm rfl (OpensF.more zdi rfl (OpensF.last zdk rfl))))).2 H enc W held fuel cs x hf hz
 obtain⟨⟨⟨l,m⟩,n,⟨y,z⟩,q⟩,us,ts,rfl,⟨us1,ts1,rfl,h1,h2⟩,us2,ts2,rfl,h3,us3,ts3,rfl,⟨us4,ts4,rfl,h4,h5⟩,h6⟩:=h
 refine⟨⟨⟨l,m⟩,n,y,z,q⟩,us1,ts1++(us2++((us4++ts4)++ts3)),by simp only[List.append_assoc],h1,ts1,us2++((us4++ts4)++ts3),rfl,h2,us2,(us4++ts4)++ts3,rfl,h3,us4,ts4++ts3,by simp only[List.append_assoc],h4,ts4,ts3,rfl,h5,h6⟩
theorem zlw:Opens GlE.row 28:=Opens.row zox Tryz.underlying28 (by kernel_rfl) (by decide) (of_decide_eq_true (by kernel_rfl))
theorem zji:Opens TeE.row.row 24:=Opens.row zgh Tryz.underlying24 (by kernel_rfl) Nat.one_pos (of_decide_eq_true (by kernel_rfl))
theorem zlv:Opens El.int.row.row 25:=Opens.row zd7 Tryz.underlying25 (by kernel_rfl) Nat.one_pos (of_decide_eq_true (by kernel_rfl))
theorem zhd:Opens (TeE.row.row.cat El.int.row.row) 27:=Opens.struct Tryz.underlying27 (by kernel_rfl) (OpensF.more zji rfl (OpensF.last zlv rfl))
theorem Gr.tzz{S:Nat->Prop}{w:World}{a:Option Addr}{cap:Nat}{m:List (List Te)}(h:Gr TeE.row S w a cap m):Tzz w a cap m:=by
 refine⟨h.1,h.2.1,fun i hi=>?_⟩
 obtain⟨b,off,a',cap',h1,h2,h3,h4,-⟩:=h.rw (Below.refl _ _) i hi
 exact⟨b,off,a',cap',h1,h2,h3,h4.tz⟩
theorem Gr.rii{S:Nat->Prop}{w:World}{a:Option Addr}{cap:Nat}{m:List (List Int)}(h:Gr El.int.row S w a cap m):Rii w a cap m:=by
 refine⟨h.1,h.2.1,fun i hi=>?_⟩
 obtain⟨b,off,a',cap',h1,h2,h3,h4,-⟩:=h.rw (Below.refl _ _) i hi
 exact⟨b,off,a',cap',h1,h2,h3,h4.ri⟩
theorem zdj:Opens El.int 3:=Opens.int Tryz.underlying3 (by kernel_rfl)
theorem zou:Opens RnE 72 :=
 (Opens.struct (E:=El.int.cat (El.int.cat El.int)) Tryz.underlying72 (by kernel_rfl) (OpensF.more zdj rfl (OpensF.more zdj rfl (OpensF.last zdj rfl)))).via (fun x=>⟨⟨x.1,x.2.1,x.2.2⟩,rfl⟩)
theorem zlq:Opens RnE.row 31:=Opens.row zou Tryz.underlying31 (by kernel_rfl) (by decide) (of_decide_eq_true (by kernel_rfl))
theorem zaq:Opens El.int 3:=Opens.int Tryz.underlying3 (by kernel_rfl)
theorem zc4:Opens El.int.row 37:=Opens.row zaq Tryz.underlying37 (by kernel_rfl) Nat.one_pos (of_decide_eq_true (by kernel_rfl))
theorem zbq:Opens El.str 9:=Opens.str Tryz.underlying9 (by kernel_rfl)
theorem zlo:Opens El.str.row 38:=Opens.row zbq Tryz.underlying38 (by kernel_rfl) Nat.one_pos (of_decide_eq_true (by kernel_rfl))
theorem zly:Opens CnE 183 :=
 (Opens.struct (E:=El.int.cat (El.int.cat El.int)) Tryz.underlying183 (by kernel_rfl) (OpensF.more zaq rfl (OpensF.more zaq rfl (OpensF.last zaq rfl)))).via (fun x=>⟨⟨x.1,x.2.1,x.2.2⟩,rfl⟩)
theorem zjp:Opens CnE.row 142:=Opens.row zly Tryz.underlying142 (by kernel_rfl) (by decide) (of_decide_eq_true (by kernel_rfl))
theorem zlx:Opens FtE 100 :=
 (Opens.struct (E:=El.str.cat El.int.row) Tryz.underlying100 (by kernel_rfl) (OpensF.more zbq rfl (OpensF.last zc4 rfl))).via (fun x=>⟨⟨x.1,x.2⟩,rfl⟩)
theorem zjo:Opens FtE.row 33:=Opens.row zlx Tryz.underlying33 (by kernel_rfl) (by decide) (of_decide_eq_true (by kernel_rfl))
theorem zln:Opens SwE 144 :=
 (Opens.struct (E:=CnE.row.cat (El.int.cat El.int.row)) Tryz.underlying144 (by kernel_rfl) (OpensF.more zjp rfl (OpensF.more zaq rfl (OpensF.last zc4 rfl)))).via (fun x=>⟨⟨x.1,x.2.1,x.2.2⟩,rfl⟩)
theorem zjj:Opens SwE.row 34:=Opens.row zln Tryz.underlying34 (by kernel_rfl) (by decide) (of_decide_eq_true (by kernel_rfl))
theorem zl0{α:Type}{E:El α}{t:TypeId}(ho:Opens E.row t){H:Type}{enc:TypeId×Value->H}{W:World}{held:Bool}{a:Option Addr}{len cap:Nat}{d:DataW H}{p:List MemPlace}
    (hd:DataW.Trod enc Tryz.prog W 0 (fun _=>true) held t (.slice a len cap) d p) (hz:∀n∈d.weights Tryz.prog t,n<=reachBytes):∃l:List α,len=l.length/\Gr E (fun k=>k<W.heap.size) W a cap l:=by
 obtain⟨l,a',cap',e,_,hg,_⟩:=ho.cell hd hz rfl
 simp at e
 obtain⟨rfl,rfl,rfl⟩:=e
 exact⟨l,rfl,hg⟩
def AxH:El (ByteArray×Int×Int×Int):=El.str.cat (El.int.cat (El.int.cat El.int))
def MtH:El (ByteArray×Int×Int):=El.str.cat (El.int.cat El.int)
def SpH:El (Int×List (Int×Int)):=El.int.cat (El.int.cat El.int).row
theorem zlz:Opens AxH 298:=Opens.struct Tryz.underlying298 (by kernel_rfl) (OpensF.more zbq rfl (OpensF.more zaq rfl (OpensF.more zaq rfl (OpensF.last zaq rfl))))
theorem zjq:Opens AxH.row 22:=Opens.row zlz Tryz.underlying22 (by kernel_rfl) (by decide) (of_decide_eq_true (by kernel_rfl))
theorem zlr:Opens PrH 305:=Opens.struct Tryz.underlying305 (by kernel_rfl) (OpensF.more zaq rfl (OpensF.last zaq rfl))
theorem zjl:Opens PrH.row 108:=Opens.row zlr Tryz.underlying108 (by kernel_rfl) (by decide) (of_decide_eq_true (by kernel_rfl))
theorem zhg:Opens PrH.row.row 23:=Opens.row zjl Tryz.underlying23 (by kernel_rfl) Nat.one_pos (of_decide_eq_true (by kernel_rfl))
theorem zlu:Opens MtH 300:=Opens.struct Tryz.underlying300 (by kernel_rfl) (OpensF.more zbq rfl (OpensF.last zdi rfl))
theorem zjn:Opens MtH.row 29:=Opens.row zlu Tryz.underlying29 (by kernel_rfl) (by decide) (of_decide_eq_true (by kernel_rfl))
theorem zgi:Opens (El.int.cat El.int).row 309:=Opens.row zdi Tryz.underlying309 (by kernel_rfl) (by decide) (of_decide_eq_true (by kernel_rfl))
theorem zlp:Opens SpH 311:=Opens.struct Tryz.underlying311 (by kernel_rfl) (OpensF.more zaq rfl (OpensF.last zgi rfl))
theorem zjk:Opens SpH.row 301:=Opens.row zlp Tryz.underlying301 (by kernel_rfl) (by decide) (of_decide_eq_true (by kernel_rfl))
theorem zhe:Opens SpH.row.row 30:=Opens.row zjk Tryz.underlying30 (by kernel_rfl) Nat.one_pos (of_decide_eq_true (by kernel_rfl))
theorem opens_fontH:Opens (AxH.row.cat (PrH.row.row.cat ((TeE.row.row.cat El.int.row.row).cat (GlE.row.cat (MtH.row.cat (SpH.row.row.cat (RnE.row.cat (LkE.row.cat (FtE.row.cat SwE.row))))))))) 36 :=
 Opens.struct Tryz.underlying36 (by kernel_rfl) (OpensF.more zjq rfl (OpensF.more zhg rfl (OpensF.more zhd rfl (OpensF.more zlw rfl (OpensF.more zjn rfl (OpensF.more zhe rfl (OpensF.more zlq rfl (OpensF.more zgk rfl (OpensF.more zjo rfl (OpensF.last zjj rfl))))))))))
theorem opens_askedH:Opens (El.int.row.cat (El.str.cat El.str.row)) 40 :=
 Opens.struct Tryz.underlying40 (by kernel_rfl) (OpensF.more zc4 rfl (OpensF.more zbq rfl (OpensF.last zlo rfl)))
theorem Gr.lensH{α:Type}{E:El α}{S:Nat->Prop}{w:World}{a:Option Addr}{cap:Nat}{m:List (List α)}(h:Gr E.row S w a cap m):∀l∈m,l.length<=140737488351232:=by
 intro l hl
 obtain⟨i,hi,e⟩:=List.getElem_of_mem hl
 obtain⟨b,off,a',cap',_,_,_,_,h5,_⟩:=h.rw (Below.refl _ _) i hi
 rw[getL' hi,e]at h5
 exact h5
theorem zdl{H:Type}{enc:TypeId×Value->H}{W:World}{held:Bool}{r:Reach}{b0:Nat}{v:Value}{d:DataW H}{p:List MemPlace}
    (hv:Value.okWide Tryz.prog W r b0 36 v) (hd:DataW.Trod enc Tryz.prog W 0 (fun _=>true) held 36 v d p) (hz:∀n∈d.weights Tryz.prog 36,n<=reachBytes) :
    ∃(q:FoD) (x:Fo) (bd:List (List (Int×Int))),v=fV q x/\FoR (fun k=>k<W.heap.size) W q x/\FoX (fun k=>k<W.heap.size) W q x bd:=by
 obtain⟨xs,⟨ax,bd,⟨rg,rw⟩,gl,mt,dw,rn,lk,ft,sw⟩,rfl,us,ts,e,⟨a0,c0,h0,_,g0,_⟩,us1,ts1,e1,⟨a1,c1,h1,_,g1,_⟩,us2,ts2,e2,⟨us3,ts3,e3,⟨a2,c2,h2,_,g2,_⟩,a3,c3,h3,_,g3,_⟩,us4,ts4,e4,⟨a4,c4,h4,_,g4,_⟩,us5,ts5,e5,⟨a5,c5,h5,_,g5,_⟩,us6,ts6,e6,⟨a6,c6,h6,_,g6,_⟩,us7,ts7,e7,⟨a7,c7,h7,_,g7,_⟩,us8,ts8,e8,⟨a8,c8,h8,_,g8,_⟩,us9,ts9,e9,⟨a9,c9,h9,_,g9,l9⟩,aA,cA,hA,_,gA,lA⟩:=opens_fontH.agg Tryz.underlying36 hv hd hz
 subst h0 h1 h2 h3 h4 h5 h6 h7 h8 h9 hA
 refine⟨⟨a0,ax.length,c0,a1,bd.length,c1,a2,c2,a3,c3,a4,c4,a5,mt.length,c5,a6,dw.length,c6,a7,c7,a8,c8,a9,c9,aA,cA⟩,⟨gl,⟨rg,rw⟩,rn,lk,ft,sw⟩,bd,?_,⟨g2.tzz,g3.rii,g4,g7,g8,g9,gA⟩,⟨rfl,g1,g0.lenB,g5.lenB,l9,lA,g2.lensH,g3.lensH⟩⟩
 congr 1
 apply Array.ext'
 rw[e,e1,e2,e3,e4,e5,e6,e7,e8,e9]
 rfl
theorem zcp{H:Type}{enc:TypeId×Value->H}{W:World}{held:Bool}{r:Reach}{b0:Nat}{v:Value}{d:DataW H}{p:List MemPlace}
    (hv:Value.okWide Tryz.prog W r b0 40 v) (hd:DataW.Trod enc Tryz.prog W 0 (fun _=>true) held 40 v d p) (hz:∀n∈d.weights Tryz.prog 40,n<=reachBytes) :
    ∃a ca,∃cs:List Int,∃t:ByteArray,∃b cb,∃on:List ByteArray,v=.agg #[.slice a cs.length ca,.string t,.slice b on.length cb]/\Gr El.int (fun k=>k<W.heap.size) W a ca cs/\El.str.rep (fun k=>k<W.heap.size) W [.string t] t/\Gr El.str (fun k=>k<W.heap.size) W b cb on:=by
 obtain⟨xs,⟨cs,t,on⟩,rfl,us,ts,e,⟨a,ca,h1,_,h2,_⟩,us2,ts2,e2,h3,b,cb,h5,_,h6,_⟩:=opens_askedH.agg Tryz.underlying40 hv hd hz
 have r3:=h3
 obtain⟨h4,_⟩:=h3;subst h1 h4 h5
 refine⟨a,ca,cs,t,b,cb,on,?_,h2,r3,h6⟩
 congr 1
 apply Array.ext'
 rw[e,e2]
 rfl
open Go.Maps
theorem zjf(S:Nat->Prop)(a:Option Addr)(ca:Nat)(l:List Rn)(c:Int)(w:World)(hl:Gr RnE S w a ca l)(hc:I64 c)(hno:NoR l c) :
 Calls Tryz.prog 43 #[.slice a l.length ca,.int .i64 c] w fun e w'=>e=.returned (.int .i64 (glR c l))/\Below w.heap.size w w':=by
 have kl:=hl.lenB
 obtain⟨ca1,ca2⟩:=hc
 have HL:Hid (Gr RnE S w a ca l):=hl
 have HW:Hid (NoR l c):=hno
 clear hl hno
 go_enter Tryz.func43,Tryz.ntmps43
 go_wp2
 go_loopw [5] (fun i wr=>∃k:Nat,k<=l.length/\i=.int .i64 k/\Hid (∀j,j<k->inR (l.getD j Rn.none) c=false)/\Below w.heap.size w wr) (fun i _=>l.length-(intOf i).toNat)
 case atStart=>exact⟨0,Nat.zero_le _,rfl,(fun j hj=>by omega),Below.refl _ _⟩
 case round =>
  obtain⟨k,hk,rfl,HNO,hB⟩:=hrel
  by_cases hkn:k<l.length
  . obtain⟨b,off,rfl,hb,hW,d0,d1,d2⟩:=HL.out.rn hB k hkn
    have HFA:Hid (_):=zqm hkn HNO.out
    have HWK:Hid (_):=HW.out k hkn
    have HN2:Hid (inR (l.getD k Rn.none) c=false->∀j,j<k+1->inR (l.getD j Rn.none) c=false):=fun hn j hj=>by
     rcases Nat.lt_or_ge j k with h1|h1
     . exact HNO.out j h1
     . rw[show j=k by omega];exact hn
    have i1:(0:Int)<=(k:Int):=by omega
    have i2:(k:Int)<(l.length:Int):=by omega
    generalize l.getD k Rn.none=x at *
    obtain⟨x1,x2,x3⟩:=x;obtain⟨⟨m1,m2⟩,⟨m3,m4⟩,⟨m5,m6⟩⟩:=hW
    dsimp only at *
    by_cases f1:x1<=c
    rotate_left
    . have e1:decide (x1<=c)=false:=decide_eq_false f1
      have HNN:Hid (_):=HN2.out (by unfold inR;exact decide_eq_false (fun h=>f1 h.1))
      clear HNO HN2 HFA HWK;go_wp2
      go_roundw
      case rel=>exact⟨k+1,by omega,by go_num,HNN,hB⟩
      case measure=>simp[intOf];omega
    have e1:decide (x1<=c)=true:=decide_eq_true f1
    by_cases f2:c<=x2
    rotate_left
    . have e2:decide (c<=x2)=false:=decide_eq_false f2
      have HNN:Hid (_):=HN2.out (by unfold inR;exact decide_eq_false (fun h=>f2 h.2))
      clear HNO HN2 HFA HWK;go_wp2
      go_roundw
      case rel=>exact⟨k+1,by omega,by go_num,HNN,hB⟩
      case measure=>simp[intOf];omega
    have e2:decide (c<=x2)=true:=decide_eq_true f2
    have hin:inR ⟨x1,x2,x3⟩ c=true:=by unfold inR;exact decide_eq_true ⟨f1,f2⟩
    obtain⟨⟨u1,u2⟩,⟨u3,u4⟩⟩:=HWK.out hin
    have s1:IntKind.i64.wrap (c-x1)=c-x1:=zh9 u1 u2
    have s2:IntKind.i64.wrap (x3+(c-x1))=x3+(c-x1):=zh9 u3 u4
    have HF:Hid (glR c l=x3+(c-x1)):=HFA.out hin
    clear HNO HN2 HFA HWK hin
    go_wp2_with fail
    go_quiet (fail)
    go_wp2
    go_ret
    exact⟨zbn HF.out.symm,below_drewN hB _⟩
  . have HF:Hid (glR c l=0):=zql (fun j hj=>HNO.out j (by omega))
    have g4:¬(k:Int)<(l.length:Int):=by omega
    clear HNO;go_wp2
    go_ret
    exact⟨zbn HF.out.symm,hB⟩
theorem zk1(s:ByteArray)(w:World)(hs:s.size<=100000) :
 ∃(c:Nat) (U:World),(convert 9 69 (.string s)).run Tryz.prog w=.ok (.slice (some ⟨w.heap.size,0,none⟩) (rns (sb s)).length c) U/\(∀i,i<(rns (sb s)).length->U.cell? ⟨w.heap.size,i,none⟩=some (.int .i32 ((rns (sb s)).getD i 0:Nat)))/\Below w.heap.size w U/\w.heap.size<U.heap.size:=by
 have e:=zog s s.size 0 #[] (by omega)
 rw[List.drop_zero]at e
 have e2:(Conv.runesFrom s s.size 0 #[]).toList=(rns (sb s)).map (fun r:Nat=>Value.int .i32 (r:Int)):=by rw[e];rfl
 have hsz:(Conv.runesFrom s s.size 0 #[]).size=(rns (sb s)).length:=by
  rw[<-Array.length_toList,e2,List.length_map]
 have hle:(rns (sb s)).length<=100000:=by
  have:=zg9 (sb s).length (sb s)
  rw[show ryL (sb s).length (sb s)=rns (sb s)from rfl,zbg]at this
  omega
 have hr:=run_runes_of_string (P:=Tryz.prog) w 9 69 21 s Tryz.underlying9 Tryz.underlying69 Tryz.underlying21 (by omega)
 rw[hsz]at hr
 refine⟨_,_,hr,fun i hi=>?_,((Below.refl w.heap.size w).drew).alloc (Nat.le_refl _) _,by simp⟩
 have hN:=heap_alloc_new w.drew (.cells (Conv.runesFrom s s.size 0 #[]++Array.replicate (grownCap w (rns (sb s)).length 0 21-(rns (sb s)).length) (.int .i32 0)) 21)
 have hc:=cell_of_row _ w.drew.heap.size i _ _ (0,0) hN
 refine Eq.trans hc ?_
 rw[Array.getElem?_append_left (by omega),<-Array.getElem?_toList,e2,List.getElem?_map,List.getElem?_eq_getElem hi,List.getD_eq_getElem?_getD,List.getElem?_eq_getElem hi]
 rfl
def mpK(l:List Rn)(rs:List Nat):List Int:=rs.map (fun r:Nat=>glR (r:Int) l)
theorem zrp(l:List Rn)(rs:List Nat)(k:Nat)(h:k<=rs.length):(mpK l (rs.take k)).length=k:=by
 unfold mpK
 rw[List.length_map,List.length_take]
 omega
theorem zo1{l:List Rn}{rs:List Nat}{k:Nat}(h:k<rs.length):mpK l (rs.take (k+1))=mpK l (rs.take k)++[glR (rs.getD k 0:Nat) l]:=by
 unfold mpK
 rw[List.take_add_one,List.getElem?_eq_getElem h,List.map_append]
 simp[List.getD,h]
theorem zoc(S:Nat->Prop)(a:Option Addr)(ca:Nat)(l:List Rn)(s:ByteArray)(w:World)(hl:Gr RnE S w a ca l)(hs:s.size<=100000)(hno:∀c:Int,0<=c->c<=1114111->NoR l c) :
 Calls Tryz.prog 20 #[.slice a l.length ca,.string s] w fun e w'=>∃v,e=.returned v/\Io w.heap.size w' v (mpC l (sb s))/\Below w.heap.size w w':=by
 have kl:=hl.lenB
 obtain⟨c0,U,hcv,zdu,hbU,hgU⟩:=zk1 s w hs
 have HC:Hid (_):=zdu
 have hrl:(rns (sb s)).length<=100000:=by
  have:=zg9 (sb s).length (sb s)
  rw[show ryL (sb s).length (sb s)=rns (sb s)from rfl,zbg]at this
  omega
 have HRB:Hid (∀r∈rns (sb s),r<=1114111):=zui _ _
 have HMP:Hid (mpC l (sb s)=mpK l (rns (sb s))):=rfl
 have HL:Hid (Gr RnE S U a ca l):=hl.below hbU
 have HNO:Hid (∀c:Int,0<=c->c<=1114111->NoR l c):=hno
 have HBU:Hid (Below w.heap.size w U):=hbU
 obtain⟨rs,hrs⟩:∃rs,rns (sb s)=rs:=⟨_,rfl⟩
 rw[hrs]at hcv HC hrl HRB HMP
 obtain⟨g0,hg0⟩:∃g,w.heap.size=g:=⟨_,rfl⟩
 have HG:Hid (w.heap.size=g0):=hg0
 rw[hg0]at hcv HC hgU;clear hl hno zdu hbU hrs hg0
 go_enter Tryz.func20,Tryz.ntmps20
 go_wp2;clear hcv
 go_loopw [5,7] (fun v i wr=>∃(k:Nat),k<=rs.length/\i=.int .i64 k/\Io U.heap.size wr v (mpK l (rs.take k))/\Below U.heap.size U wr) (fun _ i _=>rs.length-(intOf i).toNat)
 case atStart=>exact⟨0,Nat.zero_le _,rfl,Io.nil _ _,Below.refl _ _⟩
 case round =>
  obtain⟨k,hk,rfl,hIo,hB⟩:=hrel;obtain⟨a5,c5,rfl,hri⟩:=hIo.slice
  have hzl:=zrp l rs k hk
  rw[hzl]at hIo ⊢
  by_cases hkn:k<rs.length
  . have d0:=(hB.cell (p:=⟨g0,k,none⟩) hgU).trans (HC.out k hkn)
    have HSC:Hid (_):=zo1 (l:=l) hkn
    have hrb:rs.getD k 0<=1114111:=HRB.out _ (by rw[List.getD_eq_getElem?_getD,List.getElem?_eq_getElem hkn];exact List.getElem_mem hkn)
    obtain⟨z,hz⟩:∃z:Int,((rs.getD k 0:Nat):Int)=z:=⟨_,rfl⟩
    rw[hz]at d0 HSC
    have hz0:0<=z:=by omega
    have hz1:z<=1114111:=by omega
    have HI:Hid (I64 (glR z l)):=zmt (HNO.out z hz0 hz1)
    have hgl:=zjf S a ca l z wr (HL.out.below hB) ⟨by omega,by omega⟩ (HNO.out z hz0 hz1)
    obtain⟨y,hy⟩:∃y,glR z l=y:=⟨_,rfl⟩
    rw[hy]at HI hgl HSC
    have i1:(0:Int)<=(k:Int):=by omega
    have i2:(k:Int)<(rs.length:Int):=by omega
    obtain⟨zs,hzs⟩:∃zs,mpK l (rs.take k)=zs:=⟨_,rfl⟩
    rw[hzs]at hIo HSC hzl
    have hll:zs.length+1<=1000000:=by omega
    clear hz hy hri hrb hzs hzl
    go_wp2_with fail
    refine hgl.mono ?_
    rintro e u2 ⟨rfl,hb⟩
    have hT2:=hIo.below hb
    have hB3:=hB.trans (hb.mono hB.size)
    clear hgl hb hIo d0 hB
    have hT5:=hT2.below (bl1 (.cells #[.int .i64 y] 3))
    have hN:=heap_alloc_new u2 (.cells #[.int .i64 y] 3)
    have n0:=cell_of_row _ u2.heap.size 0 _ _ (0,0) hN
    have hB5:Below U.heap.size U (u2.alloc (.cells #[.int .i64 y] 3)):=hB3.alloc hB3.size _
    clear hN
    go_wp2_with (at_builtin;refine za3 rfl _ _ rfl U.heap.size _ zs rfl hT5 u2.heap.size y rfl n0 HI.out hll hB5.size ?_)
    intro v' w9 hT9 hgrow
    have hB9:Below U.heap.size U w9:=hB5.grown hgrow hB5.size (fun k hk=>hT5.lo hk)
    rw[<-HSC.out]at hT9;clear hgrow hT5 n0 hB5 hB3 hT2;go_wp2
    go_roundw
    case rel=>exact⟨k+1,by omega,by go_num,hT9,hB9⟩
    case measure=>simp[intOf];omega
  . obtain rfl:k=rs.length:=by omega
    have g4:¬(rs.length:Int)<(rs.length:Int):=by omega
    rw[List.take_length]at hIo;clear hri hzl;go_wp2
    go_ret
    exact⟨_,rfl,by rw[HMP.out];exact hIo.mono HBU.out.size,HBU.out.trans (hB.mono HBU.out.size)⟩
