import Derived.Test.YtgbhidcokobmmaaGreatDoorZL20
import Derived.Shelf.SlIterI.Nil
import Derived.Shelf.SortM.Plain
import Derived.Shelf.SortM.SortNone
set_option maxHeartbeats 8000000
set_option maxRecDepth 100000
set_option linter.unusedSimpArgs false
set_option linter.unusedVariables false
namespace Go.Proofs.YtgbhidcokobmmaaGreatDoor
open Go.RowKit Go.Maps
structure RowF(zs:List Int)(base:Nat)(w':World)(e:Ending):Prop where
 out:∃v,e=.returned v/\Gi base w' v zs
theorem Gi.lowF{b b2:Nat}{w:World}{v:Value}{l:List Int}(h:Gi b w v l)(hb:b2<=b):Gi b2 w v l:=by
 obtain⟨vss,hl,⟨k1,k2⟩,h4⟩:=h
 refine⟨vss,hl,⟨k1,?_⟩,h4⟩
 rcases k2 with k2|⟨g,cap,cur,e,hg,r⟩
 . exact .inl k2
 . exact .inr ⟨g,cap,cur,e,Nat.le_trans hb hg,r⟩
theorem Gr.anyF{S S':Nat->Prop}{w:World}{a:Option Addr}{cap:Nat}{l:List Int}(h:Gr El.int S w a cap l):Gr El.int S' w a cap l :=
 ⟨h.1,h.2.1,h.2.2.1,fun i hi=>by
  obtain⟨b,off,vs,e,hb,hr,hc⟩:=h.2.2.2 i hi
  exact⟨b,off,vs,e,hb,El.int_rep.2 (El.int_rep.1 hr),hc⟩⟩
theorem zgn(S:Nat->Prop)(a:Option Addr)(ca:Nat)(L:List Int)(w:World)(h:Gr El.int S w a ca L)(hl:L.length<=1000) :
 Calls Tryz.prog 55 #[.slice a L.length ca] w fun e w'=>RowF L w.heap.size w' e/\Below w.heap.size w w':=by
 cases a with
 | none =>
  have h0:L=[]:=by
   have h1:=h.1
   rw[h.2.2.1 rfl]at h1
   exact List.length_eq_zero_iff.1 (Nat.le_zero.1 h1)
  subst h0;clear h
  have q22:∀(w:World) (a:Option Addr) (n c n' c':Nat),(binOp .eql 37 (.slice a n c) (.slice none n' c')).run Tryz.prog w=.ok (.bool a.isNone) w:=fun w a n c n' c'=>Lib.run_eql_slice_nil w _ _ a n c n' c' Tryz.underlying37
  go_enter Tryz.func55,Tryz.ntmps55
  go_wp2
  go_ret
  exact⟨⟨_,rfl,Gi.nil _ _⟩,Below.refl _ _⟩
 | some ad =>
  have q22:∀(w:World) (a:Option Addr) (n c n' c':Nat),(binOp .eql 37 (.slice a n c) (.slice none n' c')).run Tryz.prog w=.ok (.bool a.isNone) w:=fun w a n c n' c'=>Lib.run_eql_slice_nil w _ _ a n c n' c' Tryz.underlying37
  have hN0:Gi w.heap.size (w.alloc (.cells #[] 3)) (.slice (some ⟨w.heap.size,0,none⟩) 0 0) []:=Gw.made (World.ownsRow_made w #[] 0 (Nat.le_refl _) (Nat.zero_le _) rfl)
  have HL:Hid (Gr El.int (fun k=>False/\(Value.slice (some ⟨w.heap.size,0,none⟩) 0 0).ownBlock≠some k) (w.alloc (.cells #[] 3)) (some ad) ca L):=(h.below (bl1 _)).anyF
  have kl:=h.lenB
  have hll:([]:List Int).length+L.length<=1000000:=by simp;omega
  have hW:=(bl1 (w:=w) (.cells #[] 3)).size
  clear h
  go_enter Tryz.func55,Tryz.ntmps55
  go_wp2_with (at_builtin;refine zab 37 3 Tryz.underlying37 zbn rfl (by decide) (by decide) rfl _ _ rfl w.heap.size (fun _=>False) _ [] rfl hN0 _ _ _ L rfl rfl HL.out hll hW ?_)
  intro v1 w1 hT1 hgrow _
  have hB1:Below w.heap.size w w1:=(bl1 _).grown hgrow hW (fun k hk=>by simp[Value.ownBlock]at hk;omega)
  have HV:Hid (RowF L w.heap.size w1 (.returned v1)):=⟨_,rfl,hT1⟩
  clear hgrow hT1 hll hW hN0;go_wp2
  go_ret
  exact⟨HV.out,hB1⟩
theorem zuo{cs:List Int}{c:Cn}(h:0<=c.ax):hoC cs c=(decide (c.ls<=cs.getD c.ax.toNat 0)&&decide (cs.getD c.ax.toNat 0<=c.ms)):=by unfold hoC;rw[decide_eq_true h];rfl
theorem zqe(S:Nat->Prop)(x:Cn)(a:Option Addr)(ca:Nat)(cs:List Int)(w:World)(hx:CnW x)(hc:Gr El.int S w a ca cs) :
 Calls Tryz.prog 118 #[.agg #[.int .i64 x.ax,.int .i64 x.ls,.int .i64 x.ms],.slice a cs.length ca] w fun e w'=>e=.returned (.bool (hoC cs x))/\Below w.heap.size w w':=by
 have kc:=hc.lenB
 obtain⟨m1,m2,m3⟩:=hx
 obtain⟨W,hW,X1,hbW⟩:∃W,W=w.alloc (.cells #[.int .i64 x.ax,.int .i64 x.ls,.int .i64 x.ms] 183)/\Bk 183 W w.heap.size [.int .i64 x.ax,.int .i64 x.ls,.int .i64 x.ms]/\Below w.heap.size w W:=⟨_,rfl,Bk.new _ _ _,bl1 _⟩
 have HC:Hid (Gr El.int S W a ca cs):=hc.below hbW
 have HB:Hid (Below w.heap.size w W):=hbW
 obtain⟨y0,y1,y2,-⟩:=X1.three
 have HNO:Hid (¬0<=x.ax->hoC cs x=false):=fun h=>by show _=_;unfold hoC;rw[decide_eq_false h];rfl
 have HEQ:Hid (0<=x.ax->hoC cs x=(decide (x.ls<=cs.getD x.ax.toNat 0)&&decide (cs.getD x.ax.toNat 0<=x.ms))):=zuo
 clear hc hbW X1
 by_cases h0:0<=x.ax
 rotate_left
 . have HF:Hid (hoC cs x=false):=HNO.out h0
   have g0:x.ax<0:=by omega
   clear HNO HEQ h0
   go_enter Tryz.func118,Tryz.ntmps118
   go_upto_region 1 with fail
   rw[<-hW];clear hW;go_wp2
   go_ret
   exact⟨zaa HF.out.symm,HB.out⟩
 have HE:Hid (_):=HEQ.out h0
 clear HNO HEQ;obtain⟨x1,x2,x3⟩:=x
 dsimp only at *
 obtain⟨k,rfl⟩:∃k:Nat,x1=(k:Int):=⟨x1.toNat,by omega⟩
 rw[Int.toNat_natCast]at HE
 have g0:¬(k:Int)<0:=by omega
 by_cases hk:k<cs.length
 . obtain⟨b,off,rfl,hb,hI,d0⟩:=HC.out.in1 (Below.refl _ _) k hk
   have g1:(k:Int)<(cs.length:Int):=by omega
   obtain⟨z,hz⟩:∃z,cs.getD k 0=z:=⟨_,rfl⟩
   rw[hz]at d0 HE
   have i1:(0:Int)<=(k:Int):=by omega
   clear hz hI
   by_cases h1:x2<=z
   . by_cases h2:z<=x3
     . rw[decide_eq_true h1,decide_eq_true h2]at HE
       go_enter Tryz.func118,Tryz.ntmps118
       go_upto_region 1 with fail
       rw[<-hW];clear hW;go_wp2
       go_ret
       exact⟨zaa HE.out.symm,HB.out⟩
     . rw[decide_eq_true h1,decide_eq_false h2]at HE
       go_enter Tryz.func118,Tryz.ntmps118
       go_upto_region 1 with fail
       rw[<-hW];clear hW;go_wp2
       go_ret
       exact⟨zaa HE.out.symm,HB.out⟩
   . rw[decide_eq_false h1]at HE
     go_enter Tryz.func118,Tryz.ntmps118
     go_upto_region 1 with fail
     rw[<-hW];clear hW;go_wp2
     go_ret
     exact⟨zaa HE.out.symm,HB.out⟩
 . have g1:¬(k:Int)<(cs.length:Int):=by omega
   have hz:cs.getD k 0=0:=by rw[List.getD_eq_getElem?_getD,List.getElem?_eq_none (by omega)];rfl
   rw[hz]at HE
   by_cases h1:x2<=0
   . by_cases h2:0<=x3
     . rw[decide_eq_true h1,decide_eq_true h2]at HE
       go_enter Tryz.func118,Tryz.ntmps118
       go_upto_region 1 with fail
       rw[<-hW];clear hW;go_wp2
       go_ret
       exact⟨zaa HE.out.symm,HB.out⟩
     . rw[decide_eq_true h1,decide_eq_false h2]at HE
       go_enter Tryz.func118,Tryz.ntmps118
       go_upto_region 1 with fail
       rw[<-hW];clear hW;go_wp2
       go_ret
       exact⟨zaa HE.out.symm,HB.out⟩
   . rw[decide_eq_false h1]at HE
     go_enter Tryz.func118,Tryz.ntmps118
     go_upto_region 1 with fail
     rw[<-hW];clear hW;go_wp2
     go_ret
     exact⟨zaa HE.out.symm,HB.out⟩
theorem znj(S S2:Nat->Prop)(b:Option Addr)(cb:Nat)(l:List Cn)(a:Option Addr)(ca:Nat)(cs:List Int)(w:World)(hl:Gr CnE S w b cb l)(hc:Gr El.int S2 w a ca cs) :
 Calls Tryz.prog 84 #[.slice b l.length cb,.slice a cs.length ca] w fun e w'=>e=.returned (.bool (hoB cs l))/\Below w.heap.size w w':=by
 have kl:=hl.lenB
 have HL:Hid (Gr CnE S w b cb l):=hl
 have HC:Hid (Gr El.int S2 w a ca cs):=hc
 clear hl hc
 go_enter Tryz.func84,Tryz.ntmps84
 go_wp2
 go_loopw [9] (fun i wr=>∃k:Nat,k<=l.length/\i=.int .i64 k/\Hid (∀j,j<k->hoC cs (l.getD j Cn.none)=true)/\Below w.heap.size w wr) (fun i _=>l.length-(intOf i).toNat)
 case atStart=>exact⟨0,Nat.zero_le _,rfl,(fun j hj=>by omega),Below.refl _ _⟩
 case round =>
  obtain⟨k,hk,rfl,HOK,hB⟩:=hrel
  by_cases hkn:k<l.length
  . obtain⟨b1,off,rfl,hb,hW,d0,d1,d2⟩:=HL.out.cn hB k hkn
    have zav:Hid (hoC cs (l.getD k Cn.none)=false->hoB cs l=false):=zup hkn
    have HXX:Hid (∀x,l.getD k Cn.none=x->hoC cs x=true->∀j,j<k+1->hoC cs (l.getD j Cn.none)=true):=fun x e h j hj=>by
     rcases Nat.lt_or_ge j k with h1|h1
     . exact HOK.out j h1
     . rw[show j=k by omega,e];exact h
    obtain⟨x,hx⟩:∃x,l.getD k Cn.none=x:=⟨_,rfl⟩
    have HX2:Hid (_):=HXX.out x hx
    rw[hx]at d0 d1 d2 hW zav;clear hx HXX HOK
    have i1:(0:Int)<=(k:Int):=by omega
    have i2:(k:Int)<(l.length:Int):=by omega
    obtain⟨U,hU,XG,hbU⟩:∃U,U=wr.alloc (.cells #[.int .i64 x.ax,.int .i64 x.ls,.int .i64 x.ms] 183)/\Bk 183 U wr.heap.size [.int .i64 x.ax,.int .i64 x.ls,.int .i64 x.ms]/\Below wr.heap.size wr U:=⟨_,rfl,Bk.new _ _ _,bl1 _⟩
    replace hB:=hB.trans (hbU.mono hB.size)
    have hp:=zqe S2 x a ca cs U hW (HC.out.below hB)
    obtain⟨y0,y1,y2,-⟩:=XG.three;obtain⟨x1,x2,x3⟩:=x
    dsimp only at *
    go_upto_region 4 with fail
    rw[<-hU];clear hU d0 d1 d2 hbU XG
    cases hq:hoC cs ⟨x1,x2,x3⟩ with
    | false =>
     rw[hq]at hp
     have HF:Hid (hoB cs l=false):=zav.out hq
     clear zav HX2 hq
     go_wp2_with fail
     refine hp.mono ?_
     rintro e u ⟨rfl,hb2⟩
     replace hB:=hB.trans (hb2.mono hB.size)
     clear hp hb2 y0 y1 y2;go_wp2
     go_ret
     exact⟨zaa HF.out.symm,hB⟩
    | true =>
     rw[hq]at hp
     have za9:Hid (_):=HX2.out hq
     clear zav HX2 hq
     go_wp2_with fail
     refine hp.mono ?_
     rintro e u ⟨rfl,hb2⟩
     replace hB:=hB.trans (hb2.mono hB.size)
     clear hp hb2 y0 y1 y2;go_wp2
     go_roundw
     case rel=>exact⟨k+1,by omega,by go_num,za9,hB⟩
     case measure=>simp[intOf];omega
  . have HF:Hid (hoB cs l=true):=zqf.2 (fun j hj=>HOK.out j (by omega))
    have g4:¬(k:Int)<(l.length:Int):=by omega
    clear HOK;go_wp2
    go_ret
    exact⟨zaa HF.out.symm,hB⟩
theorem znc(S:Nat->Prop)(a:Option Addr)(ca:Nat)(l:List Ft)(b:Option Addr)(cb:Nat)(sw:List Sw)(n:Int)(c:Option Addr)(cc:Nat)(cs:List Int)(w:World)(hl:Gr FtE S w a ca l)(hs:Gr SwE S w b cb sw)(hc:Gr El.int S w c cc cs)(hn:I64 n)(hb1:∀f∈l,f.lk.length<=1000)(hb2:∀x∈sw,x.lk.length<=1000) :
 Calls Tryz.prog 48 #[.slice a l.length ca,.slice b sw.length cb,.int .i64 n,.slice c cs.length cc] w fun e w'=>RowF (lkQ l sw n cs) w.heap.size w' e/\Below w.heap.size w w':=by
 have kl:=hl.lenB
 have ks:=hs.lenB
 have HL:Hid (Gr FtE S w a ca l):=hl
 have HS:Hid (Gr SwE S w b cb sw):=hs
 have HC:Hid (Gr El.int S w c cc cs):=hc
 have HB1:Hid (∀f∈l,f.lk.length<=1000):=hb1
 have HB2:Hid (∀x∈sw,x.lk.length<=1000):=hb2
 clear hl hs hc hb1 hb2
 have hp:=fun U=>ziv n (l.length:Int) U
 cases hq:nuF n (l.length:Int) with
 | false =>
  rw[hq]at hp
  have HV:Hid (RowF (lkQ l sw n cs) w.heap.size w (.returned (.slice none 0 0))):=⟨_,rfl,by rw[zj7 (zya hq)];exact Gi.nil _ _⟩
  clear hq
  go_enter Tryz.func48,Tryz.ntmps48
  go_wp2_with fail
  refine(hp _).mono ?_
  rintro e u ⟨rfl,rfl⟩;clear hp;go_wp2
  go_ret
  exact⟨HV.out,Below.refl _ _⟩
 | true =>
 rw[hq]at hp
 have hn2:=zpo.1 hq
 obtain⟨m,rfl⟩:∃m:Nat,n=(m:Int):=⟨n.toNat,by omega⟩
 have zzx:Hid (fsS cs (m:Int) sw=none->lkQ l sw (m:Int) cs=(l.getD m Ft.none).lk):=fun h=>zpx hn2 h
 have HSW:Hid (∀x,fsS cs (m:Int) sw=some x->lkQ l sw (m:Int) cs=x):=fun x h=>zui hn2 h
 have hml:m<l.length:=by omega
 clear hq
 go_enter Tryz.func48,Tryz.ntmps48
 go_wp2_with fail
 refine(hp _).mono ?_
 rintro e u ⟨rfl,rfl⟩;clear hp;go_wp2
 go_loopw [18] (fun i wr=>∃k:Nat,k<=sw.length/\i=.int .i64 k/\Hid (fsS cs (m:Int) sw=fsS cs (m:Int) (sw.drop k))/\Below w.heap.size w wr) (fun i _=>sw.length-(intOf i).toNat)
 case atStart=>exact⟨0,Nat.zero_le _,rfl,(rfl:fsS cs (m:Int) sw=_),Below.refl _ _⟩
 case round =>
  obtain⟨k,hk,rfl,HOK,hB⟩:=hrel
  by_cases hkn:k<sw.length
  . obtain⟨b1,off,a1,c1,a2,c2,rfl,hb,hI,d0,d1,d2,hr1,hr2⟩:=HS.out.sw hB k hkn
    have HSK:Hid (¬((sw.getD k Sw.none).ft=(m:Int)/\hoB cs (sw.getD k Sw.none).cn=true)->fsS cs (m:Int) sw=fsS cs (m:Int) (sw.drop (k+1))):=fun h=>HOK.out.trans (zl2 hkn h)
    have HMT:Hid ((sw.getD k Sw.none).ft=(m:Int)/\hoB cs (sw.getD k Sw.none).cn=true->lkQ l sw (m:Int) cs=(sw.getD k Sw.none).lk):=fun h=>HSW.out _ (HOK.out.trans (zqn hkn h))
    have hln:=HB2.out _ (zc4 (d:=Sw.none) hkn)
    generalize sw.getD k Sw.none=x at *
    obtain⟨cn,ft,lk⟩:=x
    dsimp only at *
    clear HOK
    have i1:(0:Int)<=(k:Int):=by omega
    have i2:(k:Int)<(sw.length:Int):=by omega
    obtain⟨U,hU,XG,hbU⟩:∃U,U=wr.alloc (.cells #[.slice a1 cn.length c1,.int .i64 ft,.slice a2 lk.length c2] 144)/\Bk 144 U wr.heap.size [.slice a1 cn.length c1,.int .i64 ft,.slice a2 lk.length c2]/\Below wr.heap.size wr U:=⟨_,rfl,Bk.new _ _ _,bl1 _⟩
    replace hB:=hB.trans (hbU.mono hB.size)
    obtain⟨y0,y1,y2,-⟩:=XG.three
    have hp:=znj S S a1 c1 cn c cc cs U ((zb0 hr1).1.below hbU) (HC.out.below hB)
    have HR2:Hid (Gr El.int S U a2 c2 lk):=(zb0 hr2).1.below hbU
    go_upto_region 6 with fail
    rw[<-hU];clear hU d0 d1 d2 hbU hr1 hr2
    by_cases hft:ft=(m:Int)
    rotate_left
    . have g0:(ft==(m:Int))=false:=beq_eq_false_iff_ne.2 hft
      have za9:Hid (_):=HSK.out (fun h=>hft h.1)
      clear HSK HMT hp HR2 hft;go_wp2
      go_roundw
      case rel=>exact⟨k+1,by omega,by go_num,za9,hB⟩
      case measure=>simp[intOf];omega
    have g0:(ft==(m:Int))=true:=beq_iff_eq.2 hft
    cases hh:hoB cs cn with
    | false =>
     rw[hh]at hp
     have za9:Hid (_):=HSK.out (fun h=>by rw[hh]at h;cases h.2)
     clear HSK HMT HR2 hh hft
     go_wp2_with fail
     refine hp.mono ?_
     rintro e u ⟨rfl,hb3⟩
     replace hB:=hB.trans (hb3.mono hB.size)
     clear hp hb3 y0 y1 y2;go_wp2
     go_roundw
     case rel=>exact⟨k+1,by omega,by go_num,za9,hB⟩
     case measure=>simp[intOf];omega
    | true =>
     rw[hh]at hp
     have HE:Hid (lkQ l sw (m:Int) cs=lk):=HMT.out ⟨hft,hh⟩
     clear HSK HMT hh hft
     go_wp2_with fail
     refine hp.mono ?_
     rintro e u ⟨rfl,hb3⟩
     replace hB:=hB.trans (hb3.mono hB.size)
     replace XG:=XG.below hb3
     have hcl:=zgn S a2 c2 lk u (HR2.out.below hb3) hln
     clear hp hb3 y0 y1 y2 HR2;obtain⟨y0,y1,y2,-⟩:=XG.three
     go_wp2_with fail
     refine hcl.mono ?_
     rintro e u2 ⟨hrow,hb4⟩;obtain⟨v,rfl,hG⟩:=hrow.out
     have HV:Hid (RowF (lkQ l sw (m:Int) cs) w.heap.size u2 (.returned v)):=⟨v,rfl,by rw[HE.out];exact hG.lowF hB.size⟩
     replace hB:=hB.trans (hb4.mono hB.size)
     clear hcl hb4 hrow hG y0 y1 y2;go_wp2
     go_ret
     exact⟨HV.out,hB⟩
  . have hks:k=sw.length:=by omega
    have HE:Hid (lkQ l sw (m:Int) cs=(l.getD m Ft.none).lk):=zzx.out (by rw[HOK.out,hks];exact zqo)
    have g4:¬(k:Int)<(sw.length:Int):=by omega
    obtain⟨b1,off,a1,c1,rfl,hb,hsz,d0,d1,hr⟩:=HL.out.ft hB m hml
    have hln:=HB1.out _ (zc4 (d:=Ft.none) hml)
    generalize l.getD m Ft.none=x at *
    obtain⟨tg,lk⟩:=x
    dsimp only at *
    have i1:(0:Int)<=(m:Int):=by omega
    have i2:(m:Int)<(l.length:Int):=by omega
    have hcl:=zgn S a1 c1 lk wr (zb0 hr).1 hln
    clear HOK hks hr zzx HSW
    go_wp2_with fail
    refine hcl.mono ?_
    rintro e u2 ⟨hrow,hb4⟩;obtain⟨v,rfl,hG⟩:=hrow.out
    have HV:Hid (RowF (lkQ l sw (m:Int) cs) w.heap.size u2 (.returned v)):=⟨v,rfl,by rw[HE.out];exact hG.lowF hB.size⟩
    replace hB:=hB.trans (hb4.mono hB.size)
    clear hcl hb4 hrow hG d0 d1;go_wp2
    go_ret
    exact⟨HV.out,hB⟩
end Go.Proofs.YtgbhidcokobmmaaGreatDoor
namespace Go.Proofs
open Go.Shelf
def Tryz.keysK_ren:Go.Shelf.Ren:=⟨fun | 7=>50 | 10=>87 | n=>n,fun | 23=>98 | 26=>3 | 3=>103 | 28=>106 | 0=>0 | 27=>105 | 33=>124 | 4=>4 | n=>n,fun | n=>n⟩
theorem Tryz.keysK:Go.Proofs.SlLaysZI.n7 Tryz.prog Tryz.keysK_ren:={
 mixed:=by kernel_rfl
 f7:=⟨Tryz.f50.name,by decide,Tryz.func50.trans (congrArg some (by kernel_rfl))⟩
 f10:=⟨Tryz.f87.name,by decide,Tryz.func87.trans (congrArg some (by kernel_rfl))⟩
 t0:=Tryz.underlying0
 a0:=Tryz.isAgg0
 z0:=Tryz.sizeOf0
 v0:=Tryz.zeroValue0
 t4:=Tryz.underlying4
 a4:=Tryz.isAgg4
 z4:=Tryz.sizeOf4
 v4:=Tryz.zeroValue4
 t23:=Tryz.underlying98
 a23:=Tryz.isAgg98
 z23:=Tryz.sizeOf98
 v23:=Tryz.zeroValue98
 t26:=Tryz.underlying3
 a26:=Tryz.isAgg3
 z26:=Tryz.sizeOf3
 v26:=Tryz.zeroValue3
 t27:=Tryz.underlying105
 a27:=Tryz.isAgg105
 z27:=Tryz.sizeOf105
 v27:=Tryz.zeroValue105
 t28:=Tryz.underlying106
 a28:=Tryz.isAgg106
 z28:=Tryz.sizeOf106
 v28:=Tryz.zeroValue106
 t33:=Tryz.underlying124
 a33:=Tryz.isAgg124
 z33:=Tryz.sizeOf124
 v33:=Tryz.zeroValue124 }
def Tryz.sortedK_ren:Go.Shelf.Ren:=⟨fun | 6=>49 | 8=>85 | 9=>86 | 11=>119 | 13=>121 | 12=>120 | 23=>162 | 24=>163 | 14=>153 | 15=>154 | 16=>155 | 17=>156 | 18=>157 | 19=>158 | 20=>159 | 21=>160 | 22=>161 | 25=>194 | 26=>195 | 27=>196 | 28=>197 | 29=>198 | 30=>199 | 31=>221 | n=>n,fun | 26=>3 | 28=>106 | 24=>37 | 0=>0 | 3=>3 | 37=>188 | 48=>211 | 50=>175 | 4=>4 | 40=>225 | 39=>224 | 45=>197 | 5=>5 | 9=>9 | 51=>257 | 55=>261 | 57=>277 | 58=>278 | 33=>124 | n=>n,fun | n=>n⟩
theorem Tryz.sortedK:Go.Proofs.SlLaysZI.n6 Tryz.prog Tryz.sortedK_ren:={
 mixed:=by kernel_rfl
 f6:=⟨Tryz.f49.name,by decide,Tryz.func49.trans (congrArg some (by kernel_rfl))⟩
 f8:=⟨Tryz.f85.name,by decide,Tryz.func85.trans (congrArg some (by kernel_rfl))⟩
 f11:=⟨Tryz.f119.name,by decide,Tryz.func119.trans (congrArg some (by kernel_rfl))⟩
 t0:=Tryz.underlying0
 a0:=Tryz.isAgg0
 z0:=Tryz.sizeOf0
 v0:=Tryz.zeroValue0
 t24:=Tryz.underlying37
 a24:=Tryz.isAgg37
 z24:=Tryz.sizeOf37
 v24:=Tryz.zeroValue37
 t26:=Tryz.underlying3
 a26:=Tryz.isAgg3
 z26:=Tryz.sizeOf3
 v26:=Tryz.zeroValue3
 t28:=Tryz.underlying106
 a28:=Tryz.isAgg106
 z28:=Tryz.sizeOf106
 v28:=Tryz.zeroValue106
 i26:=by kernel_rfl }
def Tryz.sortK_ren:Go.Shelf.Ren:=⟨fun | 5=>86 | 8=>121 | 7=>120 | 19=>162 | 20=>163 | 10=>153 | 11=>154 | 12=>155 | 13=>156 | 14=>157 | 15=>158 | 16=>159 | 17=>160 | 18=>161 | 30=>194 | 31=>195 | 32=>196 | 33=>197 | 34=>198 | 35=>199 | 40=>221 | n=>n,fun | 23=>37 | 25=>3 | 3=>3 | 32=>188 | 22=>37 | 0=>0 | 44=>211 | 46=>175 | 4=>4 | 36=>225 | 35=>224 | 41=>197 | 5=>5 | 9=>9 | 53=>257 | 57=>261 | 63=>277 | 64=>278 | n=>n,fun | n=>n⟩
theorem Tryz.sortK:Go.Proofs.SlLaysM.n5 Tryz.prog Tryz.sortK_ren:={
 mixed:=by kernel_rfl
 f5:=⟨Tryz.f86.name,by decide,Tryz.func86.trans (congrArg some (by kernel_rfl))⟩
 f7:=⟨Tryz.f120.name,by decide,Tryz.func120.trans (congrArg some (by kernel_rfl))⟩
 f8:=Tryz.func121.trans (congrArg some (by kernel_rfl))
 f10:=⟨Tryz.f153.name,by decide,Tryz.func153.trans (congrArg some (by kernel_rfl))⟩
 f11:=⟨Tryz.f154.name,by decide,Tryz.func154.trans (congrArg some (by kernel_rfl))⟩
 f12:=⟨Tryz.f155.name,by decide,Tryz.func155.trans (congrArg some (by kernel_rfl))⟩
 f13:=⟨Tryz.f156.name,by decide,Tryz.func156.trans (congrArg some (by kernel_rfl))⟩
 f14:=⟨Tryz.f157.name,by decide,Tryz.func157.trans (congrArg some (by kernel_rfl))⟩
 f15:=⟨Tryz.f158.name,by decide,Tryz.func158.trans (congrArg some (by kernel_rfl))⟩
 f16:=⟨Tryz.f159.name,by decide,Tryz.func159.trans (congrArg some (by kernel_rfl))⟩
 f17:=⟨Tryz.f160.name,by decide,Tryz.func160.trans (congrArg some (by kernel_rfl))⟩
 f18:=⟨Tryz.f161.name,by decide,Tryz.func161.trans (congrArg some (by kernel_rfl))⟩
 f19:=Tryz.func162.trans (congrArg some (by kernel_rfl))
 f20:=Tryz.func163.trans (congrArg some (by kernel_rfl))
 f30:=⟨Tryz.f194.name,by decide,Tryz.func194.trans (congrArg some (by kernel_rfl))⟩
 f31:=Tryz.func195.trans (congrArg some (by kernel_rfl))
 f32:=Tryz.func196.trans (congrArg some (by kernel_rfl))
 f33:=⟨Tryz.f197.name,by decide,Tryz.func197.trans (congrArg some (by kernel_rfl))⟩
 f34:=⟨Tryz.f198.name,by decide,Tryz.func198.trans (congrArg some (by kernel_rfl))⟩
 f35:=⟨Tryz.f199.name,by decide,Tryz.func199.trans (congrArg some (by kernel_rfl))⟩
 f40:=⟨Tryz.f221.name,by decide,Tryz.func221.trans (congrArg some (by kernel_rfl))⟩
 t0:=Tryz.underlying0
 a0:=Tryz.isAgg0
 z0:=Tryz.sizeOf0
 v0:=Tryz.zeroValue0
 t3:=Tryz.underlying3
 a3:=Tryz.isAgg3
 z3:=Tryz.sizeOf3
 v3:=Tryz.zeroValue3
 t4:=Tryz.underlying4
 a4:=Tryz.isAgg4
 z4:=Tryz.sizeOf4
 v4:=Tryz.zeroValue4
 t5:=Tryz.underlying5
 a5:=Tryz.isAgg5
 z5:=Tryz.sizeOf5
 v5:=Tryz.zeroValue5
 t9:=Tryz.underlying9
 a9:=Tryz.isAgg9
 z9:=Tryz.sizeOf9
 v9:=Tryz.zeroValue9
 t22:=Tryz.underlying37
 a22:=Tryz.isAgg37
 z22:=Tryz.sizeOf37
 v22:=Tryz.zeroValue37
 t23:=Tryz.underlying37
 a23:=Tryz.isAgg37
 z23:=Tryz.sizeOf37
 v23:=Tryz.zeroValue37
 t25:=Tryz.underlying3
 a25:=Tryz.isAgg3
 z25:=Tryz.sizeOf3
 v25:=Tryz.zeroValue3
 t32:=Tryz.underlying188
 a32:=Tryz.isAgg188
 z32:=Tryz.sizeOf188
 v32:=Tryz.zeroValue188
 t35:=Tryz.underlying224
 a35:=Tryz.isAgg224
 z35:=Tryz.sizeOf224
 v35:=Tryz.zeroValue224
 t36:=Tryz.underlying225
 a36:=Tryz.isAgg225
 z36:=Tryz.sizeOf225
 v36:=Tryz.zeroValue225
 t41:=Tryz.underlying197
 a41:=Tryz.isAgg197
 z41:=Tryz.sizeOf197
 v41:=Tryz.zeroValue197
 t44:=Tryz.underlying211
 a44:=Tryz.isAgg211
 z44:=Tryz.sizeOf211
 v44:=Tryz.zeroValue211
 t46:=Tryz.underlying175
 a46:=Tryz.isAgg175
 z46:=Tryz.sizeOf175
 v46:=Tryz.zeroValue175
 t53:=Tryz.underlying257
 a53:=Tryz.isAgg257
 z53:=Tryz.sizeOf257
 v53:=Tryz.zeroValue257
 t57:=Tryz.underlying261
 a57:=Tryz.isAgg261
 z57:=Tryz.sizeOf261
 v57:=Tryz.zeroValue261
 t63:=Tryz.underlying277
 a63:=Tryz.isAgg277
 z63:=Tryz.sizeOf277
 v63:=Tryz.zeroValue277
 t64:=Tryz.underlying278
 a64:=Tryz.isAgg278
 z64:=Tryz.sizeOf278
 v64:=Tryz.zeroValue278 }
end Go.Proofs
namespace Go.Proofs.YtgbhidcokobmmaaGreatDoor
open Go.RowKit Go.Maps Go.Sort Go.Shelf
def rawF(v:Value):Option (DataW Value×List MemPlace):=some (.held v,[])
theorem keyF:Keyed Tryz.prog 3:=int_keyed Tryz.underlying3
theorem wfF{z:Int}(h:I64 z):(Lit.int .i64 z).wf=true:=WalkArith.wf_i64 h
theorem zyl{z:Int}(h:I64 z):keyOf Tryz.prog 3 (.int .i64 z)=some (.int .i64 z):=keyOf_int_mk Tryz.underlying3 (wfF h)
theorem zym{z:Int}(h:(Lit.int .i64 z).wf=true):I64 z:=by
 simp only[Lit.wf,IntKind.min,IntKind.max,Bool.and_eq_true,decide_eq_true_eq]at h
 have h1:-2 ^ (IntKind.i64.bits-1)<=z:=of_decide_eq_true h.1
 have h2:z<=2 ^ (IntKind.i64.bits-1)-1:=of_decide_eq_true h.2
 have e:(2:Int) ^ (IntKind.i64.bits-1)=9223372036854775808:=by decide
 rw[e]at h1 h2
 unfold I64
 omega
def Mk(w:World)(b n:Nat)(P:Int->Prop):Prop:=∃D:DataW Value,w.ownsMap Tryz.prog 3 rawF b n D/\∀z,Maps.has D (.int .i64 z)=true↔P z
theorem Mk.made(w:World):Mk (w.alloc (.map #[] 0)) w.heap.size 0 (fun _=>False):=⟨_,World.ownsMap_made w Tryz.prog 3 rawF,fun z=>by simp[Maps.has]⟩
theorem Mk.lt{w:World}{b n:Nat}{P:Int->Prop}(h:Mk w b n P):b<w.heap.size:=by
 obtain⟨D,h1,_⟩:=h
 exact h1.lt
theorem Mk.stay{w w':World}{b n:Nat}{P:Int->Prop}(h:Mk w b n P)(hb:w'.heap[b]?=w.heap[b]?):Mk w' b n P:=by
 obtain⟨D,⟨es,clock,k1,k2⟩,h2⟩:=h
 exact⟨D,⟨es,clock,hb.trans k1,k2⟩,h2⟩
theorem Mk.below{w w':World}{b n:Nat}{P:Int->Prop}(h:Mk w b n P)(hb:Below w.heap.size w w'):Mk w' b n P:=h.stay (hb.block b h.lt)
theorem Mk.iff{w:World}{b n:Nat}{P Q:Int->Prop}(h:Mk w b n P)(hq:∀z,P z↔Q z):Mk w b n Q:=by
 obtain⟨D,h1,h2⟩:=h
 exact⟨D,h1,fun z=>(h2 z).trans (hq z)⟩
theorem zgz{w:World}{ops:Array Oper}{rest:List Oper}{o:Oper}{a:Act}{Q:Exit->Act->World->Prop}(t e:TypeId)(ht:Tryz.prog.underlying t=some (.map 3 e))
    (hg:o.guard=none) (m x y:Operand) (hop:o.op=Op.mapUpdate t m x y) (b n:Nat) (P:Int->Prop) (z:Int) (v:Value) (hi:I64 z) (h:Mk w b n P) (hn:n<=1000000000000) (hm:a.eval m=.map (some b)) (hx:a.eval x=.int .i64 z) (hy:a.eval y=v)
    (hK:∀w',Mk w' b (n+1) (fun u=>u=z\/P u)->w.grownBy w' (some b)->wpList Tryz.prog ops Q rest (a.put o.dst undef) w'):wpList Tryz.prog ops Q (o::rest) a w:=by
 obtain⟨D,h1,h2⟩:=h
 have hmap:=h1.isMap
 refine wpList_mapUpdate_own w hg m x y t hop 3 e keyF ht rawF b n D hm h1 (by unfold maxLen;omega) _ _ _ hx hy (zyl hi) (.held v) [] rfl (fun w' k1 k2=>hK w' ⟨_,k1,fun u=>?_⟩ k2)
 by_cases hu:u=z
 . subst hu
   exact⟨fun _=>.inl rfl,fun _=>has_put_same hmap (show WideAt.IsKeyLit (.int .i64 u)from trivial) _⟩
 . have hne:(Lit.int .i64 u)≠.int .i64 z:=fun e'=>hu (by injection e')
   rw[has_put_other hne,h2 u]
   exact⟨.inr,fun h=>h.resolve_left hu⟩
theorem zp9{w:World}{b n:Nat}{D:DataW Value}(h:w.ownsMap Tryz.prog 3 rawF b n D):(intKeys D).Nodup/\∀x,x∈intKeys D↔Maps.has D (.int .i64 x)=true:=by
 obtain⟨es,hD,hpw,_⟩:=h.entries keyF
 obtain⟨es',hD',hko⟩:=h.keysOf
 obtain rfl:es=es':=by rw[hD]at hD';simpa using hD'
 subst hD
 have hk:∀p∈es,∃x,p.1=.int .i64 x:=fun p hp=>by
  obtain⟨v,hv⟩:=hko p hp
  obtain⟨x,_,hx,_⟩:=Maps.keyOf_i64 Tryz.underlying3 hv
  exact⟨x,hx⟩
 refine⟨?_,fun x=>?_⟩
 . show(es.map fun p=>Go.intOf p.1).Nodup
   refine List.pairwise_map.2 (hpw.imp_of_mem fun {p q} hp' hq' hne e=>hne ?_)
   obtain⟨a,ha⟩:=hk p hp'
   obtain⟨b,hb⟩:=hk q hq'
   rw[ha,hb]at e ⊢
   exact congrArg _ e
 . rw[has_eq,List.any_eq_true]
   show x∈es.map (fun p=>Go.intOf p.1)↔_
   rw[List.mem_map]
   constructor
   . rintro ⟨p,hp',rfl⟩
     obtain⟨a,ha⟩:=hk p hp'
     exact⟨p,hp',by rw[ha];simp[Lit.sameKey,Go.intOf]⟩
   . rintro ⟨p,hp',hs⟩
     obtain⟨a,ha⟩:=hk p hp'
     rw[ha]at hs
     exact⟨p,hp',by rw[ha];simpa [Lit.sameKey,Go.intOf] using hs⟩
theorem zr3{l:List Int}(h:l.Nodup):riT (l.mergeSort (fun x y=>decide (x<=y))):=by
 have tr:∀a b c:Int,decide (a<=b)=true->decide (b<=c)=true->decide (a<=c)=true:=fun a b c h1 h2=>by
  rw[decide_eq_true_iff]at *
  omega
 have ttl:∀a b:Int,(decide (a<=b)||decide (b<=a))=true:=fun a b=>by
  rw[Bool.or_eq_true,decide_eq_true_iff,decide_eq_true_iff]
  omega
 have h1:=List.pairwise_mergeSort tr ttl l
 have h2:(l.mergeSort (fun x y=>decide (x<=y))).Nodup:=(List.mergeSort_perm l _).nodup_iff.2 h
 exact(h1.and h2).imp (fun {a b} hab=>by
  have h3:=of_decide_eq_true hab.1
  have h4:=hab.2
  omega)
theorem zqz:∀l:List Int,(l.map (fun z=>[Value.int .i64 z])).flatten=l.map encZ:=by
 intro l
 induction l with
 | nil=>rfl
 | cons z l ih=>rw[List.map_cons,List.flatten_cons,ih];rfl
theorem znn{base:Nat}{w:World}{v:Value}{l:List Int}(h:w.ownsRow base 3 1 v l.length (l.map encZ))(hi:∀z∈l,I64 z):Gi base w v l:=by
 refine⟨l.map (fun z=>[Value.int .i64 z]),by rw[List.length_map],by rw[zqz];exact h,fun i hil=>?_⟩
 have e:(l.map (fun z=>[Value.int .i64 z])).getD i []=[Value.int .i64 (l.getD i 0)]:=by simp[List.getD,hil]
 rw[e]
 exact El.int_rep.2 ⟨rfl,hi _ (zc4 hil)⟩
theorem zxv(m:Nat):AnyZI.SortsIn Tryz.prog Tryz.sortedK_ren Fence.wide m :=
 ⟨fun blk off cap ss W hH hblk hsz=>callsIn_wide.2 (AnyM.slices_Sort_int Tryz.sortK blk off cap ss W hH hblk hsz),
  fun p cap W=>callsIn_wide.2 (AnyM.slices_Sort_int_none Tryz.sortK p cap W)⟩
theorem zqa(mb:Option Nat)(w:World) :
 Calls Tryz.prog 50 #[.map mb] w fun e w'=>e=.returned (.func (.func 87) #[] #[.pointer (some ⟨w.heap.size,0,none⟩)])/\w'=w.alloc (.cells #[.map mb] 98) :=
 (callsIn_wide (n:=5)).1 (AnyZI.keys_in Tryz.keysK Fence.wide 5 trivial rfl mb w)
structure SoF(P:Int->Prop)(base:Nat)(w':World)(e:Ending):Prop where
 out:∃zs,RowF zs base w' e/\riT zs/\∀z,z∈zs↔P z
theorem zjh(Bm b nn:Nat)(P:Int->Prop)(w:World)(hBm:Bm<w.heap.size)(hm:w.cell? ⟨Bm,0,none⟩=some (.map (some b)))(h:Mk w b nn P)(hn:nn<=1000000) :
 Calls Tryz.prog 49 #[.func (.func 87) #[] #[.pointer (some ⟨Bm,0,none⟩)]] w fun e w'=>SoF P w.heap.size w' e/\Below w.heap.size w w':=by
 obtain⟨D,hown,hP⟩:=h
 have hsz:=hown.size_le
 have hseq:=AnyZI.keys_gives (ρ:=Tryz.keysK_ren) { Tryz.keysK with } Fence.wide 2 trivial rfl (by omega) Bm b nn D w hBm hm hown
 have cS:=AnyZI.sorted_in Tryz.sortedK Fence.wide 5 trivial trivial trivial trivial rfl (by omega) (zxv _) (enters_of Tryz.func86 (by kernel_rfl) rfl) 87 #[.pointer (some ⟨Bm,0,none⟩)] trivial (enters_of Tryz.func87 (by kernel_rfl) rfl) _ _ (by unfold maxLen;omega) (by omega) w hseq
 refine(callsIn_wide.1 cS).mono ?_
 rintro e w' ⟨v,ss,rfl,hS,hrow,hnil,hb⟩
 obtain⟨k1,k2⟩:=zp9 hown
 have hnd:ss.Nodup:=hS.nodup_iff.2 k1
 have hpm:=List.mergeSort_perm ss (fun x y=>decide (x<=y))
 refine⟨⟨_,⟨v,rfl,znn (l:=ss.mergeSort (fun x y=>decide (x<=y))) (by rw[hpm.length_eq];exact hrow) (fun z hz=>?_)⟩,zr3 hnd,fun z=>?_⟩,hb⟩
 . exact zym (intKeys_wf hown Tryz.underlying3 z (hS.mem_iff.1 (hpm.mem_iff.1 hz)))
 . rw[hpm.mem_iff,hS.mem_iff,k2 z,hP z]
end Go.Proofs.YtgbhidcokobmmaaGreatDoor
namespace Go.Proofs.YtgbhidcokobmmaaGreatDoor
open Go.RowKit Go.Maps
def ioF(v:Value):Int:=Go.RowKit.intOf v
theorem zqh{on:List ByteArray}{t:ByteArray}(h:∀j,j<on.length->on.getD j ⟨#[]⟩≠t):hasT on t=false:=by
 cases hf:hasT on t with
 | false=>rfl
 | true =>
  obtain⟨i,hi,e⟩:=List.getElem_of_mem (zlz.1 hf)
  refine absurd ?_ (h i hi)
  rw[List.getD_eq_getElem?_getD,List.getElem?_eq_getElem hi]
  exact e
theorem zqi{on:List ByteArray}{t:ByteArray}{k:Nat}(hk:k<on.length)(h:on.getD k ⟨#[]⟩=t):hasT on t=true:=zlz.2 (h ▸ zc4 hk)
theorem znf(S:Nat->Prop)(a:Option Addr)(ca:Nat)(on:List ByteArray)(t:ByteArray)(w:World)(hl:Gr El.str S w a ca on) :
 Calls Tryz.prog 82 #[.slice a on.length ca,.string t] w fun e w'=>∃z:Int,e=.returned (.int .i64 z)/\((0<=z)↔hasT on t=true)/\Below w.heap.size w w':=by
 have kl:=hl.lenB
 have HL:Hid (Gr El.str S w a ca on):=hl
 clear hl
 go_enter Tryz.func82,Tryz.ntmps82
 go_wp2
 go_loopw [8] (fun i wr=>∃k:Nat,k<=on.length/\i=.int .i64 k/\Hid (∀j,j<k->on.getD j ⟨#[]⟩≠t)/\Below w.heap.size w wr) (fun i _=>on.length-(ioF i).toNat)
 case atStart=>exact⟨0,Nat.zero_le _,rfl,(fun j hj=>by omega),Below.refl _ _⟩
 case round =>
  obtain⟨k,hk,rfl,HNO,hB⟩:=hrel
  by_cases hkn:k<on.length
  . obtain⟨b,off,rfl,hb,hW,d0⟩:=HL.out.st1 hB k hkn
    have HFA:Hid (on.getD k ⟨#[]⟩=t->hasT on t=true):=zqi hkn
    have HN2:Hid (on.getD k ⟨#[]⟩≠t->∀j,j<k+1->on.getD j ⟨#[]⟩≠t):=fun hn j hj=>by
     rcases Nat.lt_or_ge j k with h1|h1
     . exact HNO.out j h1
     . rw[show j=k by omega];exact hn
    have i1:(0:Int)<=(k:Int):=by omega
    have i2:(k:Int)<(on.length:Int):=by omega
    generalize on.getD k ⟨#[]⟩=x at *
    by_cases htx:x=t
    . subst htx
      have HF:Hid (hasT on x=true):=HFA.out rfl
      clear HNO HN2 HFA;go_wp2
      go_ret
      exact⟨_,rfl,⟨fun _=>HF.out,fun _=>i1⟩,hB⟩
    . have hbq:=zt0 (a:=t) (b:=x) (fun e=>htx e.symm)
      have HNN:Hid (∀j,j<k+1->on.getD j ⟨#[]⟩≠t):=HN2.out htx
      clear HNO HN2 HFA htx;go_wp2
      go_roundw
      case rel=>exact⟨k+1,by omega,by go_num,HNN,hB⟩
      case measure=>simp[ioF,Go.RowKit.intOf];omega
  . have HF:Hid (hasT on t=false):=zqh (fun j hj=>HNO.out j (by omega))
    have g4:¬(k:Int)<(on.length:Int):=by omega
    clear HNO;go_wp2
    go_ret
    exact⟨_,rfl,⟨fun h=>absurd h (by decide),fun h=>by rw[HF.out]at h;cases h⟩,hB⟩
theorem zhs(S:Nat->Prop)(a:Option Addr)(ca:Nat)(on:List ByteArray)(t:ByteArray)(w:World)(hl:Gr El.str S w a ca on) :
 Calls Tryz.prog 47 #[.slice a on.length ca,.string t] w fun e w'=>e=.returned (.bool (hasT on t))/\Below w.heap.size w w':=by
 have hi:=znf S a ca on t w hl
 clear hl
 go_enter Tryz.func47,Tryz.ntmps47
 go_wp2_with fail
 refine hi.mono ?_
 rintro e u ⟨z,rfl,hz,hB⟩;clear hi
 have HZ:Hid (decide (0<=z)=hasT on t):=by
  show _=_
  rw[Bool.eq_iff_iff,decide_eq_true_iff]
  exact hz
 clear hz;go_wp2
 go_ret
 exact⟨zaa HZ.out,hB⟩
theorem zps{X:List Int}{j:Nat}(hj:j<X.length){z:Int}:z∈X.take (j+1)↔z=X.getD j 0\/z∈X.take j:=by
 rw[zgb (d:=(0:Int)) hj,List.mem_append,List.mem_singleton]
 exact Or.comm
theorem zko(S:Nat->Prop)(a:Option Addr)(ca:Nat)(l:List Ft)(b:Option Addr)(cb:Nat)(sw:List Sw)(c:Option Addr)(cc:Nat)(cs:List Int)(d:Option Addr)(cd:Nat)(on:List ByteArray)(w:World)(hl:Gr FtE S w a ca l)(hs:Gr SwE S w b cb sw)(hc:Gr El.int S w c cc cs)(ho:Gr El.str S w d cd on)(hb1:∀f∈l,f.lk.length<=1000)(hb2:∀x∈sw,x.lk.length<=1000)(hll:l.length<=1000) :
 Calls Tryz.prog 22 #[.slice a l.length ca,.slice b sw.length cb,.slice c cs.length cc,.slice d on.length cd] w fun e w'=>RowF (chFt l sw cs on) w.heap.size w' e/\Below w.heap.size w w':=by
 have kl:=hl.lenB
 have ks:=hs.lenB
 have kc:=hc.lenB
 have ko:=ho.lenB
 have HL:Hid (Gr FtE S w a ca l):=hl
 have HS:Hid (Gr SwE S w b cb sw):=hs
 have HC:Hid (Gr El.int S w c cc cs):=hc
 have HO:Hid (Gr El.str S w d cd on):=ho
 have HB1:Hid (∀f∈l,f.lk.length<=1000):=hb1
 have HB2:Hid (∀x∈sw,x.lk.length<=1000):=hb2
 have HLN:Hid (∀n,(lkQ l sw n cs).length<=1000):=fun n=>zpy (p:=fun x=>x.length<=1000) (by simp) hb1 hb2
 clear hl hs hc ho hb1 hb2
 have hmm:=@run_makeMap Tryz.prog
 have M:=Mk.made w
 have hbW:=bl1 (w:=w) (.map #[] 0)
 obtain⟨W,hW⟩:∃W,W=w.alloc (.map #[] 0):=⟨_,rfl⟩
 rw[<-hW]at M hbW
 obtain⟨g,hg⟩:∃g,w.heap.size=g:=⟨_,rfl⟩
 have HG:Hid (w.heap.size=g):=hg
 rw[hg]at M
 go_enter Tryz.func22,Tryz.ntmps22
 go_upto_region 2 with fail
 rw[<-hW]
 try rw[hg]
 clear hW hg hmm;go_wp2
 go_loopw [17] (fun i wr=>∃(k N:Nat),k<=l.length/\i=.int .i64 k/\N<=1000*k/\Mk wr g N (fun z=>z∈chT l sw cs on k)/\Below w.heap.size w wr) (fun i _=>l.length-(ioF i).toNat)
 case atStart=>exact⟨0,0,Nat.zero_le _,rfl,Nat.zero_le _,M.iff (fun z=>⟨fun h=>h.elim,fun h=>by cases h⟩),hbW⟩
 case round =>
  clear M hbW;obtain⟨k,N,hk,rfl,hN,hM,hB⟩:=hrel
  by_cases hkn:k<l.length
  . obtain⟨b1,off,a1,c1,rfl,hb,hsz,d0,d1,hr⟩:=HL.out.ft hB k hkn
    have HT:Hid (chT l sw cs on (k+1)=if hasT on (l.getD k Ft.none).tg then adT (chT l sw cs on k) (lkQ l sw (k:Int) cs)else chT l sw cs on k):=rfl
    have i1:(0:Int)<=(k:Int):=by omega
    have i2:(k:Int)<(l.length:Int):=by omega
    generalize l.getD k Ft.none=x at *
    obtain⟨tg,lk⟩:=x
    dsimp only at *
    obtain⟨U,hU,XG,hbU⟩:∃U,U=wr.alloc (.cells #[.string tg,.slice a1 lk.length c1] 100)/\Bk 100 U wr.heap.size [.string tg,.slice a1 lk.length c1]/\Below wr.heap.size wr U:=⟨_,rfl,Bk.new _ _ _,bl1 _⟩
    replace hB:=hB.trans (hbU.mono hB.size)
    replace hM:=hM.below hbU;obtain⟨y0,y1,-⟩:=XG.two
    have hco:=zhs S d cd on tg U (HO.out.below hB)
    go_upto_region 5 with fail
    rw[<-hU];clear hU d0 d1 hbU hr XG
    cases hh:hasT on tg with
    | false =>
     rw[hh]at hco HT
     rw[if_neg (by decide)]at HT
     go_wp2_with fail
     refine hco.mono ?_
     rintro e u ⟨rfl,hb2⟩
     replace hB:=hB.trans (hb2.mono hB.size)
     replace hM:=hM.below hb2;clear hco hb2 y0 y1 hh;go_wp2
     go_roundw
     case rel=>exact⟨k+1,N,by omega,by go_num,by omega,hM.iff (fun z=>by rw[HT.out]),hB⟩
     case measure=>simp[ioF,Go.RowKit.intOf];omega
    | true =>
     rw[hh]at hco HT;rw[if_pos rfl]at HT
     go_wp2_with fail
     refine hco.mono ?_
     rintro e u ⟨rfl,hb2⟩
     replace hB:=hB.trans (hb2.mono hB.size)
     replace hM:=hM.below hb2;clear hco hb2 y0 y1 hh
     have hlo:=znc S (some ⟨b1,off,none⟩) ca l b cb sw (k:Int) c cc cs u (HL.out.below hB) (HS.out.below hB) (HC.out.below hB) ⟨by omega,by omega⟩ HB1.out HB2.out
     go_wp2_with fail
     refine hlo.mono ?_
     rintro e u2 ⟨hrow,hb3⟩;obtain⟨v,rfl,hG⟩:=hrow.out
     have hgu:g<u.heap.size:=hM.lt
     replace hB:=hB.trans (hb3.mono hB.size)
     replace hM:=hM.below hb3
     have HXL:Hid (_):=HLN.out (k:Int)
     have hxl:=HLN.out (k:Int)
     obtain⟨X,hX⟩:∃X,lkQ l sw (k:Int) cs=X:=⟨_,rfl⟩
     rw[hX]at hG hxl HT;obtain⟨a2,c2,rfl,-,-⟩:=hG.slice
     have HG2:Hid (Gi u.heap.size u2 (.slice a2 X.length c2) X):=hG
     obtain⟨bs,hbs⟩:∃n,u.heap.size=n:=⟨_,rfl⟩
     rw[hbs]at HG2 hgu
     have hM0:Mk u2 g (N+0) (fun z=>z∈X.take 0\/z∈chT l sw cs on k):=hM.iff (fun z=>by simp)
     have HB0:Hid (Below w.heap.size w u2):=hB
     clear hlo hb3 hG hrow hX hbs hM hB HXL;go_wp2
     go_loopw [33] (fun i wr=>∃j:Nat,j<=X.length/\i=.int .i64 j/\Hid (Gi bs wr (.slice a2 X.length c2) X)/\Mk wr g (N+j) (fun z=>z∈X.take j\/z∈chT l sw cs on k)/\Below w.heap.size w wr) (fun i _=>X.length-(ioF i).toNat)
     case atStart=>exact⟨0,Nat.zero_le _,rfl,HG2.out,hM0,HB0.out⟩
     case round =>
      clear HG2 hM0 HB0;obtain⟨j,hj,rfl,HG2,hM,hB⟩:=hrel
      by_cases hjn:j<X.length
      . obtain⟨a3,c3,e3,hgr,-⟩:=Gw.slice HG2.out
        injection e3 with e4 e5 e6;subst e4 e6
        obtain⟨b4,o4,rfl,hb4,hI,d0⟩:=hgr.in1 (Below.refl _ _) j hjn
        have HST:Hid (∀z,(z=X.getD j 0\/(z∈X.take j\/z∈chT l sw cs on k))↔(z∈X.take (j+1)\/z∈chT l sw cs on k)):=fun z=>by rw[zps hjn,or_assoc]
        obtain⟨z,hz⟩:∃z,X.getD j 0=z:=⟨_,rfl⟩
        rw[hz]at d0 hI HST
        have i3:(0:Int)<=(j:Int):=by omega
        have i4:(j:Int)<(X.length:Int):=by omega
        have hnn:N+j<=1000000000000:=by omega
        have hsw:w.heap.size<=wr.heap.size:=hB.size
        clear hz hgr
        go_wp2_with (refine zgz 98 103 Tryz.underlying98 rfl _ _ _ rfl g (N+j) _ z _ hI hM hnn rfl rfl rfl ?_)
        intro w5 hM5 hgrow
        have hB5:=hB.grown hgrow hsw (fun q hq=>by cases hq;have:=HG.out;omega)
        have HG5:Hid (Gi bs w5 (.slice (some ⟨b4,o4,none⟩) X.length c2) X):=HG2.out.grown hgrow (fun q hq e=>by
         cases e
         have:=(HG2.out.lo hq).1
         omega)
        have hM6:Mk w5 g (N+(j+1)) (fun z=>z∈X.take (j+1)\/z∈chT l sw cs on k):=hM5.iff HST.out
        clear hM5 hgrow HST hM hB HG2 d0;go_wp2
        go_roundw
        case rel=>exact⟨j+1,by omega,by go_num,HG5,hM6,hB5⟩
        case measure=>simp[ioF,Go.RowKit.intOf];omega
      . obtain rfl:j=X.length:=by omega
        have g4:¬(X.length:Int)<(X.length:Int):=by omega
        have hM2:Mk wr g (N+X.length) (fun z=>z∈chT l sw cs on (k+1)):=hM.iff (fun z=>by rw[HT.out,zw8,List.take_length])
        clear HG2 hM;go_wp2
        go_roundw
        case rel=>exact⟨k+1,N+X.length,by omega,by go_num,by omega,hM2,hB⟩
        case measure=>simp[ioF,Go.RowKit.intOf];omega
  . have hkl:k=l.length:=by omega
    subst hkl
    have g4:¬(l.length:Int)<(l.length:Int):=by omega
    obtain⟨U,hU,XG,hbU⟩:∃U,U=wr.alloc (.cells #[.map (some g)] 98)/\Bk 98 U wr.heap.size [.map (some g)]/\Below wr.heap.size wr U:=⟨_,rfl,Bk.new _ _ _,bl1 _⟩
    have hke:=zqa (some g) wr
    rw[<-hU]at hke
    replace hB:=hB.trans (hbU.mono hB.size)
    replace hM:=hM.below hbU
    have hso:=zjh wr.heap.size g N _ U XG.lt (XG.cell 0 (by simp)) hM (by omega)
    clear hbU XG hU
    go_wp2_with fail
    refine hke.mono ?_
    rintro e u ⟨rfl,rfl⟩;clear hke
    go_wp2_with fail
    refine hso.mono ?_
    rintro e u2 ⟨hrow,hb3⟩;obtain⟨zs,hz1,hz2,hz3⟩:=hrow.out;obtain⟨v,rfl,hG⟩:=hz1.out
    have hzs:zs=chFt l sw cs on:=zsc hz2 (zw0 ..) hz3
    have HV:Hid (RowF (chFt l sw cs on) w.heap.size u2 (.returned v)):=⟨v,rfl,by rw[<-hzs];exact hG.lowF hB.size⟩
    replace hB:=hB.trans (hb3.mono hB.size)
    clear hso hrow hz1 hz2 hz3 hG hb3 hzs;go_wp2
    go_ret
    exact⟨HV.out,hB⟩
end Go.Proofs.YtgbhidcokobmmaaGreatDoor
namespace Go.Proofs.YtgbhidcokobmmaaGreatDoor
open Go.RowKit Go.Maps
theorem zfo(z:Int)(w:World)(hz:I64 z) :
 Calls Tryz.prog 71 #[.int .i64 z] w fun e w'=>e=.returned (.bool (mvB z))/\w=w':=by
 by_cases h0:5<=z
 rotate_left
 . have HF:Hid (mvB z=false):=by show _=_;unfold mvB;rw[decide_eq_false h0];rfl
   have g0:decide (5<=z)=false:=decide_eq_false h0
   clear h0
   go_enter Tryz.func71,Tryz.ntmps71
   go_wp2
   go_ret
   exact⟨zaa HF.out.symm,rfl⟩
 have g0:decide (5<=z)=true:=decide_eq_true h0
 have HF:Hid (mvB z=decide (z<=7)):=by show _=_;unfold mvB;rw[g0];rfl
 obtain⟨q,hq⟩:∃q,decide (z<=7)=q:=⟨_,rfl⟩
 rw[hq]at HF;clear h0
 go_enter Tryz.func71,Tryz.ntmps71
 go_wp2
 go_ret
 exact⟨zaa HF.out.symm,rfl⟩
def nuB(fi:Int->Int->Bool)(r:Ru):Bool:=fi r.x.1 r.x.2&&(fi r.y.1 r.y.2&&fi r.w.1 r.w.2)
def glB(kd:Int)(r:Ru)(g:Int):Bool:=((decide (r.inn.length=inN kd)&&decide (r.out.length=0))&&(decide (r.ap=0)&&decide (r.lk=0)))&&r.inn.all (gyB g)
def anB(kd:Int)(sk:Bool)(r:Ru):Bool:=!decide (kd=7)||(!sk&&decide (r.w=(0,-1)))
theorem zt5(fi:Int->Int->Bool)(kd:Int)(sk:Bool)(r:Ru)(g:Int):prB fi kd sk r g=(glB kd r g&&(nuB fi r&&anB kd sk r)):=rfl
theorem zsp(ga:Option Addr)(gc:Nat)(ma:Option Addr)(mc:Nat)(s:Sr)(a1:Option Addr)(c1:Nat)(a2:Option Addr)(c2:Nat)(inn out:List Int)(ap lk x1 x2 y1 y2 w1 w2:Int)(w:World)(k2:s.rw.length<=9223372036854775807)
    (hx:I64 x1/\I64 x2) (hy:I64 y1/\I64 y2) (hw:I64 w1/\I64 w2) :
    Calls Tryz.prog 106 #[.agg #[.slice a1 inn.length c1,.slice a2 out.length c2,.int .i64 ap,.int .i64 lk,.int .i64 x1,.int .i64 x2,.int .i64 y1,.int .i64 y2,.int .i64 w1,.int .i64 w2],.agg #[.slice ga s.rg.length gc,.slice ma s.rw.length mc]] w fun e w'=>e=.returned (.bool (nuB (fiS s) ⟨inn,out,ap,lk,(x1,x2),(y1,y2),(w1,w2)⟩))/\Below w.heap.size w w':=by
 obtain⟨W,hW,X1,X2,hbW⟩:∃W,W=(w.alloc (.cells #[.slice a1 inn.length c1,.slice a2 out.length c2,.int .i64 ap,.int .i64 lk,.int .i64 x1,.int .i64 x2,.int .i64 y1,.int .i64 y2,.int .i64 w1,.int .i64 w2] 131)).alloc (.cells #[.slice ga s.rg.length gc,.slice ma s.rw.length mc] 27)/\Bk 131 W w.heap.size (ruV a1 c1 a2 c2 ⟨inn,out,ap,lk,(x1,x2),(y1,y2),(w1,w2)⟩)/\Bk 27 W (w.heap.size+1) [.slice ga s.rg.length gc,.slice ma s.rw.length mc]/\Below w.heap.size w W:=⟨_,rfl,(Bk.new _ _ (ruV a1 c1 a2 c2 ⟨inn,out,ap,lk,(x1,x2),(y1,y2),(w1,w2)⟩)).below (bl1 _),Bk.new1 _ _ _ _,bl2 _ _⟩
 have HF:Hid (nuB (fiS s) ⟨inn,out,ap,lk,(x1,x2),(y1,y2),(w1,w2)⟩=(fiS s x1 x2&&(fiS s y1 y2&&fiS s w1 w2))):=rfl
 have hc1:=fun U=>zd2 ga gc ma mc s x1 x2 U k2 hx.1 hx.2
 have hc2:=fun U=>zd2 ga gc ma mc s y1 y2 U k2 hy.1 hy.2
 have hc3:=fun U=>zd2 ga gc ma mc s w1 w2 U k2 hw.1 hw.2
 generalize nuB (fiS s) ⟨inn,out,ap,lk,(x1,x2),(y1,y2),(w1,w2)⟩=R at HF ⊢
 generalize fiS s x1 x2=A1 at hc1 HF
 generalize fiS s y1 y2=A2 at hc2 HF
 generalize fiS s w1 w2=A3 at hc3 HF
 obtain⟨q0,q1,q2,q3,q4,q5,q6,q7,q8,q9⟩:=X1.ru;obtain⟨z0,z1,-⟩:=X2.two;dsimp only at q0 q1 q2 q3 q4 q5 q6 q7 q8 q9
 have h1:=hc1 W
 clear hc1
 go_enter Tryz.func106,Tryz.ntmps106
 go_upto_region 1 with fail
 rw[<-hW];clear hW
 go_wp2_with fail
 refine h1.mono ?_
 rintro e u ⟨rfl,hbu⟩
 have hbU:=hbW.trans (hbu.mono hbW.size)
 clear h1 q0 q1 q2 q3 q4 q5 q6 q7 q8 q9 z0 z1
 cases A1 with
 | false =>
  rw[Bool.false_and]at HF;clear hc2 hc3;go_wp2
  go_ret
  exact⟨zaa HF.out.symm,hbU⟩
 | true =>
  rw[Bool.true_and]at HF;replace X1:=X1.below hbu;replace X2:=X2.below hbu;obtain⟨q0,q1,q2,q3,q4,q5,q6,q7,q8,q9⟩:=X1.ru;obtain⟨z0,z1,-⟩:=X2.two;dsimp only at q0 q1 q2 q3 q4 q5 q6 q7 q8 q9
  have h2:=hc2 u
  clear hc2
  go_wp2_with fail
  refine h2.mono ?_
  rintro e u2 ⟨rfl,znk⟩
  have zqg:=hbU.trans (znk.mono hbU.size)
  clear h2 q0 q1 q2 q3 q4 q5 q6 q7 q8 q9 z0 z1
  cases A2 with
  | false =>
   rw[Bool.false_and]at HF;clear hc3;go_wp2
   go_ret
   exact⟨zaa HF.out.symm,zqg⟩
  | true =>
   rw[Bool.true_and]at HF;replace X1:=X1.below znk;replace X2:=X2.below znk;obtain⟨q0,q1,q2,q3,q4,q5,q6,q7,q8,q9⟩:=X1.ru;obtain⟨z0,z1,-⟩:=X2.two;dsimp only at q0 q1 q2 q3 q4 q5 q6 q7 q8 q9
   have h3:=hc3 u2
   clear hc3
   go_wp2_with fail
   refine h3.mono ?_
   rintro e u3 ⟨rfl,hbu3⟩
   have hbU3:=zqg.trans (hbu3.mono zqg.size)
   clear h3 q0 q1 q2 q3 q4 q5 q6 q7 q8 q9 z0 z1;go_wp2
   go_ret
   exact⟨zaa HF.out.symm,hbU3⟩
end Go.Proofs.YtgbhidcokobmmaaGreatDoor
namespace Go.Proofs.YtgbhidcokobmmaaGreatDoor
open Go.RowKit Go.Maps
theorem zuv{kd:Int}{r:Ru}{g:Int}(h:¬((r.inn.length=inN kd/\r.out.length=0)/\r.ap=0/\r.lk=0)):glB kd r g=false:=by
 cases hf:glB kd r g with
 | false=>rfl
 | true =>
  unfold glB at hf
  simp only[Bool.and_eq_true,decide_eq_true_iff]at hf
  exact absurd hf.1 h
theorem zqm{kd:Int}{r:Ru}{g:Int}(h:(r.inn.length=inN kd/\r.out.length=0)/\r.ap=0/\r.lk=0):glB kd r g=r.inn.all (gyB g):=by
 unfold glB
 rw[decide_eq_true h.1.1,decide_eq_true h.1.2,decide_eq_true h.2.1,decide_eq_true h.2.2]
 rfl
theorem ztb(kd:Int)(a1:Option Addr)(c1:Nat)(a2:Option Addr)(c2:Nat)(inn out:List Int)(ap lk x1 x2 y1 y2 w1 w2:Int)(g:Int)(w:World)(hi:Ri w a1 c1 inn)(ko:out.length<=9223372036854775807)(hg:I64 g) :
 Calls Tryz.prog 105 #[.int .i64 kd,.agg #[.slice a1 inn.length c1,.slice a2 out.length c2,.int .i64 ap,.int .i64 lk,.int .i64 x1,.int .i64 x2,.int .i64 y1,.int .i64 y2,.int .i64 w1,.int .i64 w2],.int .i64 g] w fun e w'=>e=.returned (.bool (glB kd ⟨inn,out,ap,lk,(x1,x2),(y1,y2),(w1,w2)⟩ g))/\Below w.heap.size w w':=by
 have ki:=hi.lenB
 obtain⟨W,hW,X1,hbW⟩:∃W,W=w.alloc (.cells #[.slice a1 inn.length c1,.slice a2 out.length c2,.int .i64 ap,.int .i64 lk,.int .i64 x1,.int .i64 x2,.int .i64 y1,.int .i64 y2,.int .i64 w1,.int .i64 w2] 131)/\Bk 131 W w.heap.size (ruV a1 c1 a2 c2 ⟨inn,out,ap,lk,(x1,x2),(y1,y2),(w1,w2)⟩)/\Below w.heap.size w W:=⟨_,rfl,Bk.new _ _ (ruV a1 c1 a2 c2 ⟨inn,out,ap,lk,(x1,x2),(y1,y2),(w1,w2)⟩),bl1 _⟩
 have HNO:Hid (¬((inn.length=inN kd/\out.length=0)/\ap=0/\lk=0)->glB kd ⟨inn,out,ap,lk,(x1,x2),(y1,y2),(w1,w2)⟩ g=false):=fun h=>zuv (r:=⟨inn,out,ap,lk,(x1,x2),(y1,y2),(w1,w2)⟩) h
 have HYE:Hid (((inn.length=inN kd/\out.length=0)/\ap=0/\lk=0)->glB kd ⟨inn,out,ap,lk,(x1,x2),(y1,y2),(w1,w2)⟩ g=inn.all (gyB g)):=fun h=>zqm (r:=⟨inn,out,ap,lk,(x1,x2),(y1,y2),(w1,w2)⟩) h
 generalize glB kd ⟨inn,out,ap,lk,(x1,x2),(y1,y2),(w1,w2)⟩ g=R at HNO HYE ⊢
 obtain⟨q0,q1,q2,q3,-⟩:=X1.ru;dsimp only at q0 q1 q2 q3
 have HH:Hid (Ri W a1 c1 inn):=hi.below hbW
 clear hi X1
 go_enter Tryz.func105,Tryz.ntmps105
 go_upto_if 11 with fail
 rw[<-hW];clear hW
 go_cut [7]from 10 to 11 (fun v wx=>v=.int .i64 ((inN kd:Nat):Int)/\wx=W)
 case first =>
  by_cases h5:kd=5
  . have e:inN kd=1:=by unfold inN;rw[if_pos h5]
    subst h5;clear HNO HYE;go_wp2
    go_meet
    exact⟨by rw[e];rfl,rfl⟩
  . have e:inN kd=2:=by unfold inN;rw[if_neg h5]
    have g5:(kd==5)=false:=beq_eq_false_iff_ne.2 h5
    clear HNO HYE h5;go_wp2
    go_meet
    exact⟨by rw[e];rfl,rfl⟩
 case rest =>
 obtain⟨rfl,rfl⟩:=hcut
 have hnn:inN kd<=2:=by unfold inN;split <;> omega
 generalize inN kd=nn at *
 by_cases p1:inn.length=nn
 rotate_left
 . have HF:Hid (R=false):=HNO.out (fun h=>p1 h.1.1)
   have g1:((inn.length:Int) != (nn:Int))=true:=bne_iff_ne.2 (by omega)
   have g1n:(inn.length != nn)=true:=bne_iff_ne.2 p1
   clear HNO HYE p1;go_wp2
   go_ret
   exact⟨zaa HF.out.symm,hbW⟩
 have g1:((inn.length:Int) != (nn:Int))=false:=bne_eq_false_iff_eq.2 (by omega)
 have g1n:(inn.length != nn)=false:=bne_eq_false_iff_eq.2 p1
 by_cases p2:out.length=0
 rotate_left
 . have HF:Hid (R=false):=HNO.out (fun h=>p2 h.1.2)
   have g2:decide ((0:Int)<(out.length:Int))=true:=decide_eq_true (by omega)
   have g2n:decide (0<out.length)=true:=decide_eq_true (by omega)
   clear HNO HYE p1 p2;go_wp2
   go_ret
   exact⟨zaa HF.out.symm,hbW⟩
 have g2:decide ((0:Int)<(out.length:Int))=false:=decide_eq_false (by omega)
 have g2n:decide (0<out.length)=false:=decide_eq_false (by omega)
 by_cases p3:ap=0
 rotate_left
 . have HF:Hid (R=false):=HNO.out (fun h=>p3 h.2.1)
   have g3:(ap != 0)=true:=bne_iff_ne.2 p3
   clear HNO HYE p1 p2 p3;go_wp2
   go_ret
   exact⟨zaa HF.out.symm,hbW⟩
 subst p3
 by_cases p4:lk=0
 rotate_left
 . have HF:Hid (R=false):=HNO.out (fun h=>p4 h.2.2)
   have g3:(lk != 0)=true:=bne_iff_ne.2 p4
   clear HNO HYE p1 p2 p4;go_wp2
   go_ret
   exact⟨zaa HF.out.symm,hbW⟩
 subst p4
 have HRA:Hid (R=inn.all (gyB g)):=HYE.out ⟨⟨p1,p2⟩,rfl,rfl⟩
 clear HNO HYE p1 p2;go_wp2;clear g1 g1n g2 g2n q0 q1 q2 q3 hnn
 go_loopw [36] (fun i wr=>∃k:Nat,k<=inn.length/\i=.int .i64 k/\Hid (∀j,j<k->gyB g (inn.getD j 0)=true)/\wr=wc) (fun i _=>inn.length-(intOf i).toNat)
 case atStart=>exact⟨0,Nat.zero_le _,rfl,(fun j hj=>by omega),rfl⟩
 case round =>
  obtain⟨k,hk,rfl,HOK,rfl⟩:=hrel
  by_cases hkn:k<inn.length
  . obtain⟨b,off,rfl,hb,c0⟩:=HH.out.at (Below.refl _ _) k hkn
    have zav:Hid (gyB g (inn.getD k 0)=false->inn.all (gyB g)=false):=zmi hkn
    obtain⟨x,hx⟩:∃x,inn.getD k 0=x:=⟨_,rfl⟩
    have HXX:Hid (inn.getD k 0=x):=hx
    rw[hx]at c0 zav;clear hx
    have i1:(0:Int)<=(k:Int):=by omega
    have i2:(k:Int)<(inn.length:Int):=by omega
    by_cases x0:x<0
    . have d0:decide (x<0)=true:=decide_eq_true x0
      have HF:Hid (R=false):=by show _=_;rw[HRA.out];exact zav.out (by unfold gyB;rw[decide_eq_false (by omega)];rfl)
      clear x0 zav HOK;go_wp2
      go_ret
      exact⟨zaa HF.out.symm,hbW⟩
    have d0:decide (x<0)=false:=decide_eq_false x0
    by_cases x1:g<=x
    . have d1:decide (g<=x)=true:=decide_eq_true x1
      have HF:Hid (R=false):=by show _=_;rw[HRA.out];exact zav.out (by unfold gyB;rw[decide_eq_false (show ¬x<g by omega),Bool.and_false])
      clear x0 x1 zav HOK;go_wp2
      go_ret
      exact⟨zaa HF.out.symm,hbW⟩
    have d1:decide (g<=x)=false:=decide_eq_false x1
    have za9:Hid (∀j,j<k+1->gyB g (inn.getD j 0)=true):=fun j hj=>by
     rcases Nat.lt_or_ge j k with h1|h1
     . exact HOK.out j h1
     . rw[show j=k by omega,HXX.out];exact zdg.2 ⟨by omega,by omega⟩
    clear x0 x1 zav HOK HXX;go_wp2
    go_roundw
    case rel=>exact⟨k+1,by omega,by go_num,za9,trivial⟩
    case measure=>simp[intOf];omega
  . have HF:Hid (R=true):=by show _=_;rw[HRA.out];exact zhy (fun j hj=>HOK.out j (by omega))
    have g4:¬(k:Int)<(inn.length:Int):=by omega
    clear HOK;go_wp2
    go_ret
    exact⟨zaa HF.out.symm,hbW⟩
end Go.Proofs.YtgbhidcokobmmaaGreatDoor
namespace Go.Proofs.YtgbhidcokobmmaaGreatDoor
open Go.RowKit Go.Maps
def lfB(fi:Int->Int->Bool)(g:Int)(kd:Int)(sk:Bool)(rs:List Ru):Bool:=decide (rs.length<=40)&&rs.all (fun r=>prB fi kd sk r g)
theorem zt6{fi:Int->Int->Bool}{g:Int}{x:Lk}(h:mvB x.kd=true):plF fi g x=lfB fi g x.kd x.sk x.rs:=by unfold plF lfB;rw[h];rfl
theorem zp6{fi:Int->Int->Bool}{g:Int}{kd:Int}{sk:Bool}{rs:List Ru}{k:Nat}(hk:k<rs.length)(hr:prB fi kd sk (rs.getD k Ru.none) g=false):lfB fi g kd sk rs=false:=by
 unfold lfB
 cases hf:rs.all (fun r=>prB fi kd sk r g) with
 | false=>rw[Bool.and_false]
 | true =>
  rw[List.all_eq_true]at hf
  have:=hf (rs.getD k Ru.none) (by rw[List.getD_eq_getElem?_getD,List.getElem?_eq_getElem hk];exact List.getElem_mem hk)
  rw[hr]at this
  cases this
theorem zp5{fi:Int->Int->Bool}{g:Int}{kd:Int}{sk:Bool}{rs:List Ru}(hl:rs.length<=40)(h:∀k,k<rs.length->prB fi kd sk (rs.getD k Ru.none) g=true):lfB fi g kd sk rs=true:=by
 unfold lfB
 rw[decide_eq_true hl,Bool.true_and,List.all_eq_true]
 intro r hr
 obtain⟨k,hk,e⟩:=List.getElem_of_mem hr
 have:=h k hk
 rw[List.getD_eq_getElem?_getD,List.getElem?_eq_getElem hk,Option.getD_some,e]at this
 exact this
theorem zly{fi:Int->Int->Bool}{g:Int}{kd:Int}{sk:Bool}{rs:List Ru}(hl:40<rs.length):lfB fi g kd sk rs=false:=by unfold lfB;rw[decide_eq_false (show ¬rs.length<=40 by omega)];rfl
theorem zsz(S:Nat->Prop)(kd:Int)(sk:Bool)(ra:Option Addr)(rc:Nat)(rs:List Ru)(ga:Option Addr)(gc:Nat)(ma:Option Addr)(mc:Nat)(s:Sr)(g:Int)(w:World)
    (hk:I64 kd) (hr:Gr RuE S w ra rc rs) (k2:s.rw.length<=9223372036854775807) (hg:I64 g) :
    Calls Tryz.prog 72 #[.agg #[.int .i64 kd,.bool sk,.slice ra rs.length rc],.agg #[.slice ga s.rg.length gc,.slice ma s.rw.length mc],.int .i64 g] w fun e w' =>
     e=.returned (.bool (lfB (fiS s) g kd sk rs))/\Below w.heap.size w w':=by
 have kr:=hr.lenB
 obtain⟨W,hW,X1,X2,hbW⟩:∃W,W=(w.alloc (.cells #[.int .i64 kd,.bool sk,.slice ra rs.length rc] 123)).alloc (.cells #[.slice ga s.rg.length gc,.slice ma s.rw.length mc] 27)/\Bk 123 W w.heap.size [.int .i64 kd,.bool sk,.slice ra rs.length rc]/\Bk 27 W (w.heap.size+1) [.slice ga s.rg.length gc,.slice ma s.rw.length mc]/\Below w.heap.size w W:=⟨_,rfl,(Bk.new _ _ _).below (bl1 _),Bk.new1 _ _ _ _,bl2 _ _⟩
 obtain⟨x0,x1,x2,-⟩:=X1.three
 by_cases hn1:40<rs.length
 . have HF:Hid (lfB (fiS s) g kd sk rs=false):=zly hn1
   have g2:(40:Int)<(rs.length:Int):=by omega
   clear hr X1 X2 hn1
   go_enter Tryz.func72,Tryz.ntmps72
   go_upto_region 1 with fail
   rw[<-hW];clear hW;go_wp2
   go_ret
   exact⟨zaa HF.out.symm,hbW⟩
 have g2:¬(40:Int)<(rs.length:Int):=by omega
 have HR:Hid (Gr RuE S W ra rc rs):=hr.below hbW
 have HX1:Hid (Bk 123 W w.heap.size [.int .i64 kd,.bool sk,.slice ra rs.length rc]):=X1
 have HX2:Hid (Bk 27 W (w.heap.size+1) [.slice ga s.rg.length gc,.slice ma s.rw.length mc]):=X2
 have HBW:Hid (Below w.heap.size w W):=hbW
 obtain⟨R,hR⟩:∃R,lfB (fiS s) g kd sk rs=R:=⟨_,rfl⟩
 have HBD:Hid (∀k,k<rs.length->prB (fiS s) kd sk (rs.getD k Ru.none) g=false->R=false):=fun k hk h=>by rw[<-hR];exact zp6 hk h
 have HYS:Hid ((∀k,k<rs.length->prB (fiS s) kd sk (rs.getD k Ru.none) g=true)->R=true):=fun h=>by rw[<-hR];exact zp5 (show rs.length<=40 by omega) h
 rw[hR];clear hR hn1
 go_enter Tryz.func72,Tryz.ntmps72
 go_upto_region 1 with fail
 rw[<-hW];clear hW hr X1 X2 hbW;go_wp2;clear g2 x0 x1 x2
 go_loopw [16] (fun i wr=>∃k:Nat,k<=rs.length/\i=.int .i64 k/\Hid (∀j,j<k->prB (fiS s) kd sk (rs.getD j Ru.none) g=true)/\Below W.heap.size W wr) (fun i _=>rs.length-(intOf i).toNat)
 case atStart=>exact⟨0,Nat.zero_le _,rfl,(fun j hj=>by omega),Below.refl _ _⟩
 case round =>
  obtain⟨k,hk,rfl,HOK,hB⟩:=hrel
  have hBw:Below w.heap.size w wr:=HBW.out.trans (hB.mono HBW.out.size)
  by_cases hkn:k<rs.length
  . obtain⟨b,off,a1,c1,a2,c2,ea,hb1,hI,hin,hou,d0,d1,d2,d3,d4,d5,d6,d7,d8,d9⟩:=HR.out.ru10 hB k hkn
    obtain⟨r,hrr⟩:∃r,rs.getD k Ru.none=r:=⟨_,rfl⟩
    have HRR:Hid (rs.getD k Ru.none=r):=hrr
    rw[hrr]at hI hin hou d0 d1 d2 d3 d4 d5 d6 d7 d8 d9;clear hrr;obtain⟨inn,out,ap,lk,⟨x1,x2⟩,⟨y1,y2⟩,⟨w1,w2⟩⟩:=r;dsimp only at d0 d1 d2 d3 d4 d5 d6 d7 d8 d9 hin hou;obtain⟨j1,j2,j34,j56,j78⟩:=hI;dsimp only at j1 j2 j34 j56 j78
    have i1:(0:Int)<=(k:Int):=by omega
    have i2:(k:Int)<(rs.length:Int):=by omega
    subst ea
    obtain⟨U,hU,XG,hbU⟩:∃U,U=wr.alloc (.cells #[.slice a1 inn.length c1,.slice a2 out.length c2,.int .i64 ap,.int .i64 lk,.int .i64 x1,.int .i64 x2,.int .i64 y1,.int .i64 y2,.int .i64 w1,.int .i64 w2] 131)/\Bk 131 U wr.heap.size (ruV a1 c1 a2 c2 ⟨inn,out,ap,lk,(x1,x2),(y1,y2),(w1,w2)⟩)/\Below wr.heap.size wr U:=⟨_,rfl,Bk.new _ _ (ruV a1 c1 a2 c2 ⟨inn,out,ap,lk,(x1,x2),(y1,y2),(w1,w2)⟩),bl1 _⟩
    go_upto_region 6 with fail
    rw[<-hU]
    have hWU:=hB.trans (hbU.mono hB.size)
    have hwU:=hBw.trans (hbU.mono hBw.size)
    have X1:=HX1.out.below hWU
    have X2:=HX2.out.below hWU
    have hglf:=ztb kd a1 c1 a2 c2 inn out ap lk x1 x2 y1 y2 w1 w2 g U (hin.below hbU).ri hou.lenB hg
    have hnuf:=fun Z=>zsp ga gc ma mc s a1 c1 a2 c2 inn out ap lk x1 x2 y1 y2 w1 w2 Z k2 j34 j56 j78
    have HE:Hid (prB (fiS s) kd sk ⟨inn,out,ap,lk,(x1,x2),(y1,y2),(w1,w2)⟩ g=(glB kd ⟨inn,out,ap,lk,(x1,x2),(y1,y2),(w1,w2)⟩ g&&(nuB (fiS s) ⟨inn,out,ap,lk,(x1,x2),(y1,y2),(w1,w2)⟩ && anB kd sk ⟨inn,out,ap,lk,(x1,x2),(y1,y2),(w1,w2)⟩))):=zt5 _ _ _ _ _
    have HAN:Hid (∀z,anB kd sk ⟨inn,out,ap,lk,(x1,x2),(y1,y2),(w1,w2)⟩=z->anB kd sk ⟨inn,out,ap,lk,(x1,x2),(y1,y2),(w1,w2)⟩=z):=fun _ h=>h
    generalize glB kd ⟨inn,out,ap,lk,(x1,x2),(y1,y2),(w1,w2)⟩ g=A1 at hglf HE
    generalize nuB (fiS s) ⟨inn,out,ap,lk,(x1,x2),(y1,y2),(w1,w2)⟩=A2 at hnuf HE
    have zav:Hid (prB (fiS s) kd sk ⟨inn,out,ap,lk,(x1,x2),(y1,y2),(w1,w2)⟩ g=false->R=false):=fun h=>HBD.out k hkn (by rw[HRR.out];exact h)
    have za9:Hid (prB (fiS s) kd sk ⟨inn,out,ap,lk,(x1,x2),(y1,y2),(w1,w2)⟩ g=true->∀j,j<k+1->prB (fiS s) kd sk (rs.getD j Ru.none) g=true):=fun h j hj=>by
     rcases Nat.lt_or_ge j k with h1|h1
     . exact HOK.out j h1
     . rw[show j=k by omega,HRR.out];exact h
    clear hU hin hou d0 d1 d2 d3 d4 d5 d6 d7 d8 d9 HRR HOK hbU hB hBw j1 j2 j34 j56 j78;obtain⟨q0,q1,q2,q3,q4,q5,q6,q7,q8,q9⟩:=XG.ru;obtain⟨x0,x1',x2',-⟩:=X1.three;obtain⟨z0,z1,-⟩:=X2.two;dsimp only at q0 q1 q2 q3 q4 q5 q6 q7 q8 q9
    go_wp2_with fail
    refine hglf.mono ?_
    rintro e u ⟨rfl,hbu⟩
    have hWu:=hWU.trans (hbu.mono hWU.size)
    have hwu:=hwU.trans (hbu.mono hwU.size)
    replace X1:=X1.below hbu;replace X2:=X2.below hbu;replace XG:=XG.below hbu;clear hglf hbu q0 q1 q2 q3 q4 q5 q6 q7 q8 q9 x0 x1' x2' z0 z1 hWU hwU
    cases A1 with
    | false =>
     have HF:Hid (R=false):=zav.out (by rw[HE.out];rfl)
     clear hnuf zav za9 HE HAN;go_wp2
     go_ret
     exact⟨zaa HF.out.symm,hwu⟩
    | true =>
    rw[Bool.true_and]at HE;obtain⟨q0,q1,q2,q3,q4,q5,q6,q7,q8,q9⟩:=XG.ru;obtain⟨z0,z1,-⟩:=X2.two;dsimp only at q0 q1 q2 q3 q4 q5 q6 q7 q8 q9
    have hn2:=hnuf u
    clear hnuf
    go_wp2_with fail
    refine hn2.mono ?_
    rintro e u2 ⟨rfl,hbu⟩
    have hWu2:=hWu.trans (hbu.mono hWu.size)
    have hwu2:=hwu.trans (hbu.mono hwu.size)
    replace X1:=X1.below hbu;replace XG:=XG.below hbu;clear hn2 hbu q0 q1 q2 q3 q4 q5 q6 q7 q8 q9 z0 z1 hWu hwu X2
    cases A2 with
    | false =>
     have HF:Hid (R=false):=zav.out (by rw[HE.out];rfl)
     clear zav za9 HE HAN;go_wp2
     go_ret
     exact⟨zaa HF.out.symm,hwu2⟩
    | true =>
    rw[Bool.true_and]at HE;obtain⟨-,-,-,-,-,-,-,-,q8,q9⟩:=XG.ru;obtain⟨x0,x1',-,-⟩:=X1.three;dsimp only at q8 q9
    by_cases h7:kd=7
    rotate_left
    . have ze7:Hid (∀j,j<k+1->prB (fiS s) kd sk (rs.getD j Ru.none) g=true):=za9.out (by rw[HE.out];unfold anB;rw[decide_eq_false h7];rfl)
      have g7:(kd==7)=false:=beq_eq_false_iff_ne.2 h7
      clear zav za9 HE HAN h7;go_wp2;clear q8 q9 x0 x1' g7 X1 XG
      go_roundw
      case rel=>exact⟨k+1,by omega,by go_num,ze7,hWu2⟩
      case measure=>simp[intOf];omega
    . subst h7
      cases sk with
      | true =>
       have HF:Hid (R=false):=zav.out (by rw[HE.out];rfl)
       clear zav za9 HE HAN;go_wp2
       go_ret
       exact⟨zaa HF.out.symm,hwu2⟩
      | false =>
       by_cases e1:w1=0
       rotate_left
       . have HF:Hid (R=false):=zav.out (by rw[HE.out];unfold anB;rw[decide_eq_false (fun h=>e1 (congrArg Prod.fst h))];rfl)
         clear zav za9 HE HAN;go_wp2
         go_ret
         exact⟨zaa HF.out.symm,hwu2⟩
       by_cases e2:w2=-1
       rotate_left
       . have HF:Hid (R=false):=zav.out (by rw[HE.out];unfold anB;rw[decide_eq_false (fun h=>e2 (congrArg Prod.snd h))];rfl)
         clear zav za9 HE HAN;go_wp2
         go_ret
         exact⟨zaa HF.out.symm,hwu2⟩
       subst e1 e2
       have ze7:Hid (∀j,j<k+1->prB (fiS s) 7 false (rs.getD j Ru.none) g=true):=za9.out (by rw[HE.out];rfl)
       clear zav za9 HE HAN;go_wp2;clear q8 q9 x0 x1' X1 XG
       go_roundw
       case rel=>exact⟨k+1,by omega,by go_num,ze7,hWu2⟩
       case measure=>simp[intOf];omega
  . have HF:Hid (R=true):=HYS.out (fun j hj=>HOK.out j (by omega))
    have g4:¬(k:Int)<(rs.length:Int):=by omega
    clear HOK;go_wp2
    go_ret
    exact⟨zaa HF.out.symm,hBw⟩
