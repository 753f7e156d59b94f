import Derived.Test.YtgbhidcokobmmaaGreatDoorZL5
import Derived.Laws.IdiomStrings
import Derived.Lib.BitFns
set_option maxHeartbeats 8000000
set_option maxRecDepth 100000
set_option linter.unusedSimpArgs false
set_option linter.unusedVariables false
namespace Go.Proofs.YtgbhidcokobmmaaGreatDoor
open Go.RowKit Go.Maps
structure LiA(l:List Lk)(ms:List Bool)(k:Int)(L:List Int)(w':World)(e:Ending):Prop where
 out:∃a c,e=.returned (.tuple #[.slice a (liL l ms k L).length c,.int .i64 (liE l ms k L)])/\Gr El.int (fun _=>True) w' a c (liL l ms k L)
theorem LiA.nil{l:List Lk}{ms:List Bool}{k:Int}{L:List Int}{w':World}{e:Int}(h:liL l ms k L=[]/\liE l ms k L=e):LiA l ms k L w' (.returned (.tuple #[.slice none 0 0,.int .i64 e])):=by
 refine⟨none,0,?_,?_⟩
 . rw[h.1,h.2];rfl
 . rw[h.1];exact Gr.nil _ _ _ _ _ (Nat.zero_le _) (fun _=>rfl)
theorem LiA.yes{l:List Lk}{ms:List Bool}{k:Int}{L X:List Int}{w':World}(h:liL l ms k L=X/\liE l ms k L=0){a:Option Addr}{c:Nat}(hg:Gr El.int (fun _=>True) w' a c X):LiA l ms k L w' (.returned (.tuple #[.slice a X.length c,.int .i64 0])):=by
 refine⟨a,c,?_,?_⟩
 . rw[h.1,h.2]
 . rw[h.1];exact hg
theorem zuj{l:List Lk}{ms:List Bool}{k:Int}{L:List Int}(h:foU l 65536=false):liL l ms k L=[]/\liE l ms k L=1:=by unfold liL liE;rw[h];exact⟨rfl,rfl⟩
theorem zp3{l:List Lk}{ms:List Bool}{k:Int}{L:List Int}(h:foU l 65536=true)(h1:100<L.length):liL l ms k L=[]/\liE l ms k L=3:=by unfold liL liE;rw[h,if_pos rfl,if_pos rfl,if_pos h1,if_pos h1];exact⟨rfl,rfl⟩
theorem zj9{l:List Lk}{ms:List Bool}{k:Int}{L:List Int}(h:foU l 65536=true)(h1:¬100<L.length)(h2:¬(0<=k/\k<(l.length:Int))):liL l ms k L=[]/\liE l ms k L=5:=by unfold liL liE;rw[h,if_pos rfl,if_pos rfl,if_neg h1,if_neg h1,if_neg h2,if_neg h2];exact⟨rfl,rfl⟩
theorem zlw{l:List Lk}{ms:List Bool}{k:Nat}{L:List Int}(h:foU l 65536=true)(h1:¬100<L.length)(h2:k<l.length)(h3:puB (l.getD k Lk.none).kd=false):liL l ms (k:Int) L=L/\liE l ms (k:Int) L=0:=by
 unfold liL liE
 rw[h,if_pos rfl,if_pos rfl,if_neg h1,if_neg h1,if_pos (show 0<=(k:Int)/\(k:Int)<(l.length:Int) from⟨by omega,by omega⟩),if_pos (show 0<=(k:Int)/\(k:Int)<(l.length:Int) from⟨by omega,by omega⟩),Int.toNat_natCast,h3]
 exact⟨rfl,rfl⟩
theorem zlv{l:List Lk}{ms:List Bool}{k:Nat}{L:List Int}(h:foU l 65536=true)(h1:¬100<L.length)(h2:k<l.length)(h3:puB (l.getD k Lk.none).kd=true)(h4:liQ l ms k L 0=none):liL l ms (k:Int) L=[]/\liE l ms (k:Int) L=3:=by
 unfold liL liE
 rw[h,if_pos rfl,if_pos rfl,if_neg h1,if_neg h1,if_pos (show 0<=(k:Int)/\(k:Int)<(l.length:Int) from⟨by omega,by omega⟩),if_pos (show 0<=(k:Int)/\(k:Int)<(l.length:Int) from⟨by omega,by omega⟩),Int.toNat_natCast,h3,h4]
 exact⟨rfl,rfl⟩
theorem zgi{l:List Lk}{ms:List Bool}{k:Nat}{L X:List Int}(h:foU l 65536=true)(h1:¬100<L.length)(h2:k<l.length)(h3:puB (l.getD k Lk.none).kd=true)(h4:liQ l ms k L 0=some X):liL l ms (k:Int) L=X/\liE l ms (k:Int) L=0:=by
 unfold liL liE
 rw[h,if_pos rfl,if_pos rfl,if_neg h1,if_neg h1,if_pos (show 0<=(k:Int)/\(k:Int)<(l.length:Int) from⟨by omega,by omega⟩),if_pos (show 0<=(k:Int)/\(k:Int)<(l.length:Int) from⟨by omega,by omega⟩),Int.toNat_natCast,h3,h4]
 exact⟨rfl,rfl⟩
def slLn:Value->Int
 | .slice _ n _=>(n:Int)
 | _=>0
theorem zbk(a:Option Addr)(n c:Nat):slLn (.slice a n c)=(n:Int):=rfl
theorem go_no{l:List Lk}{ms:List Bool}{k:Nat}{X:List Int}{i:Int}(h:duB l ms 7 k X i=false):goO l ms k X i=i+1:=by unfold goO;rw[if_pos (.inl h)]
theorem go_same{l:List Lk}{ms:List Bool}{k:Nat}{X:List Int}{i:Int}(h:duO l ms 7 k X i=i)(h2:X.length<=(duL l ms 7 k X i).length):goO l ms k X i=i+1:=by unfold goO;rw[if_pos (.inr ⟨h,h2⟩)]
theorem go_on{l:List Lk}{ms:List Bool}{k:Nat}{X:List Int}{i:Int}(h:duB l ms 7 k X i=true)(h2:¬(duO l ms 7 k X i=i/\X.length<=(duL l ms 7 k X i).length)):goO l ms k X i=duO l ms 7 k X i:=by
 unfold goO
 rw[if_neg (fun h3=>by
  rcases h3 with h3|h3
  . rw[h]at h3;cases h3
  . exact h2 h3)]
theorem znt(l:List Lk)(ms:List Bool)(Sl Sm S:Nat->Prop)(la:Option Addr)(lc:Nat)(mb:Option Addr)(mc:Nat)(k:Int)(a:Option Addr)(ca:Nat)(L:List Int)(w:World)
    (hl:Gr LkE Sl w la lc l) (hms:Gr El.bool Sm w mb mc ms) (hL:Gr El.int S w a ca L) (hk:I64 k) (hle:L.length<=200) (hT:Spn w) :
    Calls Tryz.prog 56 #[.slice la l.length lc,.int .i64 k,.slice mb ms.length mc,.slice a L.length ca] w fun e w'=>LiA l ms k L w' e/\Below w.heap.size w w':=by
 have kl:=hL.lenB
 have kll:=hl.lenB
 have hfo:=zgq Sl la lc l 65536 w hl ⟨by omega,by omega⟩ hT
 cases hf:foU l 65536 with
 | false =>
  rw[hf]at hfo
  have HF:Hid (∀U,LiA l ms k L U (.returned (.tuple #[.slice none 0 0,.int .i64 1]))):=fun U=>LiA.nil (zuj hf)
  clear hl hms hL hT hf
  go_enter Tryz.func56,Tryz.ntmps56
  go_wp2_with fail
  refine hfo.mono ?_
  rintro e u ⟨rfl,hbu⟩;clear hfo;go_wp2
  go_ret2
  exact⟨HF.out _,hbu⟩
 | true =>
 rw[hf]at hfo
 by_cases h1:100<L.length
 . have HF:Hid (∀U,LiA l ms k L U (.returned (.tuple #[.slice none 0 0,.int .i64 3]))):=fun U=>LiA.nil (zp3 hf h1)
   have g1:(100:Int)<(L.length:Int):=by omega
   have d1:decide ((100:Int)<(L.length:Int))=true:=decide_eq_true g1
   clear hl hms hL hT hf h1 g1
   go_enter Tryz.func56,Tryz.ntmps56
   go_wp2_with fail
   refine hfo.mono ?_
   rintro e u ⟨rfl,hbu⟩;clear hfo;go_wp2
   go_ret2
   exact⟨HF.out _,hbu⟩
 have d1:decide ((100:Int)<(L.length:Int))=false:=decide_eq_false (by omega)
 by_cases h2:0<=k/\k<(l.length:Int)
 rotate_left
 . have HF:Hid (∀U,LiA l ms k L U (.returned (.tuple #[.slice none 0 0,.int .i64 5]))):=fun U=>LiA.nil (zj9 hf h1 h2)
   have hlk:=fun U=>zef la l.length lc k U hk kll
   rw[zka h2]at hlk;clear hl hms hL hT hf h1 h2
   go_enter Tryz.func56,Tryz.ntmps56
   go_wp2_with fail
   refine hfo.mono ?_
   rintro e u ⟨rfl,hbu⟩;clear hfo
   replace hlk:=hlk u
   go_wp2_with fail
   refine hlk.mono ?_
   rintro e u2 ⟨rfl,rfl⟩;clear hlk;go_wp2
   go_ret2
   exact⟨HF.out _,hbu⟩
 have hlk:=fun U=>zef la l.length lc k U hk kll
 rw[ze3.2 h2]at hlk;obtain⟨i1,i2⟩:=h2
 obtain⟨q,rfl⟩:∃q:Nat,k=(q:Int):=⟨k.toNat,by omega⟩
 have hq:q<l.length:=by omega
 have HL:Hid (Gr LkE Sl w la lc l):=hl
 obtain⟨lb,lo,ra,rc,rfl,hkd,hall⟩:=hl.lkAll q hq
 have HKC:Hid (∀u,Below w.heap.size w u->u.cell? ⟨lb,lo+q*3,none⟩=some (.int .i64 (l.getD q Lk.none).kd)):=fun u hu=>(hall u hu).2.1
 have HOT:Hid (puB (l.getD q Lk.none).kd=false->liL l ms (q:Int) L=L/\liE l ms (q:Int) L=0):=fun h=>zlw hf h1 hq h
 have HST:Hid (puB (l.getD q Lk.none).kd=true->liQ l ms q L 0=none->liL l ms (q:Int) L=[]/\liE l ms (q:Int) L=3):=fun h h4=>zlv hf h1 hq h h4
 have HTH:Hid (puB (l.getD q Lk.none).kd=true->∀X,liQ l ms q L 0=some X->liL l ms (q:Int) L=X/\liE l ms (q:Int) L=0):=fun h X h4=>zgi hf h1 hq h h4
 have HGL:Hid (puB (l.getD q Lk.none).kd=true->∀(X:List Int) (i:Int),0<=i->i<(X.length:Int)->i<=goO l ms q X i/\goO l ms q X i<=(X.length:Int)+8/\((duL l ms 7 q X i).length:Int)-goO l ms q X i<(X.length:Int)-i/\(duL l ms 7 q X i).length<=X.length+7):=fun h X i h0 h3=>go_less (ms:=ms) hf hq h h0 h3
 have HON:Hid (puB (l.getD q Lk.none).kd=true->∀(X:List Int) (i:Int),0<=i->i<(X.length:Int)->¬100<(duL l ms 7 q X i).length->liQ l ms q X i=liQ l ms q (duL l ms 7 q X i) (goO l ms q X i)):=fun h X i h0 h3 h4=>zuk hf hq h h0 h3 h4
 have HDO:Hid (puB (l.getD q Lk.none).kd=true->∀U,Below w.heap.size w U->∀xa xc (X:List Int) (i:Int),Gr El.int (fun _=>True) U xa xc X->X.length<=100->0<=i->i<(X.length:Int)->Calls Tryz.prog 92 #[.agg #[.slice (some ⟨lb,lo,none⟩) l.length lc,.slice mb ms.length mc],.int .i64 q,.slice xa X.length xc,.int .i64 i,.int .i64 1] U fun e w'=>DuA l ms 7 q X i w' e/\Below U.heap.size U w'):=fun hp U hU xa xc X i hX hXl h0 h3 =>
  zzi l ms 65536 hf 7 (by omega) Sl Sm (fun _=>True) (some ⟨lb,lo,none⟩) lc mb mc q xa xc X i U (HL.out.below hU) (hms.below hU) hX hq hp (zal.2 ⟨h0,h3⟩) (by omega)
 have hcl:=fun U (hU:Below w.heap.size w U)=>zbj S a ca L U (hL.below hU) (by omega)
 obtain⟨kd,hkk⟩:∃kd,(l.getD q Lk.none).kd=kd:=⟨_,rfl⟩
 rw[hkk]at HKC hkd HOT HST HTH HGL HON HDO
 have hpu:=fun U=>zg9 kd U hkd
 have h1':L.length<=100:=by omega
 clear hkk hall hl hms hL hT hf h1 HL
 go_enter Tryz.func56,Tryz.ntmps56
 go_wp2_with fail
 refine hfo.mono ?_
 rintro e u ⟨rfl,hbu⟩;clear hfo
 replace hlk:=hlk u
 go_wp2_with fail
 refine hlk.mono ?_
 rintro e u2 ⟨rfl,rfl⟩
 replace hcl:=hcl _ hbu
 clear hlk
 go_wp2_with fail
 refine hcl.mono ?_
 rintro e u3 ⟨⟨v,rfl,hv⟩,hb3⟩
 obtain⟨va,vc,rfl,hvg⟩:=hv.io.grL (S:=fun _=>True)
 have hw3:=hbu.trans (hb3.mono hbu.size)
 have c0:=HKC.out u3 hw3
 replace hpu:=hpu u3
 clear hcl hv
 cases hp:puB kd with
 | false =>
  rw[hp]at hpu
  have HV:Hid (LiA l ms (q:Int) L u3 (.returned (.tuple #[.slice va L.length vc,.int .i64 0]))):=LiA.yes (HOT.out hp) hvg
  clear HOT HST HTH HGL HON HDO hp hvg
  go_wp2_with fail
  refine hpu.mono ?_
  rintro e u4 ⟨rfl,rfl⟩;clear hpu c0;go_wp2
  go_ret2
  exact⟨HV.out,hw3⟩
 | true =>
  rw[hp]at hpu
  have zxg:Hid (liQ l ms q L 0=none->∀U,LiA l ms (q:Int) L U (.returned (.tuple #[.slice none 0 0,.int .i64 3]))):=fun h U=>LiA.nil (HST.out hp h)
  have HTH2:Hid (∀X,liQ l ms q L 0=some X->∀U xa xc,Gr El.int (fun _=>True) U xa xc X->LiA l ms (q:Int) L U (.returned (.tuple #[.slice xa X.length xc,.int .i64 0]))):=fun X h U xa xc hX=>LiA.yes (HTH.out hp X h) hX
  have zrv:=HGL.out hp
  have HGL:Hid (∀(X:List Int) (i:Int),0<=i->i<(X.length:Int)->i<=goO l ms q X i/\goO l ms q X i<=(X.length:Int)+8/\((duL l ms 7 q X i).length:Int)-goO l ms q X i<(X.length:Int)-i/\(duL l ms 7 q X i).length<=X.length+7):=zrv
  have zgv:=HON.out hp
  have HON:Hid (∀(X:List Int) (i:Int),0<=i->i<(X.length:Int)->¬100<(duL l ms 7 q X i).length->liQ l ms q X i=liQ l ms q (duL l ms 7 q X i) (goO l ms q X i)):=zgv
  have zu5:=HDO.out hp
  have HDO:Hid (∀U,Below w.heap.size w U->∀xa xc (X:List Int) (i:Int),Gr El.int (fun _=>True) U xa xc X->X.length<=100->0<=i->i<(X.length:Int)->Calls Tryz.prog 92 #[.agg #[.slice (some ⟨lb,lo,none⟩) l.length lc,.slice mb ms.length mc],.int .i64 q,.slice xa X.length xc,.int .i64 i,.int .i64 1] U fun e w'=>DuA l ms 7 q X i w' e/\Below U.heap.size U w'):=zu5
  obtain⟨V,hV,XV,hbV⟩:∃V,V=u3.alloc (.cells #[.slice (some ⟨lb,lo,none⟩) l.length lc,.slice mb ms.length mc] 152)/\Bk 152 V u3.heap.size [.slice (some ⟨lb,lo,none⟩) l.length lc,.slice mb ms.length mc]/\Below u3.heap.size u3 V:=⟨_,rfl,Bk.new _ _ _,bl1 _⟩
  have hwV:=hw3.trans (hbV.mono hw3.size)
  have hvg2:=hvg.below hbV
  have HXV:Hid (Bk 152 V u3.heap.size [.slice (some ⟨lb,lo,none⟩) l.length lc,.slice mb ms.length mc]):=XV
  have HWV:Hid (Below w.heap.size w V):=hwV
  clear HOT HST HTH hp hvg zrv zgv zu5 XV hwV
  go_wp2_with fail
  refine hpu.mono ?_
  rintro e u4 ⟨rfl,rfl⟩;clear hpu c0 hbV
  go_upto_region 11 with fail
  rw[<-hV];clear hV;go_wp2
  go_loopw [3,11] (fun vl vi wr=>∃(X:List Int) (xa:Option Addr) (xc:Nat) (i:Int),vl=.slice xa X.length xc/\vi=.int .i64 i/\Hid (Gr El.int (fun _=>True) wr xa xc X)/\X.length<=100/\0<=i/\i<=1000/\Hid (liQ l ms q L 0=liQ l ms q X i)/\Below V.heap.size V wr) (fun vl vi _=>(slLn vl-intOf vi).toNat)
  case atStart=>exact⟨L,va,vc,0,rfl,rfl,hvg2,h1',by omega,by omega,rfl,Below.refl _ _⟩
  case round =>
   clear hvg2;obtain⟨X,xa,xc,i,rfl,rfl,HG,hX,h0,h9,HQ,hB⟩:=hrel
   have hwr:=HWV.out.trans (hB.mono HWV.out.size)
   by_cases hin:i<(X.length:Int)
   . obtain⟨y0,y1,-⟩:=(HXV.out.below hB).two
     have hdo:=HDO.out wr hwr xa xc X i HG.out hX h0 hin
     obtain⟨m1,m2,m3,m4⟩:=HGL.out X i h0 hin
     have HLG:Hid (100<(duL l ms 7 q X i).length->liQ l ms q L 0=none):=fun h=>by rw[HQ.out];exact zlx h0 hin h
     have HNX:Hid (¬100<(duL l ms 7 q X i).length->liQ l ms q L 0=liQ l ms q (duL l ms 7 q X i) (goO l ms q X i)):=fun h=>by rw[HQ.out];exact HON.out X i h0 hin h
     have HN:Hid (duB l ms 7 q X i=false->goO l ms q X i=i+1):=go_no
     have HS:Hid (duO l ms 7 q X i=i->X.length<=(duL l ms 7 q X i).length->goO l ms q X i=i+1):=go_same
     have HO:Hid (duB l ms 7 q X i=true->¬(duO l ms 7 q X i=i/\X.length<=(duL l ms 7 q X i).length)->goO l ms q X i=duO l ms 7 q X i):=go_on
     go_wp2_with fail
     refine hdo.mono ?_
     rintro e u5 ⟨⟨oa,oc,rfl,hgr⟩,hb5⟩
     have hV5:=hB.trans (hb5.mono hB.size)
     have hw5:=hwr.trans (hb5.mono hwr.size)
     generalize duL l ms 7 q X i=o at hgr m3 m4 HLG HNX HS HO
     generalize duO l ms 7 q X i=on at HS HO
     generalize duB l ms 7 q X i=od at HN HO
     generalize goO l ms q X i=gg at m1 m2 m3 HNX HN HS HO
     have HGR:Hid (Gr El.int (fun _=>True) u5 oa oc o):=hgr
     have HGG:Hid (i<=gg/\gg<=(X.length:Int)+8/\(o.length:Int)-gg<(X.length:Int)-i/\i<(X.length:Int)):=⟨m1,m2,m3,hin⟩
     clear hdo hgr HG HQ y0 y1 m1 m2 m3 hb5 hB
     by_cases hlo:100<o.length
     . have d2:(100:Int)<(o.length:Int):=by omega
       have HV:=zxg.out (HLG.out hlo) u5
       have HV2:Hid (LiA l ms (q:Int) L u5 (.returned (.tuple #[.slice none 0 0,.int .i64 3]))):=HV
       clear HV HLG HNX HN HS HO hlo hin HGG;go_wp2
       go_ret2
       exact⟨HV2.out,hw5⟩
     have d2:¬(100:Int)<(o.length:Int):=by omega
     have ztw:Hid (liQ l ms q L 0=liQ l ms q o gg):=HNX.out hlo
     clear HLG HNX
     cases od with
     | false =>
      have HE:Hid (gg=i+1):=HN.out rfl
      clear HN HS HO hin hlo;go_wp2
      go_roundw
      case rel=>exact⟨o,oa,oc,i+1,rfl,rfl,HGR,by omega,by omega,by have:=HGG.out;have:=HE.out;omega,by rw[<-HE.out];exact ztw,hV5⟩
      case measure=>have:=HGG.out;have:=HE.out;simp only[zbk,intOf];omega
     | true =>
      by_cases hoi:on=i
      . subst hoi
        by_cases hll:X.length<=o.length
        . have HE:Hid (gg=on+1):=HS.out rfl hll
          have d3:decide ((X.length:Int)<=(o.length:Int))=true:=decide_eq_true (by omega)
          have d3n:decide (X.length<=o.length)=true:=decide_eq_true hll
          clear HN HS HO hin hlo hll;go_wp2
          go_roundw
          case rel=>exact⟨o,oa,oc,on+1,rfl,rfl,HGR,by omega,by omega,by have:=HGG.out;have:=HE.out;omega,by rw[<-HE.out];exact ztw,hV5⟩
          case measure=>have:=HGG.out;have:=HE.out;simp only[zbk,intOf];omega
        . have HE:Hid (gg=on):=HO.out rfl (fun h=>hll h.2)
          have d3:decide ((X.length:Int)<=(o.length:Int))=false:=decide_eq_false (by omega)
          have d3n:decide (X.length<=o.length)=false:=decide_eq_false hll
          clear HN HS HO hin hlo hll;go_wp2
          go_roundw
          case rel=>exact⟨o,oa,oc,on,rfl,rfl,HGR,by omega,by omega,by have:=HGG.out;have:=HE.out;omega,by rw[<-HE.out];exact ztw,hV5⟩
          case measure=>have:=HGG.out;have:=HE.out;simp only[zbk,intOf];omega
      . have HE:Hid (gg=on):=HO.out rfl (fun h=>hoi h.1)
        have d3:(on==i)=false:=beq_eq_false_iff_ne.2 hoi
        clear HN HS HO hin hlo hoi;go_wp2
        go_roundw
        case rel=>exact⟨o,oa,oc,on,rfl,rfl,HGR,by omega,by have:=HGG.out;have:=HE.out;omega,by have:=HGG.out;have:=HE.out;omega,by rw[<-HE.out];exact ztw,hV5⟩
        case measure=>have:=HGG.out;have:=HE.out;simp only[zbk,intOf];omega
   . have HV:=HTH2.out X (by rw[HQ.out];exact zp4 h0 hin) wr xa xc HG.out
     have HV2:Hid (LiA l ms (q:Int) L wr (.returned (.tuple #[.slice xa X.length xc,.int .i64 0]))):=HV
     clear HV HQ HG;go_wp2
     go_ret2
     exact⟨HV2.out,hwr⟩
def alP(l:List Lk)(ms:List Bool):List Int->List Int->Int×List Int
 | [],X=>(0,X)
 | k::t,X=>if liE l ms k X=0 then alP l ms t (liL l ms k X)else (liE l ms k X,[])
theorem zu3{l:List Lk}{ms:List Bool}{ks X:List Int}{r:Nat}(hr:r<ks.length)(h:liE l ms (ks.getD r 0) X=0):alP l ms (ks.drop r) X=alP l ms (ks.drop (r+1)) (liL l ms (ks.getD r 0) X):=by
 rw[List.getD_eq_getElem?_getD,List.getElem?_eq_getElem hr,Option.getD_some]at h ⊢
 rw[List.drop_eq_getElem_cons hr,alP,if_pos h]
theorem zrk{l:List Lk}{ms:List Bool}{ks X:List Int}{r:Nat}(hr:r<ks.length)(h:¬liE l ms (ks.getD r 0) X=0):alP l ms (ks.drop r) X=(liE l ms (ks.getD r 0) X,[]):=by
 rw[List.getD_eq_getElem?_getD,List.getElem?_eq_getElem hr,Option.getD_some]at h ⊢
 rw[List.drop_eq_getElem_cons hr,alP,if_neg h]
theorem zrl{l:List Lk}{ms:List Bool}{ks X:List Int}:alP l ms (ks.drop ks.length) X=(0,X):=by rw[List.drop_length];rfl
theorem zyi{l:List Lk}{ms:List Bool}{k:Int}{L:List Int}(h:liE l ms k L=0):L.length<=100:=by
 unfold liE at h
 cases hf:foU l 65536 with
 | false=>rw[hf]at h;cases h
 | true =>
  rw[hf,if_pos rfl]at h
  by_cases h1:100<L.length
  . rw[if_pos h1]at h;cases h
  . omega
theorem zyj{l:List Lk}{ms:List Bool}{k:Nat}:∀(n:Nat) (L:List Int) (i:Int) (X:List Int),L.length<=100->liF l ms k n L i=some X->X.length<=100:=by
 intro n
 induction n with
 | zero=>intro L i X hL h;rw[liF]at h;injection h with h;rw[<-h];exact hL
 | succ n ih =>
  intro L i X hL h
  rw[liF]at h
  by_cases hi:i<(L.length:Int)
  . rw[if_pos hi]at h
    by_cases hl:100<(duL l ms 7 k L i).length
    . rw[if_pos hl]at h;cases h
    . rw[if_neg hl]at h
      exact ih _ _ X (by omega) h
  . rw[if_neg hi]at h;injection h with h;rw[<-h];exact hL
theorem li_le{l:List Lk}{ms:List Bool}{k:Int}{L:List Int}(h:liE l ms k L=0):(liL l ms k L).length<=100:=by
 have hL:=zyi h
 unfold liL
 split
 . split
   . simp
   . split
     . split
       . cases hq:liQ l ms k.toNat L 0 with
         | none=>simp
         | some X=>exact zyj _ _ _ X hL hq
       . exact hL
     . simp
 . simp
structure AlA(l:List Lk)(ms:List Bool)(ks L:List Int)(w':World)(e:Ending):Prop where
 out:∃a c,e=.returned (.tuple #[.slice a (alP l ms ks L).2.length c,.int .i64 (alP l ms ks L).1])/\Gr El.int (fun _=>True) w' a c (alP l ms ks L).2
theorem AlA.yes{l:List Lk}{ms:List Bool}{ks L X:List Int}{e:Int}{w':World}(h:alP l ms ks L=(e,X)){a:Option Addr}{c:Nat}(hg:Gr El.int (fun _=>True) w' a c X):AlA l ms ks L w' (.returned (.tuple #[.slice a X.length c,.int .i64 e])):=by
 refine⟨a,c,?_,?_⟩
 . rw[h]
 . rw[h];exact hg
theorem zrd(l:List Lk)(ms:List Bool)(Sl Sm S:Nat->Prop)(la:Option Addr)(lc:Nat)(mb:Option Addr)(mc:Nat)(ka:Option Addr)(kc:Nat)(ks:List Int)(a:Option Addr)(ca:Nat)(L:List Int)(w:World)
    (hl:Gr LkE Sl w la lc l) (hms:Gr El.bool Sm w mb mc ms) (hk:Ri w ka kc ks) (hL:Gr El.int S w a ca L) (hle:L.length<=200) (hT:Spn w) :
    Calls Tryz.prog 27 #[.slice la l.length lc,.slice ka ks.length kc,.slice mb ms.length mc,.slice a L.length ca] w fun e w'=>AlA l ms ks L w' e/\Below w.heap.size w w':=by
 have kl:=hL.lenB
 have kk:=hk.lenB
 have hcl:=zbj S a ca L w hL (by omega)
 have HK:Hid (Ri w ka kc ks):=hk
 have HLI:Hid (∀U,Below w.heap.size w U->∀(k:Int) xa xc X,I64 k->Gr El.int (fun _=>True) U xa xc X->X.length<=200->Calls Tryz.prog 56 #[.slice la l.length lc,.int .i64 k,.slice mb ms.length mc,.slice xa X.length xc] U fun e w'=>LiA l ms k X w' e/\Below U.heap.size U w'):=fun U hU k xa xc X hk hX hXl=>znt l ms Sl Sm (fun _=>True) la lc mb mc k xa xc X U (hl.below hU) (hms.below hU) hX hk hXl (hT.below hU)
 clear hl hms hk hL hT
 go_enter Tryz.func27,Tryz.ntmps27
 go_wp2_with fail
 refine hcl.mono ?_
 rintro e u ⟨⟨v,rfl,hv⟩,hbu⟩
 obtain⟨va,vc,rfl,hvg⟩:=hv.io.grL (S:=fun _=>True)
 clear hcl hv;go_wp2
 go_loopw [3,18] (fun vl vi wr=>∃(X:List Int) (xa:Option Addr) (xc:Nat) (r:Nat),vl=.slice xa X.length xc/\vi=.int .i64 r/\r<=ks.length/\Hid (Gr El.int (fun _=>True) wr xa xc X)/\X.length<=200/\Hid (alP l ms ks L=alP l ms (ks.drop r) X)/\Below w.heap.size w wr) (fun _ vi _=>ks.length-(intOf vi).toNat)
 case atStart=>exact⟨L,va,vc,0,rfl,rfl,Nat.zero_le _,hvg,hle,rfl,hbu⟩
 case round =>
  clear hvg hbu;obtain⟨X,xa,xc,r,rfl,rfl,hr,HG,hX,HQ,hB⟩:=hrel
  by_cases hrn:r<ks.length
  . obtain⟨kb,ko,rfl,hkb,c0⟩:=HK.out.at hB r hrn
    have hkr:=HK.out.i64 hrn
    have HON:Hid (liE l ms (ks.getD r 0) X=0->alP l ms ks L=alP l ms (ks.drop (r+1)) (liL l ms (ks.getD r 0) X)):=fun h=>by rw[HQ.out,zu3 hrn h]
    have HOF:Hid (¬liE l ms (ks.getD r 0) X=0->alP l ms ks L=(liE l ms (ks.getD r 0) X,[])):=fun h=>by rw[HQ.out,zrk hrn h]
    have HLE:Hid (liE l ms (ks.getD r 0) X=0->(liL l ms (ks.getD r 0) X).length<=100):=li_le
    have hli:=HLI.out wr hB (ks.getD r 0) xa xc X hkr HG.out hX
    obtain⟨k,hk⟩:∃k,ks.getD r 0=k:=⟨_,rfl⟩
    rw[hk]at hli HON HOF HLE c0
    have i1:(0:Int)<=(r:Int):=by omega
    have i2:(r:Int)<(ks.length:Int):=by omega
    clear HG HQ hk hkr
    go_wp2_with fail
    refine hli.mono ?_
    rintro e u2 ⟨⟨oa,oc,rfl,hgr⟩,hb2⟩
    have zaf:=hB.trans (hb2.mono hB.size)
    generalize liL l ms k X=o at hgr HON HLE
    generalize liE l ms k X=ee at HON HOF HLE
    have HGR:Hid (Gr El.int (fun _=>True) u2 oa oc o):=hgr
    clear hli hgr hb2 c0 hB
    by_cases he:ee=0
    . subst he
      have HQ2:Hid (alP l ms ks L=alP l ms (ks.drop (r+1)) o):=HON.out rfl
      have hol:=HLE.out rfl
      clear HON HOF HLE;go_wp2
      go_roundw
      case rel=>exact⟨o,oa,oc,r+1,rfl,by go_num,by omega,HGR,by omega,HQ2,zaf⟩
      case measure=>simp[intOf];omega
    . have HV:Hid (AlA l ms ks L u2 (.returned (.tuple #[.slice none 0 0,.int .i64 ee]))):=AlA.yes (X:=[]) (HOF.out he) (Gr.nil _ _ _ _ _ (Nat.zero_le _) (fun _=>rfl))
      have g1:(ee != 0)=true:=bne_iff_ne.2 he
      clear HON HOF HLE he;go_wp2
      go_ret2
      exact⟨HV.out,zaf⟩
  . have HV:Hid (AlA l ms ks L wr (.returned (.tuple #[.slice xa X.length xc,.int .i64 0]))):=AlA.yes (by rw[HQ.out,show r=ks.length by omega];exact zrl) HG.out
    have g4:¬(r:Int)<(ks.length:Int):=by omega
    clear HG HQ;go_wp2
    go_ret2
    exact⟨HV.out,hB⟩
abbrev pg (B:Nat):Value:=.pointer (some ⟨B,0,none⟩)
def be2(n:Int):List Nat:=[(n/256%256).toNat,(n%256).toNat]
def be4(n:Int):List Nat:=[(n/16777216%256).toNat,(n/65536%256).toNat,(n/256%256).toNat,(n%256).toNat]
def sb(t:ByteArray):List Nat:=t.data.toList.map UInt8.toNat
