import Derived.Test.YtgbhidcokobmmaaGreatDoorZL27
set_option maxHeartbeats 8000000
set_option maxRecDepth 100000
set_option linter.unusedSimpArgs false
set_option linter.unusedVariables false
namespace Go.Proofs.YtgbhidcokobmmaaGreatDoor
open Go.RowKit Go.Maps
theorem zmp(S S2:Nat->Prop)(a:Option Addr)(ca:Nat)(a':Option Addr)(ca':Nat)(l:List Pd)(w:World)(h1:Gr PdE S w a ca l)(h2:Gr PdE S2 w a' ca' l) :
 Calls Tryz.prog 15 #[.slice a l.length ca,.slice a' l.length ca'] w fun e w'=>e=.returned (.bool true)/\Below w.heap.size w w':=by
 have k1:=h1.lenB
 have g1:((l.length:Int) != (l.length:Int))=false:=by simp
 have HA:Hid (Gr PdE S w a ca l):=h1
 have HB:Hid (Gr PdE S2 w a' ca' l):=h2
 clear h1 h2
 go_enter Tryz.func15,Tryz.ntmps15
 go_wp2;clear g1
 go_loopw [5] (fun i wr=>∃k:Nat,k<=l.length/\i=.int .i64 k/\Below w.heap.size w wr) (fun i _=>l.length-(intOf i).toNat)
 case atStart=>exact⟨0,Nat.zero_le _,rfl,Below.refl _ _⟩
 case round =>
  obtain⟨k,hk,rfl,hnx⟩:=hrel
  by_cases hkn:k<l.length
  . obtain⟨b3,o3,ec,_,_,c0,c1,c2,c3⟩:=HA.out.pd hnx k hkn
    obtain⟨b4,o4,ed,_,_,d0,d1,d2,d3⟩:=HB.out.pd hnx k hkn
    generalize l.getD k Pd.none=t at *
    obtain⟨x,y,z,u⟩:=t;dsimp only at c0 c1 c2 c3 d0 d1 d2 d3;subst ec ed
    have i3:(0:Int)<=(k:Int):=by omega
    have i4:(k:Int)<(l.length:Int):=by omega
    go_wp2_with fail
    go_quiet (fail)
    go_wp2
    go_roundw
    case rel=>exact⟨k+1,by omega,by go_num,below_drewN hnx _⟩
    case measure=>simp[intOf];omega
  . have g1:¬(k:Int)<(l.length:Int):=by omega
    go_wp2
    go_ret
    exact⟨rfl,hnx⟩
def laP(line adv:List Int)(k:Nat):List Pd:=(List.range k).map (fun i=>⟨line.getD i 0,0,0,adv.getD i 0⟩)
theorem zs5(line adv:List Int)(k:Nat):laP line adv (k+1)=laP line adv k++[⟨line.getD k 0,0,0,adv.getD k 0⟩]:=zs6 line adv k
theorem zv9(line adv:List Int)(k:Nat):(laP line adv k).length=k:=by simp[laP]
theorem zwa(line adv:List Int):laP line adv line.length=laL line adv:=rfl
theorem zr5(a:Option Addr)(ca:Nat)(line:List Int)(b:Option Addr)(cb:Nat)(adv:List Int)(w:World)(h:Ri w a ca line)(h2:Ri w b cb adv)(hl:line.length<=1000) :
 Calls Tryz.prog 38 #[.slice a line.length ca,.slice b adv.length cb] w fun e w'=>RowP (laL line adv) w.heap.size w' e/\Below w.heap.size w w':=by
 have ka:=h2.lenB
 have HH:Hid (Ri w a ca line):=h
 have HA:Hid (Ri w b cb adv):=h2
 obtain⟨n,hnn⟩:∃n,line.length=n:=⟨_,rfl⟩
 have HN:Hid (line.length=n):=hnn
 have zcp:Hid (laP line adv n=laL line adv):=by show _=_;rw[<-hnn];exact zwa _ _
 have HLP:Hid (∀k,(laP line adv k).length=k):=zv9 _ _
 have HSC:Hid (∀k,laP line adv (k+1)=laP line adv k++[⟨line.getD k 0,0,0,adv.getD k 0⟩]):=zs5 _ _
 have HZ:Hid (laP line adv 0=[]):=rfl
 rw[hnn]at hl ⊢;rw[<-zcp.out]
 generalize laP line adv=F at HLP HSC HZ ⊢
 clear h h2 hnn zcp
 obtain⟨g,hg⟩:∃g,w.heap.size=g:=⟨_,rfl⟩
 have HG:Hid (w.heap.size=g):=hg
 have HST:Hid (Ln g w (.slice none 0 0) (F 0)):=by show Ln _ _ _ _;rw[HZ.out];exact Gw.nil _ _ _ _ _
 rw[hg];clear hg
 go_enter Tryz.func38,Tryz.ntmps38
 go_wp2
 go_loopw [5,6] (fun vo vi wr=>∃k:Nat,k<=n/\vi=.int .i64 k/\Hid (Ln g wr vo (F k))/\Below w.heap.size w wr) (fun _ vi _=>n-(intOf vi).toNat)
 case atStart=>exact⟨0,Nat.zero_le _,rfl,HST.out,Below.refl _ _⟩
 case round =>
  clear HST HZ;obtain⟨k,hk,rfl,hGw,hB⟩:=hrel;obtain⟨a6,c6,rfl,hgr6,hb6⟩:=hGw.out.slice
  by_cases hkn:k<n
  . obtain⟨b1,off,ea,hb,d0⟩:=HH.out.at hB k (by rw[HN.out];exact hkn)
    have hI:I64 (line.getD k 0):=HH.out.i64 (by rw[HN.out];exact hkn)
    have HS:=HSC.out k
    have HLK:=HLP.out k
    have hIa:I64 (adv.getD k 0):=by
     by_cases hka:k<adv.length
     . exact HA.out.i64 hka
     . rw[List.getD_eq_getElem?_getD,List.getElem?_eq_none (by omega)];exact⟨by decide,by decide⟩
    have hcell:k<adv.length->∃b2 off2,b=some ⟨b2,off2,none⟩/\wr.cell? ⟨b2,off2+k,none⟩=some (.int .i64 (adv.getD k 0)):=fun hka=>by
     obtain⟨b2,off2,e2,_,e0⟩:=HA.out.at hB k hka
     exact⟨b2,off2,e2,e0⟩
    have zng:¬k<adv.length->adv.getD k 0=0:=fun hka=>by rw[List.getD_eq_getElem?_getD,List.getElem?_eq_none (by omega)];rfl
    generalize line.getD k 0=z at *
    generalize adv.getD k 0=y at *
    subst ea
    have i1:(0:Int)<=(k:Int):=by omega
    have i2:(k:Int)<(n:Int):=by omega
    have HS2:Hid (F (k+1)=F k++[⟨z,0,0,y⟩]):=HS
    have HLK2:Hid ((F k).length=k):=HLK
    rw[HLK]at hGw ⊢
    obtain⟨V9,hV9,Y9,hb9⟩:∃V,V=wr.alloc (.cells #[.int .i64 z,.int .i64 0,.int .i64 0,.int .i64 y] 66)/\Bk 66 V wr.heap.size [.int .i64 z,.int .i64 0,.int .i64 0,.int .i64 y]/\Below wr.heap.size wr V:=⟨_,rfl,Bk.new _ _ _,bl1 _⟩
    have hGb:=hGw.out.below hb9
    have zxn:PdE.rep (fun q=>False/\(Value.slice a6 k c6).ownBlock≠some q) V9 [.int .i64 z,.int .i64 0,.int .i64 0,.int .i64 y] ⟨z,0,0,y⟩:=zbq.2 ⟨rfl,hI,⟨by show(-9223372036854775808:Int)<=0;decide,by show(0:Int)<=9223372036854775807;decide⟩,⟨by show(-9223372036854775808:Int)<=0;decide,by show(0:Int)<=9223372036854775807;decide⟩,hIa⟩
    have zni:=Gr.one (E:=PdE) zxn Y9.lt (fun j hj=>Y9.cell j hj)
    have hBb:Below w.heap.size w V9:=hB.trans (hb9.mono hB.size)
    have hbs:g<=V9.heap.size:=by have:=hBb.size;have:=HG.out;omega
    have hll:(F k).length+1<=1000000:=by rw[HLK];omega
    have HLO:Hid (∀q,(Value.slice a6 k c6).ownBlock=some q->w.heap.size<=q):=fun q hq=>by have:=(hGw.out.lo hq).1;have:=HG.out;omega
    clear zxn hGw hgr6 hb6 hb9 HS HLK
    by_cases hka:k<adv.length
    . obtain⟨b2,off2,rfl,e0⟩:=hcell hka
      have i3:(k:Int)<(adv.length:Int):=by omega
      clear hcell zng
      go_wp2_with (at_builtin;rw[<-hV9];refine zab (E:=PdE) 46 66 Tryz.underlying46 zeg rfl (by decide) (by decide) rfl _ _ rfl g (fun _=>False) _ (F k) rfl hGb (some ⟨wr.heap.size,0,none⟩) 1 1 [⟨z,0,0,y⟩] rfl rfl zni hll hbs ?_)
      intro v9 w9 hT9 hgrow _
      rw[<-hV9]at hgrow;rw[<-HS2.out]at hT9
      have HT9:Hid (Ln g w9 v9 (F (k+1))):=hT9
      have hB9:Below w.heap.size w w9:=hBb.grown hgrow hBb.size (fun q hq=>HLO.out q hq)
      clear hT9 hgrow hGb zni hbs hll hBb hV9 Y9 d0 e0 hB;go_wp2
      go_roundw
      case rel=>exact⟨k+1,by omega,by go_num,HT9,hB9⟩
      case measure=>simp[intOf];omega
    . have hy:=zng hka
      subst hy
      have i3:¬(k:Int)<(adv.length:Int):=by omega
      clear hcell zng
      go_wp2_with (at_builtin;rw[<-hV9];refine zab (E:=PdE) 46 66 Tryz.underlying46 zeg rfl (by decide) (by decide) rfl _ _ rfl g (fun _=>False) _ (F k) rfl hGb (some ⟨wr.heap.size,0,none⟩) 1 1 [⟨z,0,0,0⟩] rfl rfl zni hll hbs ?_)
      intro v9 w9 hT9 hgrow _
      rw[<-hV9]at hgrow;rw[<-HS2.out]at hT9
      have HT9:Hid (Ln g w9 v9 (F (k+1))):=hT9
      have hB9:Below w.heap.size w w9:=hBb.grown hgrow hBb.size (fun q hq=>HLO.out q hq)
      clear hT9 hgrow hGb zni hbs hll hBb hV9 Y9 d0 hB;go_wp2
      go_roundw
      case rel=>exact⟨k+1,by omega,by go_num,HT9,hB9⟩
      case measure=>simp[intOf];omega
  . obtain rfl:k=n:=by omega
    have HV:Hid (RowP (F k) g wr (.returned (.slice a6 (F k).length c6))):=⟨_,rfl,hGw.out⟩
    have g4:¬(k:Int)<(k:Int):=by omega
    clear hGw hgr6 hb6;go_wp2
    go_ret
    exact⟨HV.out,by rw[<-HG.out];exact hB⟩
theorem zsr{P:List Pd}{k:Nat}(hk:k<P.length):(naL P).take (k+1)=(naL P).take k++[(P.getD k Pd.none).g]:=by
 have h1:k<(naL P).length:=by rw[zce];exact hk
 rw[<-zud,List.take_add_one,List.getD_eq_getElem?_getD,List.getElem?_eq_getElem h1]
 rfl
theorem zvx{P:List Pd}{k:Nat}(hk:k<=P.length):((naL P).take k).length=k:=by rw[List.length_take,zce];omega
theorem zvy(P:List Pd):(naL P).take P.length=naL P:=List.take_of_length_le (by rw[zce];exact Nat.le_refl _)
theorem zh9(S:Nat->Prop)(a:Option Addr)(ca:Nat)(P:List Pd)(w:World)(h:Gr PdE S w a ca P)(hl:P.length<=1000) :
 Calls Tryz.prog 100 #[.slice a P.length ca] w fun e w'=>RowG (naL P) w.heap.size w' e/\Below w.heap.size w w':=by
 have HH:Hid (Gr PdE S w a ca P):=h
 obtain⟨n,hnn⟩:∃n,P.length=n:=⟨_,rfl⟩
 have HF0:Hid ((naL P).take 0=[]):=rfl
 have HFS:Hid (∀k,k<n->(naL P).take (k+1)=(naL P).take k++[(P.getD k Pd.none).g]):=fun k hk=>zsr (by rw[hnn];exact hk)
 have HFL:Hid (∀k,k<=n->((naL P).take k).length=k):=fun k hk=>zvx (by rw[hnn];exact hk)
 have HFN:Hid ((naL P).take n=naL P):=by show _=_;rw[<-hnn];exact zvy P
 have HN:Hid (P.length=n):=hnn
 rw[hnn]at hl ⊢
 obtain⟨F,hF⟩:∃F:Nat->List Int,(fun k=>(naL P).take k)=F:=⟨_,rfl⟩
 have HF0:Hid (F 0=[]):=by rw[<-hF];exact HF0
 have HFS:Hid (∀k,k<n->F (k+1)=F k++[(P.getD k Pd.none).g]):=by rw[<-hF];exact HFS
 have HFL:Hid (∀k,k<=n->(F k).length=k):=by rw[<-hF];exact HFL
 have HFN:Hid (F n=naL P):=by rw[<-hF];exact HFN
 clear h hnn hF
 go_enter Tryz.func100,Tryz.ntmps100
 go_wp2
 go_loopw [3,4] (fun vo vi wr=>∃k:Nat,k<=n/\vi=.int .i64 k/\Hid (Gi w.heap.size wr vo (F k))/\Below w.heap.size w wr) (fun _ vi _=>n-(intOf vi).toNat)
 case atStart=>exact⟨0,Nat.zero_le _,rfl,(by show Gi _ _ _ _;rw[HF0.out];exact Gi.nil _ _),Below.refl _ _⟩
 case round =>
  obtain⟨k,hk,rfl,hGw,hB⟩:=hrel
  by_cases hkn:k<n
  . obtain⟨xb,xo,rfl,hxb,hw4,d0,d1,d2,d3⟩:=HH.out.pd hB k (by rw[HN.out];exact hkn)
    have HSS:=HFS.out k hkn
    obtain⟨va,vc,rfl,-,-⟩:=hGw.out.slice
    have hzi:=hw4.1
    generalize (P.getD k Pd.none).g=z at d0 hzi HSS
    have HSS2:Hid (F (k+1)=F k++[z]):=HSS
    have i1:(0:Int)<=(k:Int):=by omega
    have i2:(k:Int)<(n:Int):=by omega
    obtain⟨V9,hV9,Y9,hb9⟩:∃V,V=wr.alloc (.cells #[.int .i64 z] 3)/\Bk 3 V wr.heap.size [.int .i64 z]/\Below wr.heap.size wr V:=⟨_,rfl,Bk.new _ _ _,bl1 _⟩
    have hGb:=hGw.out.below hb9
    have hBb:=hB.trans (hb9.mono hB.size)
    have hbs:w.heap.size<=V9.heap.size:=hBb.size
    have hll:(F k).length+1<=1000000:=by rw[HFL.out k hk];omega
    have hlt:=Y9.lt
    have y0:V9.cell? ⟨wr.heap.size,0,none⟩=some (.int .i64 z):=Y9.cell 0 (by simp)
    have HLO:Hid (∀q,(Value.slice va (F k).length vc).ownBlock=some q->w.heap.size<=q):=fun q hq=>(hGw.out.lo hq).1
    clear HSS hGw d1 d2 d3 hw4
    go_wp2_with (at_builtin;rw[<-hV9];refine za7 rfl _ _ rfl w.heap.size _ (F k) rfl hGb wr.heap.size z rfl hlt y0 hzi hll hbs ?_)
    intro v9 w9 hT9 hgrow _
    rw[<-hV9]at hgrow;rw[<-HSS2.out]at hT9
    have HT9:Hid (Gi w.heap.size w9 v9 (F (k+1))):=hT9
    have hB9:Below w.heap.size w w9:=hBb.grown hgrow hBb.size (fun q hq=>HLO.out q hq)
    clear hT9 hgrow hGb hBb hbs hll hlt y0 HLO HSS2 hV9 Y9 hb9;go_wp2
    go_roundw
    case rel=>exact⟨k+1,by omega,by go_num,HT9,hB9⟩
    case measure=>simp[intOf];omega
  . obtain rfl:k=n:=by omega
    have HV:Hid (RowG (naL P) w.heap.size _ (.returned _)):=⟨_,rfl,by rw[<-HFN.out];exact hGw.out⟩
    have g4:¬(k:Int)<(k:Int):=by omega
    clear hGw;go_wp2
    go_ret
    exact⟨HV.out,hB⟩
structure ApS(O:Option (Int×Int))(e:Ending):Prop where
 out:∃ok nx b,e=.returned (.tuple #[.bool ok,.int .i64 nx,.int .i64 b])/\(O=none->ok=false)/\∀p,O=some p->ok=true/\nx=p.1/\b=p.2
theorem ApS.no{O:Option (Int×Int)}{nx b:Int}(h:O=none):ApS O (.returned (.tuple #[.bool false,.int .i64 nx,.int .i64 b])):=⟨false,nx,b,rfl,(fun _=>rfl),(fun p hp=>by rw[h]at hp;cases hp)⟩
theorem ApS.yes{O:Option (Int×Int)}{nx b:Int}(h:O=some (nx,b)):ApS O (.returned (.tuple #[.bool true,.int .i64 nx,.int .i64 b])):=⟨true,nx,b,rfl,(fun hp=>by rw[h]at hp;cases hp),(fun p hp=>by rw[h]at hp;injection hp with hp;subst hp;exact⟨rfl,rfl,rfl⟩)⟩
theorem zw5{ms:List Bool}{sk:Bool}{L:List Int}{i:Nat}{A:List Int}:apN ms 5 sk L i A=if A.getD 0 0=L.getD i 0 then some ((i:Int)+1,0)else none:=rfl
theorem zzn{ms:List Bool}{sk:Bool}{L:List Int}{i:Nat}{A:List Int}:apN ms 6 sk L i A=(meQ ms L sk (i:Int) A).map (fun m=>(m.getD 1 0,0)):=rfl
theorem zu2{ms:List Bool}{sk:Bool}{L:List Int}{i:Nat}{A:List Int}:apN ms 7 sk L i A=if mkB ms (L.getD i 0)=true/\A.getD 1 0=L.getD i 0/\bkQ ms L (i:Int)≠-1/\A.getD 0 0=L.getD (bkQ ms L (i:Int)).toNat 0 then some ((i:Int)+1,bkQ ms L (i:Int))else none:=rfl
theorem zie(S:Nat->Prop)(ga:Option Addr)(gc:Nat)(ma:Option Addr)(mc:Nat)(s:Sr)(ka:Option Addr)(kc:Nat)(ms:List Bool)(pa:Option Addr)(pc:Nat)(cs:List Int)(na:Option Addr)(nc:Nat)(L:List Int)(kd:Int)(sk:Bool)(ra:Option Addr)(rn rc:Nat)(a1:Option Addr)(c1:Nat)(a2:Option Addr)(c2:Nat)(inn out:List Int)(ap lk x1 x2 y1 y2 w1 w2:Int)(i:Nat)(w:World)
    (hm:Gr El.bool S w ka kc ms) (hL:Ri w na nc L) (hA:Ri w a1 c1 inn) (hi:i<L.length) (hAl:inn.length=inN kd) (hk:kd=5\/kd=6\/kd=7) :
    Calls Tryz.prog 102 #[.agg #[.int .i64 kd,.bool sk,.slice ra rn rc],.agg #[.slice a1 inn.length c1,.slice a2 out.length c2,.int .i64 ap,.int .i64 lk,.int .i64 x1,.int .i64 x2,.int .i64 y1,.int .i64 y2,.int .i64 w1,.int .i64 w2],.agg #[.slice ga s.rg.length gc,.slice ma s.rw.length mc,.slice ka ms.length kc,.slice pa cs.length pc],.slice na L.length nc,.int .i64 (i:Int)] w fun e w'=>ApS (apN ms kd sk L i inn) e/\Below w.heap.size w w':=by
 have kl:=hL.lenB
 obtain⟨W,hW⟩:∃W,W=((w.alloc (.cells #[.int .i64 kd,.bool sk,.slice ra rn rc] 123)).alloc (.cells #[.slice a1 inn.length c1,.slice a2 out.length c2,.int .i64 ap,.int .i64 lk,.int .i64 x1,.int .i64 x2,.int .i64 y1,.int .i64 y2,.int .i64 w1,.int .i64 w2] 131)).alloc (.cells #[.slice ga s.rg.length gc,.slice ma s.rw.length mc,.slice ka ms.length kc,.slice pa cs.length pc] 86):=⟨_,rfl⟩
 obtain⟨X1,X2,X3,hbW⟩:=new3B w 123 131 86 [.int .i64 kd,.bool sk,.slice ra rn rc] (ruV a1 c1 a2 c2 ⟨inn,out,ap,lk,(x1,x2),(y1,y2),(w1,w2)⟩) [.slice ga s.rg.length gc,.slice ma s.rw.length mc,.slice ka ms.length kc,.slice pa cs.length pc] W hW
 obtain⟨x0,x1',x2',-⟩:=X1.three;obtain⟨q0,-⟩:=X2.ru;dsimp only at q0;obtain⟨m0,m1,m2,m3,-⟩:=X3.four
 have hmW:=hm.below hbW
 have hLW:=hL.below hbW
 have hAW:=hA.below hbW
 have hI:I64 (i:Int):=⟨by omega,by omega⟩
 have i1:(0:Int)<=(i:Int):=by omega
 have i2:(i:Int)<(L.length:Int):=by omega
 have hLz:I64 (L.getD i 0):=hL.i64 hi
 obtain⟨ib,io,ena,hib,e0⟩:=hL.at hbW i hi
 rcases hk with rfl|rfl|rfl
 . have hl1:inn.length=1:=hAl
   have HO:Hid (apN ms 5 sk L i inn=if inn.getD 0 0=L.getD i 0 then some ((i:Int)+1,0)else none):=zw5
   obtain⟨jb,jo,eaa,hjb,f0⟩:=hA.at hbW 0 (by omega)
   generalize apN ms 5 sk L i inn=O at HO ⊢
   generalize inn.getD 0 0=g0 at *
   generalize L.getD i 0=z at *
   replace f0:W.cell? ⟨jb,jo,none⟩=some (.int .i64 g0):=f0
   have j5:(0:Int)<(inn.length:Int):=by omega
   have j5n:0<inn.length:=by omega
   subst ena eaa
   have HV:Hid (∀t,(g0==z)=t->∀W',ApS O (.returned (.tuple #[.bool t,.int .i64 ((i:Int)+1),.int .i64 0]))/\(Below w.heap.size w W'->Below w.heap.size w W')):=fun t ht W'=>by
    refine⟨?_,id⟩
    cases t with
    | true=>exact ApS.yes (by rw[HO.out,if_pos (beq_iff_eq.1 ht)])
    | false=>exact ApS.no (by rw[HO.out,if_neg (beq_eq_false_iff_ne.1 ht)])
   obtain⟨t,ht⟩:∃t,(g0==z)=t:=⟨_,rfl⟩
   have HV2:Hid (ApS O (.returned (.tuple #[.bool t,.int .i64 ((i:Int)+1),.int .i64 0]))):=(HV.out t ht W).1
   clear hm hL hA hmW hLW hAW X1 X2 X3 hAl HO HV hl1
   go_enter Tryz.func102,Tryz.ntmps102
   go_upto_region 1 with fail
   rw[<-hW];clear hW
   go_wp2_with fail
   go_quiet (fail)
   go_wp2
   go_ret3
   exact⟨HV2.out,below_drewN hbW _⟩
 . have hl2:inn.length=2:=hAl
   have HO:Hid (apN ms 6 sk L i inn=(meQ ms L sk (i:Int) inn).map (fun m=>(m.getD 1 0,0))):=zzn
   generalize apN ms 6 sk L i inn=O at HO ⊢
   have HL2:Hid (inn.length=2):=hl2
   have hme:=zia S na nc L ka kc ms (i:Int) a1 c1 inn sk W hLW hmW hI hAW (by omega)
   clear hm hL hA hmW hLW hAW X1 X2 X3 hAl ena e0 hl2
   go_enter Tryz.func102,Tryz.ntmps102
   go_upto_region 1 with fail
   rw[<-hW];clear hW
   go_wp2_with fail
   refine hme.mono ?_
   rintro e u ⟨⟨v,rfl,hv⟩,hb⟩
   have hbU:=hbW.trans (hb.mono hbW.size)
   obtain⟨va,vc,rfl,hvr⟩:=hv.slice;clear hme hv hb m0 m1 m2 m3 x0 x1' x2' q0
   cases hq:meQ ms L sk (i:Int) inn with
   | none =>
    have e1:meB ms L sk (i:Int) inn=false:=by unfold meB;rw[hq];rfl
    have HF:Hid (∀a b:Int,ApS O (.returned (.tuple #[.bool false,.int .i64 a,.int .i64 b]))):=fun a b=>ApS.no (by rw[HO.out,hq];rfl)
    rw[e1];clear HO hq e1 hvr;go_wp2
    go_ret3
    exact⟨HF.out _ _,hbU⟩
   | some m =>
    have e1:meB ms L sk (i:Int) inn=true:=by unfold meB;rw[hq];rfl
    have e2:meL ms L sk (i:Int) inn=m:=by unfold meL;rw[hq];rfl
    have hml:=(me_r hq).len
    rw[HL2.out]at hml
    have HF:Hid (ApS O (.returned (.tuple #[.bool true,.int .i64 (m.getD 1 0),.int .i64 0]))):=ApS.yes (by rw[HO.out,hq];rfl)
    rw[e1,e2];rw[e2]at hvr
    obtain⟨b,o,rfl,hbl,c0⟩:=hvr.at (Below.refl _ _) 1 (by omega)
    generalize m.getD 1 0=z at *
    rw[hml]
    have i4:(1:Int)<((2:Nat):Int):=by decide
    clear HO hq e1 e2 hvr hml
    go_wp2_with fail
    go_quiet (fail)
    go_wp2
    go_ret3
    exact⟨HF.out,below_drewN hbU _⟩
 have hl2:inn.length=2:=hAl
 have HO:Hid (apN ms 7 sk L i inn=if mkB ms (L.getD i 0)=true/\inn.getD 1 0=L.getD i 0/\bkQ ms L (i:Int)≠-1/\inn.getD 0 0=L.getD (bkQ ms L (i:Int)).toNat 0 then some ((i:Int)+1,bkQ ms L (i:Int))else none):=zu2
 generalize apN ms 7 sk L i inn=O at HO ⊢
 have hbk:=zoo S na nc L ka kc ms (i:Int) W hLW hmW hI
 have HBN:Hid (bkQ ms L (i:Int)=-1\/∃b:Nat,bkQ ms L (i:Int)=(b:Int)/\b<i):=bk_lt hi
 have HM:Hid (Gr El.bool S W ka kc ms):=hmW
 have HL:Hid (Ri W na nc L):=hLW
 have HA:Hid (Ri W a1 c1 inn):=hAW
 have HL2:Hid (inn.length=2):=hl2
 have HX:Hid (Bk 131 W (w.heap.size+1) (ruV a1 c1 a2 c2 ⟨inn,out,ap,lk,(x1,x2),(y1,y2),(w1,w2)⟩)/\Bk 86 W (w.heap.size+2) [.slice ga s.rg.length gc,.slice ma s.rw.length mc,.slice ka ms.length kc,.slice pa cs.length pc]):=⟨X2,X3⟩
 clear hm hL hA hmW hLW hAW X1 X2 X3 hAl hl2 ena hib e0
 go_enter Tryz.func102,Tryz.ntmps102
 go_upto_region 1 with fail
 rw[<-hW];clear hW
 go_wp2_with fail
 refine hbk.mono ?_
 rintro e u ⟨rfl,hb⟩
 have hbU:=hbW.trans (hb.mono hbW.size)
 have hX2:=HX.out.1.below hb
 have hX3:=HX.out.2.below hb
 clear hbk m0 m1 m2 m3 x0 x1' x2' q0
 go_upto_region 10 with fail
 obtain⟨ib,io,rfl,hib,e0⟩:=HL.out.at hb i hi
 obtain⟨jb,jo,rfl,hjb,f0⟩:=HA.out.at hb 0 (by rw[HL2.out];omega)
 obtain⟨jb2,jo2,ej,-,f1⟩:=HA.out.at hb 1 (by rw[HL2.out];omega)
 injection ej with ej;injection ej with ej1 ej2;subst ej1 ej2
 have j5:(0:Int)<(inn.length:Int):=by have:=HL2.out;omega
 have j6:(1:Int)<(inn.length:Int):=by have:=HL2.out;omega
 have j5n:0<inn.length:=by have:=HL2.out;omega
 have j6n:1<inn.length:=by have:=HL2.out;omega
 generalize inn.getD 0 0=g0 at *
 generalize inn.getD 1 0=g1 at *
 replace f0:u.cell? ⟨jb,jo,none⟩=some (.int .i64 g0):=f0
 replace f1:u.cell? ⟨jb,jo+1,none⟩=some (.int .i64 g1):=f1
 clear HL2;obtain⟨-,-,m2,-,-⟩:=hX3.four;obtain⟨q0,-⟩:=hX2.ru;dsimp only at q0
 have hdr:Below u.heap.size u u.drew:=(Below.refl _ _).drew
 obtain⟨l0,l1,l2,l3⟩:w.heap.size+2<u.heap.size/\w.heap.size+1<u.heap.size/\ib<u.heap.size/\jb<u.heap.size:=⟨hX3.lt,hX2.lt,Nat.lt_of_lt_of_le hib hb.size,Nat.lt_of_lt_of_le hjb hb.size⟩
 have hmk:∀Z,Below u.heap.size u Z->Calls Tryz.prog 101 #[.slice ka ms.length kc,.int .i64 (L.getD i 0)] Z fun e w'=>e=.returned (.bool (mkB ms (L.getD i 0)))/\Below Z.heap.size Z w':=fun Z hZ=>zcs S ka kc ms _ Z ((HM.out.below hb).below hZ) hLz
 have HCB:Hid (∀b:Nat,b<i->u.cell? ⟨ib,io+b,none⟩=some (.int .i64 (L.getD b 0))):=fun b hbi=>by
  obtain⟨b1,o1,e1,_,d⟩:=HL.out.at hb b (by omega)
  injection e1 with e1;injection e1 with e1 e2;subst e1 e2
  exact d
 have HNO:Hid (∀a b:Int,(mkB ms (L.getD i 0)=false\/g1≠L.getD i 0\/bkQ ms L (i:Int)=-1\/g0≠L.getD (bkQ ms L (i:Int)).toNat 0)->ApS O (.returned (.tuple #[.bool false,.int .i64 a,.int .i64 b]))):=fun a b h=>ApS.no (by
  rw[HO.out,if_neg]
  rintro ⟨h1,h2,h3,h4⟩
  rcases h with h|h|h|h
  . rw[h]at h1;cases h1
  . exact h h2
  . exact h3 h
  . exact h h4)
 have HYE:Hid (∀b:Nat,mkB ms (L.getD i 0)=true->g1=L.getD i 0->bkQ ms L (i:Int)=(b:Int)->g0=L.getD b 0->ApS O (.returned (.tuple #[.bool true,.int .i64 ((i:Int)+1),.int .i64 (b:Int)]))):=fun b h1 h2 h3 h4=>ApS.yes (by
  rw[HO.out,if_pos ⟨h1,h2,by rw[h3];omega,by rw[h3,Int.toNat_natCast];exact h4⟩,h3])
 clear hX2 hX3 hib hjb hb HO
 rcases HBN.out with hB|⟨b,hB,hbi⟩
 . rw[hB]at HNO ⊢
   have HN2:Hid (∀a b:Int,(mkB ms (L.getD i 0)=false\/g1≠L.getD i 0\/(-1:Int)=-1)->ApS O (.returned (.tuple #[.bool false,.int .i64 a,.int .i64 b]))):=fun a b h=>HNO.out a b (by rcases h with h | h | h;exact .inl h;exact .inr (.inl h);exact .inr (.inr (.inl rfl)))
   clear HNO HYE HBN HCB hB
   generalize mkB ms (L.getD i 0)=mk at hmk HN2
   generalize L.getD i 0=zi at *
   refine wp_region_held_drew (S:=fun v=>v.cell? ⟨w.heap.size+2,2,none⟩=some (.slice ka ms.length kc)/\v.cell? ⟨ib,io+i,none⟩=some (.int .i64 zi)/\v.cell? ⟨w.heap.size+1,0,none⟩=some (.slice (some ⟨jb,jo,none⟩) inn.length c1)/\v.cell? ⟨jb,jo,none⟩=some (.int .i64 g0)/\v.cell? ⟨jb,jo+1,none⟩=some (.int .i64 g1)) (by kernel_rfl) ⟨m2,e0,q0,f0,f1⟩ (fun hH=>?_)
   generalize u.drew=Z at hdr hH ⊢
   have hbZ:=hbU.trans (hdr.mono hbU.size)
   refine hT 0 hH ?_;refine hT 1 hH ?_;refine hT 2 hH ?_;refine hT 3 hH ?_;refine hT 4 hH ?_;refine hT 5 hH ?_;refine hT 33 hH ?_;refine hT 34 hH ?_;refine hT 35 hH ?_
   refine hCall (i:=6) rfl (by kernel_rfl) (by rfl) (fun K hK=>?_)
   go_simp
   refine(hmk Z hdr).mono ?_
   rintro e u2 ⟨rfl,hb2⟩
   have hU2:=hdr.trans (hb2.mono hdr.size)
   have zaf:=hbU.trans (hU2.mono hbU.size)
   clear hmk
   go_wp2_with fail
   refine hK.out _ _ ⟨(hU2.cell (p:=⟨w.heap.size+2,2,none⟩) l0).trans m2,(hU2.cell (p:=⟨ib,io+i,none⟩) l2).trans e0,(hU2.cell (p:=⟨w.heap.size+1,0,none⟩) l1).trans q0,(hU2.cell (p:=⟨jb,jo,none⟩) l3).trans f0,(hU2.cell (p:=⟨jb,jo+1,none⟩) l3).trans f1⟩ (fun hH=>?_)
   clear hK K
   try simp only[Act.put,pZ]
   clear m2 e0 q0 f0 f1
   cases mk with
   | false =>
    have HF:Hid (∀a b:Int,ApS O (.returned (.tuple #[.bool false,.int .i64 a,.int .i64 b]))):=fun a b=>HN2.out a b (.inl rfl)
    clear HN2;refine hT 7 hH ?_;refine hN 8 hH ?_;refine hN 9 hH ?_;refine hN 10 hH ?_;refine hN 11 hH ?_;refine hN 12 hH ?_;refine hN 13 hH ?_;refine hN 14 hH ?_;refine hN 15 hH ?_;refine hN 16 hH ?_;refine hT 17 hH ?_;refine hT 18 hH ?_;refine hN 19 hH ?_
    refine hN 20 hH ?_;refine hT 21 hH ?_;refine hT 22 hH ?_;refine hN 23 hH ?_;refine hN 24 hH ?_;refine hN 25 hH ?_;refine hN 26 hH ?_;refine hN 27 hH ?_;refine hN 28 hH ?_;refine hN 29 hH ?_;refine hN 30 hH ?_;refine hN 31 hH ?_;refine hT 32 hH ?_
    refine hT 36 hH ?_;refine hT 37 hH ?_;refine hT 38 hH ?_
    refine wpAnyH_done (by kernel_rfl) ?_ _
    clear hH;go_wp2
    go_ret3
    exact⟨HF.out _ _,zaf⟩
   | true =>
    by_cases hz1:g1=zi
    rotate_left
    . have gz:(g1==zi)=false:=beq_eq_false_iff_ne.2 hz1
      have HF:Hid (∀a b:Int,ApS O (.returned (.tuple #[.bool false,.int .i64 a,.int .i64 b]))):=fun a b=>HN2.out a b (.inr (.inl hz1))
      clear HN2;refine hT 7 hH ?_;refine hT 8 hH ?_;refine hT 9 hH ?_;refine hT 10 hH ?_;refine hT 11 hH ?_;refine hT 12 hH ?_;refine hT 13 hH ?_;refine hT 14 hH ?_;refine hT 15 hH ?_;refine hT 16 hH ?_;refine hT 17 hH ?_;refine hT 18 hH ?_;refine hN 19 hH ?_
      refine hN 20 hH ?_;refine hT 21 hH ?_;refine hT 22 hH ?_;refine hN 23 hH ?_;refine hN 24 hH ?_;refine hN 25 hH ?_;refine hN 26 hH ?_;refine hN 27 hH ?_;refine hN 28 hH ?_;refine hN 29 hH ?_;refine hN 30 hH ?_;refine hN 31 hH ?_;refine hT 32 hH ?_
      refine hT 36 hH ?_;refine hT 37 hH ?_;refine hT 38 hH ?_
      refine wpAnyH_done (by kernel_rfl) ?_ _
      clear hH;go_wp2
      go_ret3
      exact⟨HF.out _ _,zaf⟩
    have gz:(g1==zi)=true:=beq_iff_eq.2 hz1
    have HF:Hid (∀a b:Int,ApS O (.returned (.tuple #[.bool false,.int .i64 a,.int .i64 b]))):=fun a b=>HN2.out a b (by first | trivial | exact .inr (.inr trivial) | exact .inr (.inr rfl))
    clear HN2;refine hT 7 hH ?_;refine hT 8 hH ?_;refine hT 9 hH ?_;refine hT 10 hH ?_;refine hT 11 hH ?_;refine hT 12 hH ?_;refine hT 13 hH ?_;refine hT 14 hH ?_;refine hT 15 hH ?_;refine hT 16 hH ?_;refine hT 17 hH ?_;refine hT 18 hH ?_;refine hT 19 hH ?_
    refine hT 20 hH ?_;refine hT 21 hH ?_;refine hT 22 hH ?_;refine hN 23 hH ?_;refine hN 24 hH ?_;refine hN 25 hH ?_;refine hN 26 hH ?_;refine hN 27 hH ?_;refine hN 28 hH ?_;refine hN 29 hH ?_;refine hN 30 hH ?_;refine hN 31 hH ?_;refine hT 32 hH ?_
    refine hT 36 hH ?_;refine hT 37 hH ?_;refine hT 38 hH ?_
    refine wpAnyH_done (by kernel_rfl) ?_ _
    clear hH;go_wp2
    go_ret3
    exact⟨HF.out _ _,zaf⟩
 . have hcb:=HCB.out b hbi
   have gb:((b:Int) != -1)=true:=bne_iff_ne.2 (by omega)
   have i3:(0:Int)<=(b:Int):=by omega
   have i4:(b:Int)<(L.length:Int):=by omega
   have HN2:Hid (∀a c:Int,(mkB ms (L.getD i 0)=false\/g1≠L.getD i 0\/False\/g0≠L.getD b 0)->ApS O (.returned (.tuple #[.bool false,.int .i64 a,.int .i64 c]))):=fun a c h=>HNO.out a c (by
    rcases h with h|h|h|h
    . exact .inl h
    . exact .inr (.inl h)
    . exact h.elim
    . exact .inr (.inr (.inr (by rw[hB,Int.toNat_natCast];exact h))))
   have HY2:Hid (mkB ms (L.getD i 0)=true->g1=L.getD i 0->g0=L.getD b 0->ApS O (.returned (.tuple #[.bool true,.int .i64 ((i:Int)+1),.int .i64 (b:Int)]))):=fun h1 h2 h3=>HYE.out b h1 h2 hB h3
   rw[hB];clear HNO HYE HBN HCB hB
   generalize mkB ms (L.getD i 0)=mk at hmk HN2 HY2
   generalize L.getD i 0=zi at *
   generalize L.getD b 0=zb at *
   refine wp_region_held_drew (S:=fun v=>v.cell? ⟨w.heap.size+2,2,none⟩=some (.slice ka ms.length kc)/\v.cell? ⟨ib,io+i,none⟩=some (.int .i64 zi)/\v.cell? ⟨w.heap.size+1,0,none⟩=some (.slice (some ⟨jb,jo,none⟩) inn.length c1)/\v.cell? ⟨jb,jo,none⟩=some (.int .i64 g0)/\v.cell? ⟨jb,jo+1,none⟩=some (.int .i64 g1)/\v.cell? ⟨ib,io+b,none⟩=some (.int .i64 zb)) (by kernel_rfl) ⟨m2,e0,q0,f0,f1,hcb⟩ (fun hH=>?_)
   generalize u.drew=Z at hdr hH ⊢
   have hbZ:=hbU.trans (hdr.mono hbU.size)
   refine hT 0 hH ?_;refine hT 1 hH ?_;refine hT 2 hH ?_;refine hT 3 hH ?_;refine hT 4 hH ?_;refine hT 5 hH ?_;refine hT 33 hH ?_;refine hT 34 hH ?_;refine hT 35 hH ?_
   refine hCall (i:=6) rfl (by kernel_rfl) (by rfl) (fun K hK=>?_)
   go_simp
   refine(hmk Z hdr).mono ?_
   rintro e u2 ⟨rfl,hb2⟩
   have hU2:=hdr.trans (hb2.mono hdr.size)
   have zaf:=hbU.trans (hU2.mono hbU.size)
   clear hmk
   go_wp2_with fail
   refine hK.out _ _ ⟨(hU2.cell (p:=⟨w.heap.size+2,2,none⟩) l0).trans m2,(hU2.cell (p:=⟨ib,io+i,none⟩) l2).trans e0,(hU2.cell (p:=⟨w.heap.size+1,0,none⟩) l1).trans q0,(hU2.cell (p:=⟨jb,jo,none⟩) l3).trans f0,(hU2.cell (p:=⟨jb,jo+1,none⟩) l3).trans f1,(hU2.cell (p:=⟨ib,io+b,none⟩) l2).trans hcb⟩ (fun hH=>?_)
   clear hK K
   try simp only[Act.put,pZ]
   clear m2 e0 q0 f0 f1 hcb
   cases mk with
   | false =>
    have HF:Hid (∀a b:Int,ApS O (.returned (.tuple #[.bool false,.int .i64 a,.int .i64 b]))):=fun a b=>HN2.out a b (.inl rfl)
    clear HN2 HY2;refine hT 7 hH ?_;refine hN 8 hH ?_;refine hN 9 hH ?_;refine hN 10 hH ?_;refine hN 11 hH ?_;refine hN 12 hH ?_;refine hN 13 hH ?_;refine hN 14 hH ?_;refine hN 15 hH ?_;refine hN 16 hH ?_;refine hT 17 hH ?_;refine hT 18 hH ?_;refine hN 19 hH ?_
    refine hN 20 hH ?_;refine hT 21 hH ?_;refine hT 22 hH ?_;refine hN 23 hH ?_;refine hN 24 hH ?_;refine hN 25 hH ?_;refine hN 26 hH ?_;refine hN 27 hH ?_;refine hN 28 hH ?_;refine hN 29 hH ?_;refine hN 30 hH ?_;refine hN 31 hH ?_;refine hT 32 hH ?_
    refine hT 36 hH ?_;refine hT 37 hH ?_;refine hT 38 hH ?_
    refine wpAnyH_done (by kernel_rfl) ?_ _
    clear hH;go_wp2
    go_ret3
    exact⟨HF.out _ _,zaf⟩
   | true =>
    by_cases hz1:g1=zi
    rotate_left
    . have gz:(g1==zi)=false:=beq_eq_false_iff_ne.2 hz1
      have HF:Hid (∀a b:Int,ApS O (.returned (.tuple #[.bool false,.int .i64 a,.int .i64 b]))):=fun a b=>HN2.out a b (.inr (.inl hz1))
      clear HN2 HY2;refine hT 7 hH ?_;refine hT 8 hH ?_;refine hT 9 hH ?_;refine hT 10 hH ?_;refine hT 11 hH ?_;refine hT 12 hH ?_;refine hT 13 hH ?_;refine hT 14 hH ?_;refine hT 15 hH ?_;refine hT 16 hH ?_;refine hT 17 hH ?_;refine hT 18 hH ?_;refine hN 19 hH ?_
      refine hN 20 hH ?_;refine hT 21 hH ?_;refine hT 22 hH ?_;refine hN 23 hH ?_;refine hN 24 hH ?_;refine hN 25 hH ?_;refine hN 26 hH ?_;refine hN 27 hH ?_;refine hN 28 hH ?_;refine hN 29 hH ?_;refine hN 30 hH ?_;refine hN 31 hH ?_;refine hT 32 hH ?_
      refine hT 36 hH ?_;refine hT 37 hH ?_;refine hT 38 hH ?_
      refine wpAnyH_done (by kernel_rfl) ?_ _
      clear hH;go_wp2
      go_ret3
      exact⟨HF.out _ _,zaf⟩
    have gz:(g1==zi)=true:=beq_iff_eq.2 hz1
    by_cases hz0:g0=zb
    rotate_left
    . have gy:(g0==zb)=false:=beq_eq_false_iff_ne.2 hz0
      have HF:Hid (∀a b:Int,ApS O (.returned (.tuple #[.bool false,.int .i64 a,.int .i64 b]))):=fun a b=>HN2.out a b (.inr (.inr (.inr hz0)))
      clear HN2 HY2;refine hT 7 hH ?_;refine hT 8 hH ?_;refine hT 9 hH ?_;refine hT 10 hH ?_;refine hT 11 hH ?_;refine hT 12 hH ?_;refine hT 13 hH ?_;refine hT 14 hH ?_;refine hT 15 hH ?_;refine hT 16 hH ?_;refine hT 17 hH ?_;refine hT 18 hH ?_;refine hT 19 hH ?_
      refine hT 20 hH ?_;refine hT 21 hH ?_;refine hT 22 hH ?_;refine hT 23 hH ?_;refine hT 24 hH ?_;refine hT 25 hH ?_;refine hT 26 hH ?_;refine hT 27 hH ?_;refine hT 28 hH ?_;refine hT 29 hH ?_;refine hT 30 hH ?_;refine hT 31 hH ?_;refine hT 32 hH ?_
      refine hT 36 hH ?_;refine hT 37 hH ?_;refine hT 38 hH ?_
      refine wpAnyH_done (by kernel_rfl) ?_ _
      clear hH;go_wp2
      go_ret3
      exact⟨HF.out _ _,zaf⟩
    have gy:(g0==zb)=true:=beq_iff_eq.2 hz0
    have HF:Hid (ApS O (.returned (.tuple #[.bool true,.int .i64 (IntKind.i64.wrap ((i:Int)+1)),.int .i64 (b:Int)]))):=by show ApS _ _;rw[show IntKind.i64.wrap ((i:Int)+1)=(i:Int)+1 from w6_id (by omega) (by omega)];exact HY2.out rfl hz1 hz0
    clear HN2 HY2;refine hT 7 hH ?_;refine hT 8 hH ?_;refine hT 9 hH ?_;refine hT 10 hH ?_;refine hT 11 hH ?_;refine hT 12 hH ?_;refine hT 13 hH ?_;refine hT 14 hH ?_;refine hT 15 hH ?_;refine hT 16 hH ?_;refine hT 17 hH ?_;refine hT 18 hH ?_;refine hT 19 hH ?_
    refine hT 20 hH ?_;refine hT 21 hH ?_;refine hT 22 hH ?_;refine hT 23 hH ?_;refine hT 24 hH ?_;refine hT 25 hH ?_;refine hT 26 hH ?_;refine hT 27 hH ?_;refine hT 28 hH ?_;refine hT 29 hH ?_;refine hT 30 hH ?_;refine hT 31 hH ?_;refine hT 32 hH ?_
    refine hT 36 hH ?_;refine hT 37 hH ?_;refine hT 38 hH ?_
    refine wpAnyH_done (by kernel_rfl) ?_ _
    clear hH;go_wp2
    go_ret3
    exact⟨HF.out,zaf⟩
