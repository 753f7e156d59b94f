import Derived.Test.YtkmcodofnckdmaaGreatZK27
set_option maxHeartbeats 2000000
set_option maxRecDepth 100000
set_option linter.unusedSimpArgs false
set_option linter.unusedVariables false
namespace Go.Proofs.YtkmcodofnckdmaaGreat
open Go.RowKit Go.Maps
theorem zgs(B:Nat)(G:Nat->Prop)(ys:LN)(a:OA)(cap:Nat)(l:LI)(w:World)(h:Pc w B G ⟨ys,[],false⟩)(hr:Ri w a cap l)(hG:∀b o,a=some ⟨b,o,none⟩->G b)(hx:∀x∈l,-128<=x/\x<=255)(hl:ys.length+2*l.length+4<=1048576) :
 Calls Tryz.prog 242 #[.func (.func 80) #[pg B] #[],.slice a l.length cap] w fun e w'=>e=.returned (.tuple #[])/\Pc w' B G ⟨ys++l.flatMap be1,[],false⟩/\Keep G w w':=by
 have k2:=hr.lenB
 have HR:Hid (Ri w a cap l):=hr
 have HX:Hid (∀x∈l,-128<=x/\x<=255):=hx
 have HG:Hid (∀b o,a=some ⟨b,o,none⟩->G b):=hG
 clear hr hx hG
 go_enter Tryz.func242,Tryz.ntmps242
 go_wp2
 go_loopw [8] (fun i wr=>∃k:Nat,k<=l.length/\i=.int .i64 k/\Pc wr B G ⟨ys++(l.take k).flatMap be1,[],false⟩/\Keep G w wr) (fun i _=>l.length-(intOf i).toNat)
 case atStart=>exact⟨0,Nat.zero_le _,rfl,by simpa using h,Keep.refl _ _⟩
 case round =>
  obtain⟨k,hk,rfl,hP,hK⟩:=hrel
  by_cases hkn:k<l.length
  rotate_left
  . obtain rfl:k=l.length:=by omega
    rw[List.take_length]at hP
    have g1:¬(l.length:Int)<(l.length:Int):=by omega
    go_wp2
    go_end0
    exact⟨rfl,hP,hK⟩
  obtain⟨b,off,ea,hb,d0⟩:=(HR.out.kept hK HG.out).get k hkn
  have hx:=HX.out _ (zcz hkn)
  obtain⟨x,hx0⟩:∃x,l.getD k 0=x:=⟨_,rfl⟩
  have HS:Hid (_):=zep (f:=be1) hkn hx0
  have hle:((l.take k).flatMap be1).length<=2*l.length:=zeb (fun x=>by simp[be1]) l k
  rw[hx0]at d0 hx;subst ea;clear hx0
  obtain⟨zs,hzs⟩:∃zs,(l.take k).flatMap be1=zs:=⟨_,rfl⟩
  rw[hzs]at HS hle hP
  have HT:Hid (ys++zs++be1 x=ys++(l.take (k+1)).flatMap be1):=by show _=_;rw[HS.out,List.append_assoc]
  clear hzs HS
  have hp:=zar B G _ x wr hP ⟨by omega,by omega⟩ (by show(ys++zs).length+4<=_;rw[List.length_append];omega)
  rw[put8A hx.1 hx.2]at hp
  have i1:(0:Int)<=(k:Int):=by omega
  have i2:(k:Int)<(l.length:Int):=by omega
  clear hP hx
  go_wp2_with fail
  refine hp.mono ?_
  rintro e u1 ⟨rfl,hP,hK1⟩;rw[HT.out]at hP
  replace hK:=hK.trans hK1
  clear hp hK1;go_wp2
  go_roundw
  case rel=>exact⟨k+1,by omega,by go_num,hP,hK⟩
  case measure=>simp[intOf];omega
theorem zfg(B:Nat)(G:Nat->Prop)(ys:LN)(a:OA)(cap:Nat)(l:LI)(w:World)(h:Pc w B G ⟨ys,[],false⟩)(hr:Ri w a cap l)(hG:∀b o,a=some ⟨b,o,none⟩->G b)(hx:∀x∈l,-32768<=x/\x<=65535)(hl:ys.length+2*l.length+4<=1048576) :
 Calls Tryz.prog 242 #[.func (.func 41) #[pg B] #[],.slice a l.length cap] w fun e w'=>e=.returned (.tuple #[])/\Pc w' B G ⟨ys++l.flatMap be2,[],false⟩/\Keep G w w':=by
 have k2:=hr.lenB
 have HR:Hid (Ri w a cap l):=hr
 have HX:Hid (∀x∈l,-32768<=x/\x<=65535):=hx
 have HG:Hid (∀b o,a=some ⟨b,o,none⟩->G b):=hG
 clear hr hx hG
 go_enter Tryz.func242,Tryz.ntmps242
 go_wp2
 go_loopw [8] (fun i wr=>∃k:Nat,k<=l.length/\i=.int .i64 k/\Pc wr B G ⟨ys++(l.take k).flatMap be2,[],false⟩/\Keep G w wr) (fun i _=>l.length-(intOf i).toNat)
 case atStart=>exact⟨0,Nat.zero_le _,rfl,by simpa using h,Keep.refl _ _⟩
 case round =>
  obtain⟨k,hk,rfl,hP,hK⟩:=hrel
  by_cases hkn:k<l.length
  rotate_left
  . obtain rfl:k=l.length:=by omega
    rw[List.take_length]at hP
    have g1:¬(l.length:Int)<(l.length:Int):=by omega
    go_wp2
    go_end0
    exact⟨rfl,hP,hK⟩
  obtain⟨b,off,ea,hb,d0⟩:=(HR.out.kept hK HG.out).get k hkn
  have hx:=HX.out _ (zcz hkn)
  obtain⟨x,hx0⟩:∃x,l.getD k 0=x:=⟨_,rfl⟩
  have HS:Hid (_):=zep (f:=be2) hkn hx0
  have hle:((l.take k).flatMap be2).length<=2*l.length:=zeb (fun x=>by simp[be2]) l k
  rw[hx0]at d0 hx;subst ea;clear hx0
  obtain⟨zs,hzs⟩:∃zs,(l.take k).flatMap be2=zs:=⟨_,rfl⟩
  rw[hzs]at HS hle hP
  have HT:Hid (ys++zs++be2 x=ys++(l.take (k+1)).flatMap be2):=by show _=_;rw[HS.out,List.append_assoc]
  clear hzs HS
  have hp:=zao B G _ x wr hP ⟨by omega,by omega⟩ (by show(ys++zs).length+4<=_;rw[List.length_append];omega)
  rw[zbx hx.1 hx.2]at hp
  have i1:(0:Int)<=(k:Int):=by omega
  have i2:(k:Int)<(l.length:Int):=by omega
  clear hP hx
  go_wp2_with fail
  refine hp.mono ?_
  rintro e u1 ⟨rfl,hP,hK1⟩;rw[HT.out]at hP
  replace hK:=hK.trans hK1
  clear hp hK1;go_wp2
  go_roundw
  case rel=>exact⟨k+1,by omega,by go_num,hP,hK⟩
  case measure=>simp[intOf];omega
theorem z5k{n:Nat}(h:n<=2000):cnE n=if n<128 then be1 (n:Int)else be2 (32768+(n:Int)):=by
 unfold cnE
 split
 . rw[zfc (by omega)]
 . unfold be2
   rw[show((32768+(n:Int))/256%256).toNat=128+n/256 by omega,show((32768+(n:Int))%256).toNat=n%256 by omega]
theorem zkf(B:Nat)(G:Nat->Prop)(n:Nat)(w:World)(h:Pc w B G ⟨[],[],false⟩)(hn:n<=2000) :
 Calls Tryz.prog 237 #[pg B,.int .i64 (n:Int)] w fun e w'=>e=.returned (.tuple #[])/\Pc w' B G ⟨cnE n,[],false⟩/\Keep G w w':=by
 have HC:Hid (_):=z5k hn
 by_cases h1:n<128
 . rw[if_pos h1]at HC
   have hp:=zar B G _ (n:Int) w h ⟨by omega,by omega⟩ (by decide)
   rw[put8A (by omega) (by omega),List.nil_append,<-HC.out]at hp
   have g1:(n:Int)<128:=by omega
   clear h HC h1
   go_enter Tryz.func237,Tryz.ntmps237
   go_wp2_with fail
   refine hp.mono ?_
   rintro e u1 ⟨rfl,hP,hK1⟩;go_wp2
   (try simp only[Exit.inBlock,Exit.then]);refine bodyPost_ret (results_none rfl _ _ _) rfl ?_
   exact⟨rfl,hP,hK1⟩
 . rw[if_neg h1]at HC
   have hp:=zao B G _ (32768+(n:Int)) w h ⟨by omega,by omega⟩ (by decide)
   rw[zbx (by omega) (by omega),List.nil_append,<-HC.out]at hp
   have g1:¬(n:Int)<128:=by omega
   clear h HC h1
   go_enter Tryz.func237,Tryz.ntmps237
   go_wp2_with fail
   refine hp.mono ?_
   rintro e u1 ⟨rfl,hP,hK1⟩;go_wp2
   go_end0
   exact⟨rfl,hP,hK1⟩
theorem zwz(B c:Nat)(G:Nat->Prop)(ys:LN)(a:OA)(cap:Nat)(l:LI)(c0:Nat)(w:World)(h:Pc w B G ⟨ys,[],false⟩)(hr:Ri w a cap l)(hG:∀b o,a=some ⟨b,o,none⟩->G b)(hc:w.cell? ⟨c,0,none⟩=some (pg B))(hGc:G c)
    (hx:(c0=0/\∀x∈l,-128<=x/\x<=255)\/(c0=1/\∀x∈l,-32768<=x/\x<=65535)) (h1:1<=l.length) (hM:l.length<=128) (hl:ys.length+600<=1048576) :
    Calls Tryz.prog 241 #[.int .i64 (128*(c0:Int)),.slice a l.length cap,pg c] w fun e w'=>e=.returned (.tuple #[])/\Pc w' B G ⟨ys++[128*c0+l.length-1]++l.flatMap (enP c0),[],false⟩/\Keep G w w':=by
 rcases hx with ⟨rfl,hx⟩|⟨rfl,hx⟩
 . obtain⟨kk,hkk⟩:∃kk:Int,128*((0:Nat):Int)=kk:=⟨_,rfl⟩
   rw[hkk]
   have hkk:kk=0:=by rw[<-hkk];rfl
   obtain⟨m,hm⟩:∃m:Nat,128*0+l.length-1=m:=⟨_,rfl⟩
   have hmi:kk+(l.length:Int)-1=(m:Int):=by omega
   rw[hm];subst hkk
   have hb1:=zfc (m:=m) (by omega)
   have hp:=zar B G _ (m:Int) w h ⟨by omega,by omega⟩ (by show ys.length+4<=_;omega)
   rw[put8A (by omega) (by omega),hb1]at hp
   have HM:Hid (0+(l.length:Int)-1=(m:Int)):=hmi
   have hw1:(l.length:Int)-1=(m:Int):=by omega
   clear h hm hb1 hmi
   go_enter Tryz.func241,Tryz.ntmps241
   go_wp2_with fail
   refine hp.mono ?_
   rintro e u1 ⟨rfl,hP,hK1⟩
   replace hr:=hr.kept hK1 hG
   replace hc:=(hK1.cell (p:=⟨c,0,none⟩) hGc).trans hc
   clear hp
   have hq:=zgs B G (ys++[m]) a cap l u1 hP hr hG hx (by rw[List.length_append,List.length_singleton];omega)
   go_wp2_with fail
   refine hq.mono ?_
   rintro e u2 ⟨rfl,hP2,hK2⟩;go_wp2
   go_end0
   exact⟨rfl,hP2,hK1.trans hK2⟩
 . obtain⟨kk,hkk⟩:∃kk:Int,128*((1:Nat):Int)=kk:=⟨_,rfl⟩
   rw[hkk]
   have hkk:kk=128:=by rw[<-hkk];rfl
   obtain⟨m,hm⟩:∃m:Nat,128*1+l.length-1=m:=⟨_,rfl⟩
   have hmi:kk+(l.length:Int)-1=(m:Int):=by omega
   rw[hm];subst hkk
   have hb1:=zfc (m:=m) (by omega)
   have hp:=zar B G _ (m:Int) w h ⟨by omega,by omega⟩ (by show ys.length+4<=_;omega)
   rw[put8A (by omega) (by omega),hb1]at hp
   have HM:Hid (128+(l.length:Int)-1=(m:Int)):=hmi
   have hw1:(128:Int)+(l.length:Int)-1=(m:Int):=hmi
   clear h hm hb1 hmi
   go_enter Tryz.func241,Tryz.ntmps241
   go_wp2_with fail
   refine hp.mono ?_
   rintro e u1 ⟨rfl,hP,hK1⟩
   replace hr:=hr.kept hK1 hG
   replace hc:=(hK1.cell (p:=⟨c,0,none⟩) hGc).trans hc
   clear hp
   have hq:=zfg B G (ys++[m]) a cap l u1 hP hr hG hx (by rw[List.length_append,List.length_singleton];omega)
   go_wp2_with fail
   refine hq.mono ?_
   rintro e u2 ⟨rfl,hP2,hK2⟩;go_wp2
   go_end0
   exact⟨rfl,hP2,hK1.trans hK2⟩
theorem zw1(B c:Nat)(G:Nat->Prop)(ys:LN)(a:OA)(cap:Nat)(l:LI)(c0:Nat)(w:World)(h:Pc w B G ⟨ys,[],false⟩)(hr:Ri w a cap l)(hG:∀b o,a=some ⟨b,o,none⟩->G b)(hc:w.cell? ⟨c,0,none⟩=some (pg B))(hGc:G c)
    (hx:(c0=0/\∀x∈l,-128<=x/\x<=255)\/(c0=1/\∀x∈l,-32768<=x/\x<=65535)\/c0=2) (h1:1<=l.length) (hM:l.length<=64) (hl:ys.length+600<=1048576) :
    Calls Tryz.prog 245 #[.int .i64 (64*(c0:Int)),.slice a l.length cap,pg c] w fun e w'=>e=.returned (.tuple #[])/\Pc w' B G ⟨ys++[64*c0+l.length-1]++l.flatMap (enC c0),[],false⟩/\Keep G w w':=by
 rcases hx with ⟨rfl,hx⟩|⟨rfl,hx⟩|rfl
 . obtain⟨kk,hkk⟩:∃kk:Int,64*((0:Nat):Int)=kk:=⟨_,rfl⟩
   rw[hkk]
   have hkk:kk=0:=by rw[<-hkk];rfl
   obtain⟨m,hm⟩:∃m:Nat,64*0+l.length-1=m:=⟨_,rfl⟩
   have hmi:kk+(l.length:Int)-1=(m:Int):=by omega
   rw[hm];subst hkk
   have hb1:=zfc (m:=m) (by omega)
   have hp:=zar B G _ (m:Int) w h ⟨by omega,by omega⟩ (by show ys.length+4<=_;omega)
   rw[put8A (by omega) (by omega),hb1]at hp
   have HM:Hid (0+(l.length:Int)-1=(m:Int)):=hmi
   have hw1:(l.length:Int)-1=(m:Int):=by omega
   clear h hm hb1 hmi
   go_enter Tryz.func245,Tryz.ntmps245
   go_wp2_with fail
   refine hp.mono ?_
   rintro e u1 ⟨rfl,hP,hK1⟩
   replace hr:=hr.kept hK1 hG
   replace hc:=(hK1.cell (p:=⟨c,0,none⟩) hGc).trans hc
   clear hp
   have hq:=zgs B G (ys++[m]) a cap l u1 hP hr hG hx (by rw[List.length_append,List.length_singleton];omega)
   go_wp2_with fail
   refine hq.mono ?_
   rintro e u2 ⟨rfl,hP2,hK2⟩;go_wp2
   go_end0
   exact⟨rfl,hP2,hK1.trans hK2⟩
 . obtain⟨kk,hkk⟩:∃kk:Int,64*((1:Nat):Int)=kk:=⟨_,rfl⟩
   rw[hkk]
   have hkk:kk=64:=by rw[<-hkk];rfl
   obtain⟨m,hm⟩:∃m:Nat,64*1+l.length-1=m:=⟨_,rfl⟩
   have hmi:kk+(l.length:Int)-1=(m:Int):=by omega
   rw[hm];subst hkk
   have hb1:=zfc (m:=m) (by omega)
   have hp:=zar B G _ (m:Int) w h ⟨by omega,by omega⟩ (by show ys.length+4<=_;omega)
   rw[put8A (by omega) (by omega),hb1]at hp
   have HM:Hid (64+(l.length:Int)-1=(m:Int)):=hmi
   have hw1:(64:Int)+(l.length:Int)-1=(m:Int):=hmi
   clear h hm hb1 hmi
   go_enter Tryz.func245,Tryz.ntmps245
   go_wp2_with fail
   refine hp.mono ?_
   rintro e u1 ⟨rfl,hP,hK1⟩
   replace hr:=hr.kept hK1 hG
   replace hc:=(hK1.cell (p:=⟨c,0,none⟩) hGc).trans hc
   clear hp
   have hq:=zfg B G (ys++[m]) a cap l u1 hP hr hG hx (by rw[List.length_append,List.length_singleton];omega)
   go_wp2_with fail
   refine hq.mono ?_
   rintro e u2 ⟨rfl,hP2,hK2⟩;go_wp2
   go_end0
   exact⟨rfl,hP2,hK1.trans hK2⟩
 . obtain⟨kk,hkk⟩:∃kk:Int,64*((2:Nat):Int)=kk:=⟨_,rfl⟩
   rw[hkk]
   have hkk:kk=128:=by rw[<-hkk];rfl
   obtain⟨m,hm⟩:∃m:Nat,64*2+l.length-1=m:=⟨_,rfl⟩
   have hmi:kk+(l.length:Int)-1=(m:Int):=by omega
   rw[hm];subst hkk
   have hb1:=zfc (m:=m) (by omega)
   have hp:=zar B G _ (m:Int) w h ⟨by omega,by omega⟩ (by show ys.length+4<=_;omega)
   rw[put8A (by omega) (by omega),hb1]at hp
   have HM:Hid (128+(l.length:Int)-1=(m:Int)):=hmi
   have hw1:(128:Int)+(l.length:Int)-1=(m:Int):=hmi
   clear h hm hb1 hmi
   go_enter Tryz.func245,Tryz.ntmps245
   go_wp2_with fail
   refine hp.mono ?_
   rintro e u1 ⟨rfl,hP,hK1⟩
   replace hr:=hr.kept hK1 hG
   replace hc:=(hK1.cell (p:=⟨c,0,none⟩) hGc).trans hc
   clear hp;go_wp2
   go_end0
   exact⟨rfl,by rw[show l.flatMap (enC 2)=[]from List.flatMap_eq_nil_iff.2 (fun x _=>rfl),List.append_nil];exact hP,hK1⟩
theorem zwy{m:LI}{k c0:Nat}(hx:∀x∈m,DP x)(hr:rn PP.c PP.M m=k)(hc:kdP (m.getD 0 0)=c0):(c0=0/\∀x∈m.take k,-128<=x/\x<=255)\/(c0=1/\∀x∈m.take k,-32768<=x/\x<=65535):=by
 have hk:=zda (P:=PP) (l:=m)
 rw[hr]at hk
 have hk':∀x∈m.take k,kdP x=c0:=fun x h=>(hk x h).trans hc
 rcases zby (m.getD 0 0)with ⟨_,h⟩|⟨_,h⟩
 . refine .inr ⟨by omega,fun x h1=>?_⟩
   have:=hx x (List.mem_of_mem_take h1)
   unfold DP at this
   omega
 . refine .inl ⟨by omega,fun x h1=>?_⟩
   have h2:=hx x (List.mem_of_mem_take h1)
   have h3:=hk' x h1
   unfold DP at h2
   rcases zby x with h4|h4 <;> omega
theorem zw0{m:LI}{k c0:Nat}(hx:∀x∈m,DC x)(hr:rn PC.c PC.M m=k)(hc:kdC (m.getD 0 0)=c0):(c0=0/\∀x∈m.take k,-128<=x/\x<=255)\/(c0=1/\∀x∈m.take k,-32768<=x/\x<=65535)\/c0=2:=by
 have hk:=zda (P:=PC) (l:=m)
 rw[hr]at hk
 have hk':∀x∈m.take k,kdC x=c0:=fun x h=>(hk x h).trans hc
 rcases zbz (m.getD 0 0)with ⟨_,h⟩|⟨_,_,h⟩|⟨_,_,h⟩
 . exact .inr (.inr (by omega))
 . refine .inr (.inl ⟨by omega,fun x h1=>?_⟩)
   have:=hx x (List.mem_of_mem_take h1)
   unfold DC at this
   omega
 . refine .inl ⟨by omega,fun x h1=>?_⟩
   have h3:=hk' x h1
   rcases zbz x with h4|h4|h4 <;> omega
theorem zt0(B c:Nat)(G:Nat->Prop)(ys:LN)(a:OA)(cap:Nat)(l:LI)(w:World)(h:Pc w B G ⟨ys,[],false⟩)(hr:Ri w a cap l)(hG:∀b o,a=some ⟨b,o,none⟩->G b)(hc:w.cell? ⟨c,0,none⟩=some (pg B))(hGc:G c)
    (hx:∀x∈l,DP x) (hl2:l.length<=2000) (hl:(ys++pk PP l).length<=20000) :
    Calls Tryz.prog 238 #[.slice a l.length cap,.int .i64 128,.func (.func 240) #[] #[],.func (.func 241) #[] #[pg c]] w fun e w'=>e=.returned (.tuple #[])/\Pc w' B G ⟨ys++pk PP l,[],false⟩/\Keep G w w':=by
 obtain⟨tot,zs6⟩:∃t,ys++pk PP l=t:=⟨_,rfl⟩
 rw[zs6]at hl ⊢
 have HC:Hid (w.cell? ⟨c,0,none⟩=some (pg B)):=hc
 have HGc:Hid (G c):=hGc
 have zzr:Hid (ys++pk PP l=tot):=zs6
 clear hc hGc zs6
 go_enter Tryz.func238,Tryz.ntmps238
 go_wp2
 go_loopw [0] (fun v wr=>∃(m:LI) (a':OA) (cap':Nat) (zs:LN),v=.slice a' m.length cap'/\Ri wr a' cap' m/\(∀b o,a'=some ⟨b,o,none⟩->G b)/\zs++pk PP m=tot/\(∀x∈m,DP x)/\m.length<=2000/\Pc wr B G ⟨zs,[],false⟩/\Keep G w wr) (fun v _=>slLen v)
 case atStart=>exact⟨l,a,cap,ys,rfl,hr,hG,zzr.out,hx,hl2,h,Keep.refl _ _⟩
 case round =>
  clear h hr hG hx hl2 zzr;obtain⟨m,a',cap',zs,rfl,hr,hG,ht,hx,hl2,hP,hK⟩:=hrel
  have HT:Hid (zs++pk PP m=tot):=ht
  have hzl:zs.length<=20000:=by rw[<-ht,List.length_append]at hl;omega
  have HX:Hid (∀x∈m,DP x):=hx
  have HG:Hid (∀b o,a'=some ⟨b,o,none⟩->G b):=hG
  have HR:Hid (Ri wr a' cap' m):=hr
  have hcp:=hr.2.1
  have hcm:=hr.2.2.1
  unfold maxLen at hcm
  clear ht hx hG hr
  by_cases hm0:0<m.length
  rotate_left
  . obtain rfl:m=[]:=List.length_eq_zero_iff.1 (by omega)
    have HZ:Hid (zs=tot):=by show _=_;rw[<-HT.out,zsc,List.append_nil]
    rw[HZ.out]at hP;clear HT HX HG HR HZ hzl hm0 hl2 hcp;go_wp2
    go_end0
    exact⟨rfl,hP,hK⟩
  obtain⟨b,off,ea,hb,d0⟩:=HR.out.get 0 hm0
  obtain⟨x0,hx0⟩:∃x,m.getD 0 0=x:=⟨_,rfl⟩
  rw[hx0,Nat.add_zero]at d0
  have hk0:=zor x0 wr
  obtain⟨c0,hc0⟩:∃k,kdP x0=k:=⟨_,rfl⟩
  obtain⟨cz,hcz⟩:∃z:Int,128*(c0:Int)=z:=⟨_,rfl⟩
  rw[hc0,hcz]at hk0
  have HCZ:Hid (128*(c0:Int)=cz):=hcz
  have HK0:Hid (kdP (m.getD 0 0)=c0):=by show _=_;rw[hx0];exact hc0
  have hc3:c0<=2:=by rw[<-hc0];rcases zby x0 with h | h <;> omega
  subst ea;clear hx0 hc0 hcz
  have g0:(0:Int)<(m.length:Int):=by omega
  go_wp2_with fail
  refine hk0.mono ?_
  rintro e u ⟨rfl,rfl⟩;clear hk0 d0
  obtain⟨wo,rfl⟩:∃wo,wo=wr:=⟨_,rfl⟩
  go_upto_block 2 with fail
  go_cut [9]from 18 to 35 (fun s9 wx=>∃k:Nat,s9=.int .i64 (k:Int)/\rn PP.c PP.M m=k/\1<=k/\k<=m.length/\k<=128/\wo=wx)
  case first =>
   go_wp2_with fail
   go_loopw [9] (fun s9 wr=>∃k:Nat,1<=k/\k<=m.length/\k<=128/\s9=.int .i64 (k:Int)/\(∀j,j<k->kdP (m.getD j 0)=c0)/\wo=wr) (fun s9 _=>m.length-(intOf s9).toNat)
   case atStart=>exact⟨1,Nat.le_refl _,by omega,by omega,rfl,(fun j hj=>by rw[show j=0 by omega];exact HK0.out),rfl⟩
   case round =>
    obtain⟨k,hk1,hk2,hkM,rfl,hsm,rfl⟩:=hrel
    have HSM:Hid (∀j,j<k->kdP (m.getD j 0)=c0):=hsm
    clear hsm
    obtain⟨mn,hmn⟩:∃n:Nat,min (m.length:Int) 128=(n:Int):=⟨min m.length 128,by omega⟩
    have z4r:(mn=m.length/\m.length<=128)\/(mn=128/\128<=m.length):=by omega
    by_cases h1:k<mn
    rotate_left
    . have HRN:Hid (rn PP.c PP.M m=k):=rn_eq (c:=kdP) (M:=128) hk1 hkM hk2 (fun j hj=>(HSM.out j hj).trans HK0.out.symm) (by omega)
      have g1:decide (k<mn)=false:=decide_eq_false h1
      clear HSM h1 z4r;go_wp2
      go_meet
      exact⟨k,rfl,HRN.out,hk1,hk2,hkM,rfl⟩
    obtain⟨b',off',ea',hb',d1⟩:=HR.out.get k (by omega)
    obtain⟨x,hxk⟩:∃x,m.getD k 0=x:=⟨_,rfl⟩
    rw[hxk]at d1
    have zpq:=zor x wo
    have g1:decide (k<mn)=true:=decide_eq_true h1
    have i1:(0:Int)<=(k:Int):=by omega
    have i2:(k:Int)<(m.length:Int):=by omega
    cases ea'
    by_cases h2:kdP x=c0
    . have z5u:Hid (∀j,j<k+1->kdP (m.getD j 0)=c0):=fun j hj=>by
        rcases Nat.lt_or_ge j k with h3|h3
        . exact HSM.out j h3
        . rw[show j=k by omega,hxk];exact h2
      rw[h2,HCZ.out]at zpq
      have g2:(cz==cz)=true:=by simp
      clear HSM hxk h2
      go_wp2_with fail
      refine zpq.mono ?_
      rintro e u ⟨rfl,rfl⟩;clear zpq;go_wp2
      go_roundw
      case rel=>exact⟨k+1,by omega,by omega,by omega,by go_num,z5u.out,trivial⟩
      case measure=>simp[intOf];omega
    . have HRN:Hid (rn PP.c PP.M m=k):=rn_eq (c:=kdP) (M:=128) hk1 hkM hk2 (fun j hj=>(HSM.out j hj).trans HK0.out.symm) (.inr (.inr (by rw[hxk,HK0.out];exact h2)))
      obtain⟨cx,hcx⟩:∃z:Int,128*((kdP x:Nat):Int)=z:=⟨_,rfl⟩
      have g2:(cx==cz)=false:=beq_eq_false_iff_ne.2 (by have:=HCZ.out;omega)
      rw[hcx]at zpq;clear HSM hxk h2 hcx
      go_wp2_with fail
      refine zpq.mono ?_
      rintro e u ⟨rfl,rfl⟩;clear zpq;go_wp2
      go_meet
      exact⟨k,rfl,HRN.out,hk1,hk2,hkM,rfl⟩
  case rest =>
   obtain⟨k,rfl,hrn,hk1,hk2,hkM,rfl⟩:=hcut
   have hkl:(m.take k).length=k:=by rw[List.length_take];omega
   have z12:=zwz B c G zs (some ⟨b,off,none⟩) cap' (m.take k) c0 wo hP (HR.out.take k) HG.out ((hK.cell (p:=⟨c,0,none⟩) HGc.out).trans HC.out) HGc.out (zwy HX.out hrn HK0.out) (by omega) (by omega) (by omega)
   rw[hkl,HCZ.out]at z12
   have HT2:Hid (zs++[128*c0+k-1]++(m.take k).flatMap (enP c0)++pk PP (m.drop k)=tot):=by
    show _=_
    have:=zsa (P:=PP) (by decide) (l:=m) (i:=0) (e:=k) (c0:=c0) (h:=128*c0+k-1) (ys:=zs) (tot:=tot) hm0 (by rw[List.drop_zero];exact hrn) (by omega) HK0.out (by show _=128*c0+(k-0)-1;omega) (by rw[List.drop_zero];exact HT.out)
    rw[List.drop_zero]at this
    exact this
   have HX2:Hid (∀x∈m.drop k,DP x):=fun x hx=>HX.out x (List.mem_of_mem_drop hx)
   have zb1:(some ⟨b,off,none⟩:OA).map (fun x=>x.add k)=some ⟨b,off+k,none⟩:=by show some (Addr.add _ k)=_;rw[show(⟨b,off,none⟩:Addr).add k=⟨b,off+k,none⟩ by unfold Addr.add;split <;> simp_all]
   have hrd:=HR.out.from k hk2
   rw[zb1]at hrd
   have HRD:Hid (Ri wo (if cap'=k then some ⟨b,off,none⟩else some ⟨b,off+k,none⟩) (cap'-k) (m.drop k)):=hrd
   have hdl:(m.drop k).length=m.length-k:=List.length_drop
   have HGF:Hid (∀b1 o,(if cap'=k then some ⟨b,off,none⟩else some ⟨b,off+k,none⟩:OA)=some ⟨b1,o,none⟩->G b1):=fun b1 o e=>by
    split at e <;> (cases e;exact HG.out b off rfl)
   clear zb1 hrd;clear hrn hkl HT HX HK0 HR
   go_wp2_with fail
   refine z12.mono ?_
   rintro e u1 ⟨rfl,hP2,hK2⟩
   have HRD2:Hid (Ri u1 (if cap'=k then some ⟨b,off,none⟩else some ⟨b,off+k,none⟩) (cap'-k) (m.drop k)):=HRD.out.kept hK2 HGF.out
   replace hK:=hK.trans hK2
   clear z12 hP hK2 HRD;go_wp2
   go_roundw
   case rel=>exact⟨m.drop k,_,_,_,by rw[hdl],HRD2.out,HGF.out,HT2.out,HX2.out,by omega,hP2,hK⟩
   case measure=>show m.length-k<m.length;omega
theorem zt1(B c:Nat)(G:Nat->Prop)(ys:LN)(a:OA)(cap:Nat)(l:LI)(w:World)(h:Pc w B G ⟨ys,[],false⟩)(hr:Ri w a cap l)(hG:∀b o,a=some ⟨b,o,none⟩->G b)(hc:w.cell? ⟨c,0,none⟩=some (pg B))(hGc:G c)
    (hx:∀x∈l,DC x) (hl2:l.length<=2000) (hl:(ys++pk PC l).length<=20000) :
    Calls Tryz.prog 238 #[.slice a l.length cap,.int .i64 64,.func (.func 244) #[] #[],.func (.func 245) #[] #[pg c]] w fun e w'=>e=.returned (.tuple #[])/\Pc w' B G ⟨ys++pk PC l,[],false⟩/\Keep G w w':=by
 obtain⟨tot,zs6⟩:∃t,ys++pk PC l=t:=⟨_,rfl⟩
 rw[zs6]at hl ⊢
 have HC:Hid (w.cell? ⟨c,0,none⟩=some (pg B)):=hc
 have HGc:Hid (G c):=hGc
 have zzr:Hid (ys++pk PC l=tot):=zs6
 clear hc hGc zs6
 go_enter Tryz.func238,Tryz.ntmps238
 go_wp2
 go_loopw [0] (fun v wr=>∃(m:LI) (a':OA) (cap':Nat) (zs:LN),v=.slice a' m.length cap'/\Ri wr a' cap' m/\(∀b o,a'=some ⟨b,o,none⟩->G b)/\zs++pk PC m=tot/\(∀x∈m,DC x)/\m.length<=2000/\Pc wr B G ⟨zs,[],false⟩/\Keep G w wr) (fun v _=>slLen v)
 case atStart=>exact⟨l,a,cap,ys,rfl,hr,hG,zzr.out,hx,hl2,h,Keep.refl _ _⟩
 case round =>
  clear h hr hG hx hl2 zzr;obtain⟨m,a',cap',zs,rfl,hr,hG,ht,hx,hl2,hP,hK⟩:=hrel
  have HT:Hid (zs++pk PC m=tot):=ht
  have hzl:zs.length<=20000:=by rw[<-ht,List.length_append]at hl;omega
  have HX:Hid (∀x∈m,DC x):=hx
  have HG:Hid (∀b o,a'=some ⟨b,o,none⟩->G b):=hG
  have HR:Hid (Ri wr a' cap' m):=hr
  have hcp:=hr.2.1
  have hcm:=hr.2.2.1
  unfold maxLen at hcm
  clear ht hx hG hr
  by_cases hm0:0<m.length
  rotate_left
  . obtain rfl:m=[]:=List.length_eq_zero_iff.1 (by omega)
    have HZ:Hid (zs=tot):=by show _=_;rw[<-HT.out,zsc,List.append_nil]
    rw[HZ.out]at hP;clear HT HX HG HR HZ hzl hm0 hl2 hcp;go_wp2
    go_end0
    exact⟨rfl,hP,hK⟩
  obtain⟨b,off,ea,hb,d0⟩:=HR.out.get 0 hm0
  obtain⟨x0,hx0⟩:∃x,m.getD 0 0=x:=⟨_,rfl⟩
  rw[hx0,Nat.add_zero]at d0
  have hk0:=zos x0 wr
  obtain⟨c0,hc0⟩:∃k,kdC x0=k:=⟨_,rfl⟩
  obtain⟨cz,hcz⟩:∃z:Int,64*(c0:Int)=z:=⟨_,rfl⟩
  rw[hc0,hcz]at hk0
  have HCZ:Hid (64*(c0:Int)=cz):=hcz
  have HK0:Hid (kdC (m.getD 0 0)=c0):=by show _=_;rw[hx0];exact hc0
  have hc3:c0<=2:=by rw[<-hc0];rcases zbz x0 with h | h | h <;> omega
  subst ea;clear hx0 hc0 hcz
  have g0:(0:Int)<(m.length:Int):=by omega
  go_wp2_with fail
  refine hk0.mono ?_
  rintro e u ⟨rfl,rfl⟩;clear hk0 d0
  obtain⟨wo,rfl⟩:∃wo,wo=wr:=⟨_,rfl⟩
  go_upto_block 2 with fail
  go_cut [9]from 18 to 35 (fun s9 wx=>∃k:Nat,s9=.int .i64 (k:Int)/\rn PC.c PC.M m=k/\1<=k/\k<=m.length/\k<=64/\wo=wx)
  case first =>
   go_wp2_with fail
   go_loopw [9] (fun s9 wr=>∃k:Nat,1<=k/\k<=m.length/\k<=64/\s9=.int .i64 (k:Int)/\(∀j,j<k->kdC (m.getD j 0)=c0)/\wo=wr) (fun s9 _=>m.length-(intOf s9).toNat)
   case atStart=>exact⟨1,Nat.le_refl _,by omega,by omega,rfl,(fun j hj=>by rw[show j=0 by omega];exact HK0.out),rfl⟩
   case round =>
    obtain⟨k,hk1,hk2,hkM,rfl,hsm,rfl⟩:=hrel
    have HSM:Hid (∀j,j<k->kdC (m.getD j 0)=c0):=hsm
    clear hsm
    obtain⟨mn,hmn⟩:∃n:Nat,min (m.length:Int) 64=(n:Int):=⟨min m.length 64,by omega⟩
    have z4r:(mn=m.length/\m.length<=64)\/(mn=64/\64<=m.length):=by omega
    by_cases h1:k<mn
    rotate_left
    . have HRN:Hid (rn PC.c PC.M m=k):=rn_eq (c:=kdC) (M:=64) hk1 hkM hk2 (fun j hj=>(HSM.out j hj).trans HK0.out.symm) (by omega)
      have g1:decide (k<mn)=false:=decide_eq_false h1
      clear HSM h1 z4r;go_wp2
      go_meet
      exact⟨k,rfl,HRN.out,hk1,hk2,hkM,rfl⟩
    obtain⟨b',off',ea',hb',d1⟩:=HR.out.get k (by omega)
    obtain⟨x,hxk⟩:∃x,m.getD k 0=x:=⟨_,rfl⟩
    rw[hxk]at d1
    have zpq:=zos x wo
    have g1:decide (k<mn)=true:=decide_eq_true h1
    have i1:(0:Int)<=(k:Int):=by omega
    have i2:(k:Int)<(m.length:Int):=by omega
    cases ea'
    by_cases h2:kdC x=c0
    . have z5u:Hid (∀j,j<k+1->kdC (m.getD j 0)=c0):=fun j hj=>by
        rcases Nat.lt_or_ge j k with h3|h3
        . exact HSM.out j h3
        . rw[show j=k by omega,hxk];exact h2
      rw[h2,HCZ.out]at zpq
      have g2:(cz==cz)=true:=by simp
      clear HSM hxk h2
      go_wp2_with fail
      refine zpq.mono ?_
      rintro e u ⟨rfl,rfl⟩;clear zpq;go_wp2
      go_roundw
      case rel=>exact⟨k+1,by omega,by omega,by omega,by go_num,z5u.out,trivial⟩
      case measure=>simp[intOf];omega
    . have HRN:Hid (rn PC.c PC.M m=k):=rn_eq (c:=kdC) (M:=64) hk1 hkM hk2 (fun j hj=>(HSM.out j hj).trans HK0.out.symm) (.inr (.inr (by rw[hxk,HK0.out];exact h2)))
      obtain⟨cx,hcx⟩:∃z:Int,64*((kdC x:Nat):Int)=z:=⟨_,rfl⟩
      have g2:(cx==cz)=false:=beq_eq_false_iff_ne.2 (by have:=HCZ.out;omega)
      rw[hcx]at zpq;clear HSM hxk h2 hcx
      go_wp2_with fail
      refine zpq.mono ?_
      rintro e u ⟨rfl,rfl⟩;clear zpq;go_wp2
      go_meet
      exact⟨k,rfl,HRN.out,hk1,hk2,hkM,rfl⟩
  case rest =>
   obtain⟨k,rfl,hrn,hk1,hk2,hkM,rfl⟩:=hcut
   have hkl:(m.take k).length=k:=by rw[List.length_take];omega
   have z12:=zw1 B c G zs (some ⟨b,off,none⟩) cap' (m.take k) c0 wo hP (HR.out.take k) HG.out ((hK.cell (p:=⟨c,0,none⟩) HGc.out).trans HC.out) HGc.out (zw0 HX.out hrn HK0.out) (by omega) (by omega) (by omega)
   rw[hkl,HCZ.out]at z12
   have HT2:Hid (zs++[64*c0+k-1]++(m.take k).flatMap (enC c0)++pk PC (m.drop k)=tot):=by
    show _=_
    have:=zsa (P:=PC) (by decide) (l:=m) (i:=0) (e:=k) (c0:=c0) (h:=64*c0+k-1) (ys:=zs) (tot:=tot) hm0 (by rw[List.drop_zero];exact hrn) (by omega) HK0.out (by show _=64*c0+(k-0)-1;omega) (by rw[List.drop_zero];exact HT.out)
    rw[List.drop_zero]at this
    exact this
   have HX2:Hid (∀x∈m.drop k,DC x):=fun x hx=>HX.out x (List.mem_of_mem_drop hx)
   have zb1:(some ⟨b,off,none⟩:OA).map (fun x=>x.add k)=some ⟨b,off+k,none⟩:=by show some (Addr.add _ k)=_;rw[show(⟨b,off,none⟩:Addr).add k=⟨b,off+k,none⟩ by unfold Addr.add;split <;> simp_all]
   have hrd:=HR.out.from k hk2
   rw[zb1]at hrd
   have HRD:Hid (Ri wo (if cap'=k then some ⟨b,off,none⟩else some ⟨b,off+k,none⟩) (cap'-k) (m.drop k)):=hrd
   have hdl:(m.drop k).length=m.length-k:=List.length_drop
   have HGF:Hid (∀b1 o,(if cap'=k then some ⟨b,off,none⟩else some ⟨b,off+k,none⟩:OA)=some ⟨b1,o,none⟩->G b1):=fun b1 o e=>by
    split at e <;> (cases e;exact HG.out b off rfl)
   clear zb1 hrd;clear hrn hkl HT HX HK0 HR
   go_wp2_with fail
   refine z12.mono ?_
   rintro e u1 ⟨rfl,hP2,hK2⟩
   have HRD2:Hid (Ri u1 (if cap'=k then some ⟨b,off,none⟩else some ⟨b,off+k,none⟩) (cap'-k) (m.drop k)):=HRD.out.kept hK2 HGF.out
   replace hK:=hK.trans hK2
   clear z12 hP hK2 HRD;go_wp2
   go_roundw
   case rel=>exact⟨m.drop k,_,_,_,by rw[hdl],HRD2.out,HGF.out,HT2.out,HX2.out,by omega,hP2,hK⟩
   case measure=>show m.length-k<m.length;omega
structure CodP:Prop where
 pts:∀(a:OA) (cap:Nat) (l:LI) (w:World),Ri w a cap l->l.length<=3000->Calls Tryz.prog 188 #[.slice a l.length cap] w fun e w'=>∃a' c',e=.returned (.tuple #[.slice a' (ppB l).length c',.int .i64 (ppE l)])/\Rb w' a' c' (ppB l)/\Below w.heap.size w w'
 rpts:∀(a:OA) (cap:Nat) (b:LN) (w:World),Rb w a cap b->b.length<=10000->Calls Tryz.prog 195 #[.slice a b.length cap] w fun e w'=>∃a' c',e=.returned (.tuple #[.slice a' (rpL b).length c',.int .i64 (rpN b),.int .i64 (rpE b)])/\Ri w' a' c' (rpL b)/\Below w.heap.size w w'
 chs:∀(a:OA) (cap:Nat) (l:LI) (w:World),Ri w a cap l->l.length<=3000->Calls Tryz.prog 189 #[.slice a l.length cap] w fun e w'=>∃a' c',e=.returned (.tuple #[.slice a' (pcB l).length c',.int .i64 (pcE l)])/\Rb w' a' c' (pcB l)/\Below w.heap.size w w'
 rchs:∀(a:OA) (cap:Nat) (b:LN) (n:Int) (w:World),Rb w a cap b->b.length<=10000->I64 n->Calls Tryz.prog 253 #[.slice a b.length cap,.int .i64 n] w fun e w'=>∃a' c',e=.returned (.tuple #[.slice a' (rcL b n).length c',.int .i64 (rcN b n),.int .i64 (rcE b n)])/\Ri w' a' c' (rcL b n)/\Below w.heap.size w w'
theorem zwb{l:LI}(h:ptB l=true):(ppB l).length<=3*l.length+2:=by
 obtain⟨h1,h2⟩:=zdf h
 have:=zit fitP (m:=3) (fun x _=>by show szP (kdP x)+1<=3;unfold szP;split <;> omega) _ (stps 0 l) rfl h1
 have h3:(cnE l.length).length<=2:=by unfold cnE;split <;> simp
 rw[zb3]at this;rw[ppB,if_pos h,List.length_append]
 omega
theorem zuf(a:OA)(cap:Nat)(l:LI)(w:World)(h:Ri w a cap l)(hl:l.length<=2000)(hx:∀k,k<l.length->0<=l.getD k 0/\l.getD k 0<=65535) :
 Calls Tryz.prog 239 #[.slice a l.length cap] w fun e w'=>∃a' cap',e=.returned (.slice a' (stps 0 l).length cap')/\Ri w' a' cap' (stps 0 l)/\(∀b o,a'=some ⟨b,o,none⟩->w.heap.size<=b/\b<w'.heap.size)/\Below w.heap.size w w':=by
 obtain⟨i0,hi0,hz0,hz1,hz2⟩:=info_parts zcc
 obtain⟨w1,hmk,hown,hgrow⟩:=run_makeSlice_owned w w.heap.size 29 3 i0 _ 1 Tryz.underlying29 hi0 hz0 hz1 .i64 .i64 l.length (by omega) (by rw[hz2];omega) (by unfold maxLen;omega) (Nat.le_refl _)
 have hI0:Io w.heap.size w1 (.slice (some ⟨w.heap.size,0,none⟩) 0 l.length) (stpK l 0):=⟨fun t ht=>(by cases ht),hown⟩
 have hB1:Below w.heap.size w w1:=(Below.refl _ _).grown hgrow (Nat.le_refl _) (fun k hk=>by cases hk)
 clear hown hgrow hi0 hz0 hz1 hz2
 have HH:Hid (Ri w a cap l):=h
 have HXX:Hid (∀k,k<l.length->0<=l.getD k 0/\l.getD k 0<=65535):=hx
 clear h hx
 go_enter Tryz.func239,Tryz.ntmps239
 go_wp2
 go_loopw [3,4,12] (fun v ah i wr=>∃(k:Nat) (z:Int),k<=l.length/\i=.int .i64 k/\ah=.int .i64 z/\z=(if k=0 then 0 else l.getD (k-1) 0)/\Io w.heap.size wr v (stpK l k)/\Below w.heap.size w wr) (fun _ _ i _=>l.length-(intOf i).toNat)
 case atStart=>exact⟨0,0,Nat.zero_le _,rfl,rfl,rfl,hI0,hB1⟩
 case round =>
  obtain⟨k,z,hk,rfl,rfl,hz,hT,hB⟩:=hrel;obtain⟨a2,c2,rfl,hts⟩:=hT.slice
  have hlen:=zm9 l k
  rw[hlen]at hT ⊢
  have hll:(stpK l k).length+1<=1000000:=by omega
  have HT:Hid (Io w.heap.size wr (.slice a2 k c2) (stpK l k)):=hT
  clear hT hlen hmk hI0 hB1
  by_cases hkn:k<l.length
  rotate_left
  . obtain rfl:k=l.length:=by omega
    have HB2:Hid (∀b o,a2=some ⟨b,o,none⟩->w.heap.size<=b/\b<wr.heap.size):=fun b o e=>by
     subst e
     exact World.ownsRow.lt HT.out.2 b rfl
    have g1:¬(l.length:Int)<(l.length:Int):=by omega
    clear hz;go_wp2
    go_ret
    exact⟨a2,c2,by rw[zb3];rfl,by rw[<-z0c];exact hts,HB2.out,hB⟩
  clear hts
  obtain⟨b,off,ea,hb,d0⟩:=HH.out.at hB k hkn
  subst ea
  have hzb:0<=z/\z<=65535:=by
   rw[hz]
   split
   . omega
   . exact HXX.out _ (by omega)
  have hxb:=HXX.out k hkn
  have HS:Hid (stpK l (k+1)=stpK l k++[l.getD k 0-z]):=by
   show _=_
   rw[zra,hz]
   by_cases h0:k=0
   . rw[if_pos h0,if_pos h0,h0,Int.sub_zero]
   . rw[if_neg h0,if_neg h0]
  obtain⟨x,hx⟩:∃x,l.getD k 0=x:=⟨_,rfl⟩
  have HZ2:Hid (x=(if k+1=0 then 0 else l.getD (k+1-1) 0)):=by show _=_;rw[if_neg (by omega),Nat.add_sub_cancel,hx]
  rw[hx]at d0 HS hxb;clear hz hx
  obtain⟨y,hy⟩:∃y,x-z=y:=⟨_,rfl⟩
  rw[hy]at HS
  have hyi:I64 y:=⟨by omega,by omega⟩
  have hT5:=HT.out.below (bl1 (.cells #[.int .i64 y] 3))
  have hN:=heap_alloc_new wr (.cells #[.int .i64 y] 3)
  have n0:=cell_of_row _ wr.heap.size 0 _ _ (0,0) hN
  have hbs:w.heap.size<=(wr.alloc (.cells #[.int .i64 y] 3)).heap.size:=Nat.le_trans hB.size (bl1 _).size
  have i1:(0:Int)<=(k:Int):=by omega
  have i2:(k:Int)<(l.length:Int):=by omega
  clear hN
  go_wp2_with (at_builtin;refine zal rfl _ _ rfl w.heap.size _ (stpK l k) rfl hT5 wr.heap.size y rfl n0 hyi hll hbs ?_)
  intro v' w9 hT9 hgrow
  have hB9:Below w.heap.size w w9:=(hB.alloc hB.size _).grown hgrow hbs (fun k hk=>HT.out.lo hk)
  rw[<-HS.out]at hT9;clear hgrow hT5 n0 hbs;go_wp2
  go_roundw
  case rel=>exact⟨k+1,x,by omega,by go_num,rfl,HZ2.out,hT9,hB9⟩
  case measure=>simp[intOf];omega
theorem zi8(A l:LI)(k:Nat)(hA:A.length=k):(A++l.drop k).getD k 0=l.getD k 0:=by
 simp[List.getD,List.getElem?_append,hA,List.getElem?_drop]
theorem zvf{l:LI}{k:Nat}{y:Int}(hk:k<l.length)(hy:l.getD k 0=y):(sums 0 (l.take k)++l.drop k).set k (lastS 0 (l.take k)+y)=sums 0 (l.take (k+1))++l.drop (k+1)/\lastS 0 (l.take (k+1))=lastS 0 (l.take k)+y:=by
 have e:l.take (k+1)=l.take k++[y]:=by
  rw[List.take_add_one,List.getElem?_eq_getElem hk,<-hy]
  simp[List.getD,hk]
 have d:l.drop k=y::l.drop (k+1):=by
  rw[List.drop_eq_getElem_cons hk,<-hy]
  simp[List.getD,hk]
 have hlen:(sums 0 (l.take k)).length=k:=by rw[zm7,List.length_take];omega
 rw[e,zli,zkn,d]
 refine⟨?_,rfl⟩
 rw[List.set_append_right _ _ (by omega),hlen,Nat.sub_self]
 simp[sums]
theorem zw2:∀(l:LI) (a:Int),(∀z∈l,0<=z/\z<=65535)->a<=lastS a l/\lastS a l<=a+65535*l.length:=by
 intro l
 induction l with
 | nil=>intro a _;simp[lastS]
 | cons d t ih =>
  intro a h
  have h1:=h d (by simp)
  have h2:=ih (a+d) (fun z hz=>h z (by simp[hz]))
  rw[lastS,List.length_cons]
  omega
theorem zqf(base:Nat)(v:Value)(l:LI)(w:World)(h:Io base w v l)(hx:∀z∈l,0<=z/\z<=65535)(hl:l.length<=40000) :
 Calls Tryz.prog 252 #[v] w fun e w'=>e=.returned (.tuple #[])/\Io base w' v (sums 0 l)/\Below base w w':=by
 obtain⟨a,cap,rfl,hri⟩:=h.slice
 have HXX:Hid (∀z∈l,0<=z/\z<=65535):=hx
 clear hx hri
 go_enter Tryz.func252,Tryz.ntmps252
 go_wp2
 go_loopw [2,7] (fun sm i wr=>∃(k:Nat) (s:Int),k<=l.length/\i=.int .i64 k/\sm=.int .i64 s/\s=lastS 0 (l.take k)/\Io base wr (.slice a l.length cap) (sums 0 (l.take k)++l.drop k)/\Below base w wr) (fun _ i _=>l.length-(intOf i).toNat)
 case atStart=>exact⟨0,0,Nat.zero_le _,rfl,rfl,rfl,h,Below.refl _ _⟩
 case round =>
  clear h;obtain⟨k,s,hk,rfl,rfl,hs,hT,hB⟩:=hrel
  by_cases hkn:k<l.length
  rotate_left
  . obtain rfl:k=l.length:=by omega
    rw[List.take_length,List.drop_length,List.append_nil]at hT
    have g1:¬(l.length:Int)<(l.length:Int):=by omega
    clear hs;go_wp2
    go_end0
    exact⟨rfl,hT,hB⟩
  have hsl:=zm7 0 (l.take k)
  rw[List.length_take,show min k l.length=k by omega]at hsl
  have hne:sums 0 (l.take k)++l.drop k≠[]:=by
   intro e
   have:=congrArg List.length e
   rw[List.length_append,List.length_drop,hsl]at this
   simp at this
   omega
  have hLl:(sums 0 (l.take k)++l.drop k).length=l.length:=by rw[List.length_append,List.length_drop,hsl];omega
  obtain⟨g,cp,ev,hgb,hgl,hgc,hgx,hgf,hgs⟩:=hT.own hne
  have d0:=hgx k (by omega)
  rw[zi8 _ l k hsl]at d0
  have hyb:=HXX.out _ (zcz hkn)
  obtain⟨y,hy⟩:∃y,l.getD k 0=y:=⟨_,rfl⟩
  obtain⟨hs1,hs2⟩:=zvf hkn hy
  have hsb:=zw2 (l.take k) 0 (fun z hz=>HXX.out z (List.mem_of_mem_take hz))
  rw[List.length_take]at hsb;rw[<-hs]at hs1 hs2 hsb;rw[hy]at d0 hyb
  obtain⟨t,ht⟩:∃t,s+y=t:=⟨_,rfl⟩
  rw[ht]at hs1 hs2
  have hti:I64 t:=⟨by omega,by omega⟩
  have hst:=hgs k t (by omega) hti
  rw[hs1]at hst
  have hfz:=hgf k
  have hBs:Below base w (wr.setCell ⟨g,k,none⟩ (.int .i64 t)):=hB.setCell (p:=⟨g,k,none⟩) hgb _
  have HS2:Hid (t=lastS 0 (l.take (k+1))):=hs2.symm
  have HST:Hid (Io base (wr.setCell ⟨g,k,none⟩ (.int .i64 t)) (.slice a l.length cap) (sums 0 (l.take (k+1))++l.drop (k+1))):=hst
  have hev:a=some ⟨g,0,none⟩:=by injection ev
  subst hev
  have i1:(0:Int)<=(k:Int):=by omega
  have i2:(k:Int)<(l.length:Int):=by omega
  have ht1:-9223372036854775808<=t/\t<=9223372036854775807:=hti
  clear hs hT hsl hne hLl hgx hgs hs1 hs2 hst hy ev hsb hyb hgf hti;go_wp2
  go_roundw
  case rel=>exact⟨k+1,t,by omega,by go_num,rfl,HS2.out,HST.out,hBs⟩
  case measure=>simp[intOf];omega
theorem zqu{w W:World}(hW:W=(w.alloc (.cells #[.slice none 0 0,.int .i64 0,.map none,.bool false] 90)).alloc (.cells #[pg w.heap.size] 87)) :
 Pc W w.heap.size (fun k=>k<w.heap.size\/k=w.heap.size+1) ⟨[],[],false⟩/\W.cell? ⟨w.heap.size+1,0,none⟩=some (pg w.heap.size)/\Below w.heap.size w W:=by
 have h1:=ziv w (· < w.heap.size) (fun _ h=>h)
 have hs:(w.alloc (.cells #[.slice none 0 0,.int .i64 0,.map none,.bool false] 90)).heap.size=w.heap.size+1:=by simp
 have h2:=h1.moreA (.cells #[pg w.heap.size] 87)
 have hN:=heap_alloc_new (w.alloc (.cells #[.slice none 0 0,.int .i64 0,.map none,.bool false] 90)) (.cells #[pg w.heap.size] 87)
 rw[hs,<-hW]at hN;rw[hs,<-hW]at h2
 refine⟨h2,cell_of_row _ (w.heap.size+1) 0 _ _ (0,0) hN,?_⟩
 rw[hW]
 exact bl2 _ _
theorem zms(a:OA)(cap:Nat)(l:LI)(w:World)(h:Ri w a cap l) :
 Calls Tryz.prog 188 #[.slice a l.length cap] w fun e w'=>∃a' c',e=.returned (.tuple #[.slice a' (ppB l).length c',.int .i64 (ppE l)])/\Rb w' a' c' (ppB l)/\Below w.heap.size w w':=by
 have k2:=h.lenB
 have hfo:=zhb a cap l w h
 cases hc:ptB l with
 | false =>
  have HE:Hid (ppE l=1/\ppB l=[]):=⟨by simp[ppE,hc],by simp[ppB,hc]⟩
  rw[hc]at hfo;clear hc h
  go_enter Tryz.func188,Tryz.ntmps188
  go_wp2_with fail
  refine hfo.mono ?_
  rintro e u1 ⟨rfl,rfl⟩;clear hfo;go_wp2
  go_ret2
  exact⟨none,0,by rw[HE.out.1,HE.out.2];rfl,by rw[HE.out.2];exact Rb.nil _ _ _ (Nat.zero_le _) (fun _=>rfl),Below.refl _ _⟩
 | true =>
  have HE:Hid (ppE l=0/\ppB l=cnE l.length++pk PP (stps 0 l)):=⟨by simp[ppE,hc],by simp[ppB,hc]⟩
  have hst:=zdf hc
  have hl2:=hst.2
  have HST:Hid (∀z∈stps 0 l,DP z):=hst.1
  have HXX:Hid (∀k,k<l.length->0<=l.getD k 0/\l.getD k 0<=65535):=fun k hk=>⟨(zyw hc hk).1,(zyw hc hk).2.1⟩
  have hsh:=zwb hc
  rw[HE.out.2]at hsh
  have HSH:Hid ((cnE l.length++pk PP (stps 0 l)).length<=20000):=by show _<=_;omega
  rw[hc]at hfo;clear hc hst hsh
  go_enter Tryz.func188,Tryz.ntmps188
  go_wp2_with fail
  refine hfo.mono ?_
  rintro e u1 ⟨rfl,rfl⟩;clear hfo
  obtain⟨W,hW⟩:∃W,W=(w.alloc (.cells #[.slice none 0 0,.int .i64 0,.map none,.bool false] 90)).alloc (.cells #[pg w.heap.size] 87):=⟨_,rfl⟩
  obtain⟨hP,hcl,hB⟩:=zqu hW
  have hpc:=zkf w.heap.size _ l.length W hP hl2
  go_wp2_with fail
  rw[<-hW]
  refine hpc.mono ?_
  rintro e u1 ⟨rfl,hP1,hK1⟩;clear hpc hP hW
  replace hcl:=(hK1.cell (p:=⟨w.heap.size+1,0,none⟩) (.inr rfl)).trans hcl
  replace hB:Below w.heap.size w u1:=hB.trans (hK1.below (fun k hk=>.inl hk))
  have hdf:=zuf a cap l u1 (h.below hB) hl2 HXX.out
  clear hK1
  go_wp2_with fail
  refine hdf.mono ?_
  rintro e u2 ⟨a2,c2,rfl,hri,hbk,hb2⟩;clear hdf
  have hP2:=hP1.wider hb2
  have hcb:=World.block_lt_of_cell? u1 _ hcl
  have hcl2:u2.cell? ⟨w.heap.size+1,0,none⟩=some (pg w.heap.size):=(hb2.cell (p:=⟨w.heap.size+1,0,none⟩) hcb).trans hcl
  have hea:=zt0 w.heap.size (w.heap.size+1) _ _ a2 c2 (stps 0 l) u2 hP2 hri (fun b o e=>.inr (hbk b o e)) hcl2 (.inl (.inr rfl)) HST.out (by rw[zb3];exact hl2) HSH.out
  replace hB:Below w.heap.size w u2:=hB.trans (hb2.mono hB.size)
  clear hP1 hP2 hcb hcl hbk hb2 hri
  go_wp2_with fail
  refine hea.mono ?_
  rintro e u3 ⟨rfl,hP3,hK3⟩;clear hea
  have hcl3:u3.cell? ⟨w.heap.size+1,0,none⟩=some (pg w.heap.size):=(hK3.cell (p:=⟨w.heap.size+1,0,none⟩) (.inl (.inr rfl))).trans hcl2
  replace hB:Below w.heap.size w u3:=hB.trans (hK3.below (fun k hk=>.inl (.inl hk)))
  have hal:=zfd w.heap.size _ _ u3 hP3 (by have:=HSH.out;show(cnE l.length++pk PP (stps 0 l)).length<=_;omega)
  rw[all_B,all_E,<-HE.out.2]at hal;clear hP3 hK3 hcl2
  go_wp2_with fail
  refine hal.mono ?_
  rintro e u4 ⟨a4,c4,rfl,hrw,hb4⟩;clear hal
  replace hB:Below w.heap.size w u4:=hB.trans (hb4.mono hB.size)
  go_wp2
  go_ret2
  exact⟨a4,c4,by rw[HE.out.1];rfl,Rw.rd hrw,hB⟩
theorem zp2(B c:Nat)(G:Nat->Prop)(a:OA)(cap:Nat)(l:LI)(w:World)(h:Pc w B G ⟨[],[],false⟩)(h0:l=[]) :
 Calls Tryz.prog 238 #[.slice a l.length cap,.int .i64 64,.func (.func 244) #[] #[],.func (.func 245) #[] #[pg c]] w fun e w'=>e=.returned (.tuple #[])/\Pc w' B G ⟨[]++pk PC l,[],false⟩/\Keep G w w':=by
 subst h0;rw[zsc,List.append_nil,List.length_nil]
 go_enter Tryz.func238,Tryz.ntmps238
 go_wp2
 go_loopw [0] (fun v wr=>v=.slice a 0 cap/\w=wr) (fun _ _=>0)
 case atStart=>exact⟨rfl,rfl⟩
 case round =>
  obtain⟨rfl,rfl⟩:=hrel;go_wp2
  go_end0
  exact⟨rfl,h,Keep.refl _ _⟩
theorem zk8(a:OA)(cap:Nat)(l:LI)(w:World)(h:Ri w a cap l) :
 Calls Tryz.prog 189 #[.slice a l.length cap] w fun e w'=>∃a' c',e=.returned (.tuple #[.slice a' (pcB l).length c',.int .i64 (pcE l)])/\Rb w' a' c' (pcB l)/\Below w.heap.size w w':=by
 have k2:=h.lenB
 have hfo:=zmr a cap l w h
 cases hc:chB l with
 | false =>
  have HE:Hid (pcE l=1/\pcB l=[]):=⟨by simp[pcE,hc],by simp[pcB,hc]⟩
  rw[hc]at hfo;clear hc h
  go_enter Tryz.func189,Tryz.ntmps189
  go_wp2_with fail
  refine hfo.mono ?_
  rintro e u1 ⟨rfl,rfl⟩;clear hfo;go_wp2
  go_ret2
  exact⟨none,0,by rw[HE.out.1,HE.out.2];rfl,by rw[HE.out.2];exact Rb.nil _ _ _ (Nat.zero_le _) (fun _=>rfl),Below.refl _ _⟩
 | true =>
  have HE:Hid (pcE l=0/\pcB l=pk PC l):=⟨by simp[pcE,hc],by simp[pcB,hc]⟩
  have hl2:=(zdk.1 hc).2
  have HST:Hid (∀z∈l,DC z):=(zdk.1 hc).1
  have hsh:=zeg hc
  rw[HE.out.2]at hsh
  have HSH:Hid (([]++pk PC l).length<=20000):=by show _<=_;rw[List.nil_append];omega
  rw[hc]at hfo;clear hc hsh
  go_enter Tryz.func189,Tryz.ntmps189
  go_wp2_with fail
  refine hfo.mono ?_
  rintro e u1 ⟨rfl,rfl⟩;clear hfo
  obtain⟨W,hW⟩:∃W,W=(w.alloc (.cells #[.slice none 0 0,.int .i64 0,.map none,.bool false] 90)).alloc (.cells #[pg w.heap.size] 87):=⟨_,rfl⟩
  obtain⟨hP,hcl,hB⟩:=zqu hW
  have hrn:l=[]\/∀b o,a=some ⟨b,o,none⟩->b<w.heap.size:=by
   rcases h.2.2.2 with h0|⟨b,off,e,hb,_⟩
   . exact .inl h0
   . exact .inr (fun b' o e'=>by rw[e]at e';cases e';exact hb)
  obtain⟨n,hn⟩:∃n,l.length=n:=⟨_,rfl⟩
  have hea:Calls Tryz.prog 238 #[.slice a l.length cap,.int .i64 64,.func (.func 244) #[] #[],.func (.func 245) #[] #[pg (w.heap.size+1)]] W fun e w'=>e=.returned (.tuple #[])/\Pc w' w.heap.size (fun k=>k<w.heap.size\/k=w.heap.size+1) ⟨[]++pk PC l,[],false⟩/\Keep (fun k=>k<w.heap.size\/k=w.heap.size+1) W w':=by
   rcases hrn with h0|h0
   . exact zp2 _ _ _ a cap l W hP h0
   . exact zt1 w.heap.size (w.heap.size+1) _ [] a cap l W hP (h.below hB) (fun b o e=>.inl (h0 b o e)) hcl (.inr rfl) HST.out hl2 HSH.out
  clear hP h hrn hn
  go_wp2_with fail
  rw[<-hW];clear hW
  refine hea.mono ?_
  rintro e u3 ⟨rfl,hP3,hK3⟩;clear hea
  have hcl3:u3.cell? ⟨w.heap.size+1,0,none⟩=some (pg w.heap.size):=(hK3.cell (p:=⟨w.heap.size+1,0,none⟩) (.inr rfl)).trans hcl
  replace hB:Below w.heap.size w u3:=hB.trans (hK3.below (fun k hk=>.inl hk))
  rw[List.nil_append]at hP3
  have hal:=zfd w.heap.size _ _ u3 hP3 (by have:=HSH.out;rw[List.nil_append]at this;show(pk PC l).length<=_;omega)
  rw[all_B,all_E,<-HE.out.2]at hal;clear hP3 hK3 hcl
  go_wp2_with fail
  refine hal.mono ?_
  rintro e u4 ⟨a4,c4,rfl,hrw,hb4⟩;clear hal
  replace hB:Below w.heap.size w u4:=hB.trans (hb4.mono hB.size)
  go_wp2
  go_ret2
  exact⟨a4,c4,by rw[HE.out.1];rfl,Rw.rd hrw,hB⟩
