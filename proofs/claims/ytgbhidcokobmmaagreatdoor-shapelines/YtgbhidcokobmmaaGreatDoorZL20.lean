import Derived.Test.YtgbhidcokobmmaaGreatDoorZL19
import Derived.Laws.RangeAny
set_option maxHeartbeats 4000000
set_option maxRecDepth 100000
set_option linter.unusedSimpArgs false
set_option linter.unusedVariables false
namespace Go.Proofs.YtgbhidcokobmmaaGreatDoor
open Go.RowKit Go.Maps
def CnE:El Cn:=(El.int.cat (El.int.cat El.int)).via (fun x=>(x.ax,x.ls,x.ms)) Cn.none
def FtE:El Ft:=(El.str.cat El.int.row).via (fun x=>(x.tg,x.lk)) Ft.none
def SwE:El Sw:=(CnE.row.cat (El.int.cat El.int.row)).via (fun x=>(x.cn,x.ft,x.lk)) Sw.none
def CnW(x:Cn):Prop:=I64 x.ax/\I64 x.ls/\I64 x.ms
def cnC(x:Cn):List Value:=[.int .i64 x.ax,.int .i64 x.ls,.int .i64 x.ms]
theorem zxk{S:Nat->Prop}{w:World}{vs:List Value}{x:Cn}:CnE.rep S w vs x↔vs=cnC x/\CnW x:=by
 constructor
 . rintro ⟨us,ts,rfl,⟨rfl,h1⟩,us2,ts2,rfl,⟨rfl,h2⟩,⟨rfl,h3⟩⟩
   exact⟨rfl,h1,h2,h3⟩
 . rintro ⟨rfl,h1,h2,h3⟩
   exact⟨[_],_,rfl,⟨rfl,h1⟩,[_],[_],rfl,⟨rfl,h2⟩,⟨rfl,h3⟩⟩
theorem zxj{S:Nat->Prop}{w:World}{vs:List Value}{x:Ft}:FtE.rep S w vs x ↔ ∃a c,vs=[.string x.tg,.slice a x.lk.length c]/\x.tg.size<=maxLen/\El.int.row.rep S w [.slice a x.lk.length c] x.lk:=by
 constructor
 . rintro ⟨us,ts,rfl,⟨rfl,h1⟩,h2⟩
   have r2:=h2
   obtain⟨a,c,e,_⟩:=h2;subst e
   exact⟨a,c,rfl,h1,r2⟩
 . rintro ⟨a,c,rfl,h1,h2⟩
   exact⟨[_],[_],rfl,⟨rfl,h1⟩,h2⟩
theorem zxa{S:Nat->Prop}{w:World}{vs:List Value}{x:Sw}:SwE.rep S w vs x ↔ ∃a c a' c',vs=[.slice a x.cn.length c,.int .i64 x.ft,.slice a' x.lk.length c']/\CnE.row.rep S w [.slice a x.cn.length c] x.cn/\I64 x.ft/\El.int.row.rep S w [.slice a' x.lk.length c'] x.lk:=by
 constructor
 . rintro ⟨us,ts,rfl,h1,us2,ts2,rfl,⟨rfl,h2⟩,h3⟩
   have r1:=h1
   have r3:=h3
   obtain⟨a,c,e,_⟩:=h1;obtain⟨a',c',e',_⟩:=h3;subst e e'
   exact⟨a,c,a',c',rfl,r1,h2,r3⟩
 . rintro ⟨a,c,a',c',rfl,h1,h2,h3⟩
   exact⟨[_],[_,_],rfl,h1,[_],[_],rfl,⟨rfl,h2⟩,h3⟩
theorem zb0{α:Type}{E:El α}{S:Nat->Prop}{w:World}{a:Option Addr}{c:Nat}{l:List α}(h:E.row.rep S w [.slice a l.length c] l):Gr E S w a c l/\l.length<=140737488351232/\∀b o,a=some ⟨b,o,none⟩->l≠[]->S b:=by
 obtain⟨a',c',e,h0,h1,h2⟩:=h;injection e with e;injection e with e1 e2 e3;subst e1 e3
 exact⟨h1,h2,h0⟩
theorem Gr.cn{S:Nat->Prop}{w wr:World}{a:Option Addr}{cap:Nat}{l:List Cn}(h:Gr CnE S w a cap l)(hb:Below w.heap.size w wr)(k:Nat)(hk:k<l.length) :
 ∃b off,a=some ⟨b,off,none⟩/\b<w.heap.size/\CnW (l.getD k Cn.none)/\wr.cell? ⟨b,off+k*3,none⟩=some (.int .i64 (l.getD k Cn.none).ax)/\wr.cell? ⟨b,off+k*3+1,none⟩=some (.int .i64 (l.getD k Cn.none).ls)/\wr.cell? ⟨b,off+k*3+2,none⟩=some (.int .i64 (l.getD k Cn.none).ms):=by
 obtain⟨b,off,vs,e,hl,hr,hc⟩:=h.at hb k hk
 obtain⟨rfl,hw⟩:=zxk.1 hr
 exact⟨b,off,e,hl,hw,hc 0 (by decide),hc 1 (by decide),hc 2 (by decide)⟩
theorem Gr.ft{S:Nat->Prop}{w wr:World}{a:Option Addr}{cap:Nat}{l:List Ft}(h:Gr FtE S w a cap l)(hb:Below w.heap.size w wr)(k:Nat)(hk:k<l.length) :
 ∃b off a' c',a=some ⟨b,off,none⟩/\b<w.heap.size/\(l.getD k Ft.none).tg.size<=maxLen/\wr.cell? ⟨b,off+k*2,none⟩=some (.string (l.getD k Ft.none).tg)/\wr.cell? ⟨b,off+k*2+1,none⟩=some (.slice a' (l.getD k Ft.none).lk.length c')/\El.int.row.rep S wr [.slice a' (l.getD k Ft.none).lk.length c'] (l.getD k Ft.none).lk:=by
 obtain⟨b,off,vs,e,hl,hr,hc⟩:=(h.below hb).at (Below.refl _ _) k hk
 obtain⟨b2,off2,vs2,e2,hl2,_⟩:=h.at hb k hk
 obtain⟨a',c',rfl,h1,h2⟩:=zxj.1 hr
 rw[e]at e2
 cases e2
 exact⟨b,off,a',c',e,hl2,h1,hc 0 (by decide),hc 1 (by decide),h2⟩
theorem Gr.sw{S:Nat->Prop}{w wr:World}{a:Option Addr}{cap:Nat}{l:List Sw}(h:Gr SwE S w a cap l)(hb:Below w.heap.size w wr)(k:Nat)(hk:k<l.length) :
 ∃b off a' c' a2 c2,a=some ⟨b,off,none⟩/\b<w.heap.size/\I64 (l.getD k Sw.none).ft/\wr.cell? ⟨b,off+k*3,none⟩=some (.slice a' (l.getD k Sw.none).cn.length c')/\wr.cell? ⟨b,off+k*3+1,none⟩=some (.int .i64 (l.getD k Sw.none).ft)/\wr.cell? ⟨b,off+k*3+2,none⟩=some (.slice a2 (l.getD k Sw.none).lk.length c2)/\CnE.row.rep S wr [.slice a' (l.getD k Sw.none).cn.length c'] (l.getD k Sw.none).cn/\El.int.row.rep S wr [.slice a2 (l.getD k Sw.none).lk.length c2] (l.getD k Sw.none).lk:=by
 obtain⟨b,off,vs,e,hl,hr,hc⟩:=(h.below hb).at (Below.refl _ _) k hk
 obtain⟨b2,off2,vs2,e2,hl2,_⟩:=h.at hb k hk
 obtain⟨a',c',a2,c2,rfl,h1,h2,h3⟩:=zxa.1 hr
 rw[e]at e2
 cases e2
 exact⟨b,off,a',c',a2,c2,e,hl2,h2,hc 0 (by decide),hc 1 (by decide),hc 2 (by decide),h1,h3⟩
theorem Gr.in1{S:Nat->Prop}{w wr:World}{a:Option Addr}{cap:Nat}{l:List Int}(h:Gr El.int S w a cap l)(hb:Below w.heap.size w wr)(k:Nat)(hk:k<l.length) :
 ∃b off,a=some ⟨b,off,none⟩/\b<w.heap.size/\I64 (l.getD k 0)/\wr.cell? ⟨b,off+k,none⟩=some (.int .i64 (l.getD k 0)):=by
 obtain⟨b,off,vs,e,hl,hr,hc⟩:=h.at hb k hk
 obtain⟨rfl,hw⟩:=El.int_rep.1 hr
 have:=hc 0 Nat.one_pos
 rw[show k*El.int.sz=k from Nat.mul_one k]at this
 exact⟨b,off,e,hl,hw,this⟩
theorem Gr.st1{S:Nat->Prop}{w wr:World}{a:Option Addr}{cap:Nat}{l:List ByteArray}(h:Gr El.str S w a cap l)(hb:Below w.heap.size w wr)(k:Nat)(hk:k<l.length) :
 ∃b off,a=some ⟨b,off,none⟩/\b<w.heap.size/\(l.getD k ⟨#[]⟩).size<=maxLen/\wr.cell? ⟨b,off+k,none⟩=some (.string (l.getD k ⟨#[]⟩)):=by
 obtain⟨b,off,vs,e,hl,⟨rfl,hw⟩,hc⟩:=h.at hb k hk
 have:=hc 0 Nat.one_pos
 rw[show k*El.str.sz=k from Nat.mul_one k]at this
 exact⟨b,off,e,hl,hw,this⟩
theorem zbn:(Tryz.prog.info? 3).map (fun i=>(i.zero,i.size,i.bytes))=some (some (.int .i64 0),1,8):=by kernel_rfl
theorem zc4{α:Type}{m:List α}{d:α}{k:Nat}(hk:k<m.length):m.getD k d∈m:=by rw[List.getD_eq_getElem?_getD,List.getElem?_eq_getElem hk];exact List.getElem_mem hk
theorem zgb{α:Type}{m:List α}{d:α}{k:Nat}(hk:k<m.length):m.take (k+1)=m.take k++[m.getD k d]:=by
 rw[List.take_add_one,List.getElem?_eq_getElem hk,List.getD_eq_getElem?_getD,List.getElem?_eq_getElem hk]
 rfl
def nuF(n m:Int):Bool:=decide (0<=n)&&decide (n<m)
theorem ziv(n m:Int)(w:World) :
 Calls Tryz.prog 83 #[.int .i64 n,.int .i64 m] w fun e w'=>e=.returned (.bool (nuF n m))/\w=w':=by
 by_cases h0:0<=n
 . by_cases h1:n<m
   . have hV:Hid (nuF n m=true):=by show _=_;unfold nuF;simp[h0,h1]
     go_enter Tryz.func83,Tryz.ntmps83
     go_wp2
     go_ret
     exact⟨zaa hV.out.symm,rfl⟩
   . have hV:Hid (nuF n m=false):=by show _=_;unfold nuF;simp[h1]
     go_enter Tryz.func83,Tryz.ntmps83
     go_wp2
     go_ret
     exact⟨zaa hV.out.symm,rfl⟩
 . have hV:Hid (nuF n m=false):=by show _=_;unfold nuF;simp[h0]
   go_enter Tryz.func83,Tryz.ntmps83
   go_wp2
   go_ret
   exact⟨zaa hV.out.symm,rfl⟩
theorem zpo{n m:Int}:nuF n m=true↔0<=n/\n<m:=by unfold nuF;rw[Bool.and_eq_true,decide_eq_true_iff,decide_eq_true_iff]
theorem zya{n m:Int}(h:nuF n m=false):¬(0<=n/\n<m):=fun h2=>by rw[zpo.2 h2]at h;cases h
structure FewF(l:List Ft)(s:List Sw):Prop where
 len:l.length+s.length<=300
 lk:∀k,k<l.length->(l.getD k Ft.none).lk.length<=300
 sw:∀k,k<s.length->(s.getD k Sw.none).lk.length<=300/\(s.getD k Sw.none).cn.length<=300
theorem FewF.lkM{l:List Ft}{s:List Sw}(h:FewF l s):∀f∈l,f.lk.length<=1000:=by
 intro f hf
 obtain⟨k,hk,e⟩:=List.getElem_of_mem hf
 have h1:=h.lk k hk
 rw[List.getD_eq_getElem?_getD,List.getElem?_eq_getElem hk,Option.getD_some,e]at h1
 omega
theorem FewF.swM{l:List Ft}{s:List Sw}(h:FewF l s):∀x∈s,x.lk.length<=1000:=by
 intro f hf
 obtain⟨k,hk,e⟩:=List.getElem_of_mem hf
 have h1:=(h.sw k hk).1
 rw[List.getD_eq_getElem?_getD,List.getElem?_eq_getElem hk,Option.getD_some,e]at h1
 omega
structure FwA(l:List Ft)(s:List Sw)(k j:Nat)(z:Int):Prop where
 len:(l.length:Int)+(s.length:Int)<=z
 lk:∀i,i<k->((l.getD i Ft.none).lk.length:Int)<=z
 sw:∀i,i<j->((s.getD i Sw.none).lk.length:Int)+((s.getD i Sw.none).cn.length:Int)<=z
theorem FwA.more{l:List Ft}{s:List Sw}{k:Nat}{z:Int}(h:FwA l s k 0 z)(h0:0<=z):FwA l s (k+1) 0 (z+((l.getD k Ft.none).lk.length:Int)):=by
 refine⟨by have:=h.len;omega,fun i hi=>?_,fun i hi=>by omega⟩
 rcases Nat.lt_or_ge i k with h1|h1
 . have:=h.lk i h1;omega
 . rw[show i=k by omega];omega
theorem FwA.moreS{l:List Ft}{s:List Sw}{k j:Nat}{z:Int}(h:FwA l s k j z)(h0:0<=z):FwA l s k (j+1) (z+(((s.getD j Sw.none).lk.length:Int)+((s.getD j Sw.none).cn.length:Int))):=by
 refine⟨by have:=h.len;omega,fun i hi=>by have:=h.lk i hi;omega,fun i hi=>?_⟩
 rcases Nat.lt_or_ge i j with h1|h1
 . have:=h.sw i h1;omega
 . rw[show i=j by omega];omega
theorem FwA.few{l:List Ft}{s:List Sw}{z:Int}(h:FwA l s l.length s.length z)(h0:z<=300):FewF l s :=
 ⟨by have:=h.len;omega,fun k hk=>by have:=h.lk k hk;omega,fun k hk=>by have:=h.sw k hk;omega⟩
structure BoolF(P:Prop)(e:Ending):Prop where
 out:∃q:Bool,e=.returned (.bool q)/\(q=true->P)
theorem zmy(S S2:Nat->Prop)(a:Option Addr)(ca:Nat)(l:List Ft)(b:Option Addr)(cb:Nat)(s:List Sw)(w:World)(hl:Gr FtE S w a ca l)(hs:Gr SwE S2 w b cb s)(kl:l.length<=140737488351232)(ks:s.length<=140737488351232) :
 Calls Tryz.prog 53 #[.slice a l.length ca,.slice b s.length cb] w fun e w'=>BoolF (FewF l s) e/\Below w.heap.size w w':=by
 have HA:Hid (Gr FtE S w a ca l):=hl
 have HC:Hid (Gr SwE S2 w b cb s):=hs
 have HF0:Hid (FwA l s 0 0 ((l.length:Int)+(s.length:Int))):=⟨by omega,fun i hi=>by omega,fun i hi=>by omega⟩
 clear hl hs
 go_enter Tryz.func53,Tryz.ntmps53
 go_upto_block 0 with fail
 go_cut [5]from 6 to 30 (fun v wx=>∃z:Int,v=.int .i64 z/\0<=z/\z<=1000000000000000000/\Hid (z<=300->FwA l s l.length 0 z)/\Below w.heap.size w wx)
 case first =>
  go_wp2_with fail
  go_loopw [5,6] (fun v i wr=>∃(k:Nat) (z:Int),k<=l.length/\v=.int .i64 z/\0<=z/\z<=1000000000000000000/\i=.int .i64 k/\Hid (FwA l s k 0 z)/\Below w.heap.size w wr) (fun _ i _=>l.length-(intOf i).toNat)
  case atStart=>exact⟨0,_,Nat.zero_le _,rfl,by omega,by omega,rfl,HF0,Below.refl _ _⟩
  case round =>
   clear HF0;obtain⟨k,z,hk,rfl,hz1,hz3,rfl,HF,hB⟩:=hrel
   by_cases hkn:k<l.length
   . have g1:decide ((k:Int)<(l.length:Int))=true:=decide_eq_true (by omega)
     by_cases hz2:z<=300
     . have g2:decide (z<=300)=true:=decide_eq_true hz2
       obtain⟨b1,o1,a1,c1,ea,_,_,d0,d1,r1⟩:=HA.out.ft hB k hkn
       have hpl:=(zb0 r1).2.1
       have HN:Hid (FwA l s (k+1) 0 (z+((l.getD k Ft.none).lk.length:Int))):=HF.out.more hz1
       generalize (l.getD k Ft.none).lk.length=n1 at *
       subst ea;clear r1 d0 hkn HF
       have i1:(0:Int)<=(k:Int):=by omega
       have i2:(k:Int)<(l.length:Int):=of_decide_eq_true g1
       go_wp2_with fail
       go_roundw
       case rel=>exact⟨k+1,_,by omega,rfl,by omega,by omega,by go_num,HN,hB⟩
       case measure=>simp[intOf];omega
     . have g2:decide (z<=300)=false:=decide_eq_false hz2
       have i2:(k:Int)<(l.length:Int):=by omega
       have HN:Hid (z<=300->FwA l s l.length 0 z):=fun h=>absurd h hz2
       clear hkn HF
       go_wp2_with fail
       go_meet
       exact⟨z,rfl,hz1,hz3,HN,hB⟩
   . have g1:decide ((k:Int)<(l.length:Int))=false:=decide_eq_false (by omega)
     have i2:¬(k:Int)<(l.length:Int):=by omega
     have HN:Hid (z<=300->FwA l s l.length 0 z):=fun _=>by rw[show l.length=k by omega];exact HF.out
     clear hkn HF
     go_wp2_with fail
     go_meet
     exact⟨z,rfl,hz1,hz3,HN,hB⟩
 case rest =>
  clear HF0;obtain⟨z0,rfl,hy1,hy3,HZ0,hBW⟩:=hcut
  go_wp2_with fail
  have HBW:Hid (_):=hBW
  clear hBW
  go_loopw [5,7] (fun v i wr=>∃(k:Nat) (z:Int),k<=s.length/\v=.int .i64 z/\0<=z/\z<=1000000000000000000/\i=.int .i64 k/\Hid (z<=300->FwA l s l.length k z)/\Below w.heap.size w wr) (fun _ i _=>s.length-(intOf i).toNat)
  case atStart=>exact⟨0,_,Nat.zero_le _,rfl,by omega,by omega,rfl,HZ0,HBW.out⟩
  case round =>
   clear HZ0 HBW;obtain⟨k,z,hk,rfl,hz1,hz3,rfl,HF,hB⟩:=hrel
   by_cases hkn:k<s.length
   . have g1:decide ((k:Int)<(s.length:Int))=true:=decide_eq_true (by omega)
     by_cases hz2:z<=300
     . have g2:decide (z<=300)=true:=decide_eq_true hz2
       obtain⟨b1,o1,a1,c1,a2,c2,ea,_,_,d0,d1,d2,q1,r1⟩:=HC.out.sw hB k hkn
       have hpl:=(zb0 r1).2.1
       have hpc:=(zb0 q1).2.1
       have HN:Hid (FwA l s l.length (k+1) (z+(((s.getD k Sw.none).lk.length:Int)+((s.getD k Sw.none).cn.length:Int)))):=(HF.out hz2).moreS hz1
       generalize (s.getD k Sw.none).lk.length=n1 at *
       generalize (s.getD k Sw.none).cn.length=n2 at *
       subst ea
       have HN2:Hid (z+((n1:Int)+(n2:Int))<=300->FwA l s l.length (k+1) (z+((n1:Int)+(n2:Int)))):=fun _=>HN.out
       clear r1 q1 hkn HF HN
       have i1:(0:Int)<=(k:Int):=by omega
       have i2:(k:Int)<(s.length:Int):=of_decide_eq_true g1
       go_wp2_with fail
       go_quiet (fail)
       have hBn:=hB.trans ((below_drewN (Below.refl wr.heap.size wr) nq).mono hB.size)
       generalize wr.drewN nq=uf at hBn
       clear d0 d1 d2;go_wp2
       go_roundw
       case rel=>exact⟨k+1,_,by omega,rfl,by omega,by omega,by go_num,HN2,hBn⟩
       case measure=>simp[intOf];omega
     . have g2:decide (z<=300)=false:=decide_eq_false hz2
       have i2:(k:Int)<(s.length:Int):=by omega
       clear hkn HF
       go_wp2_with fail
       go_ret
       exact⟨⟨_,rfl,fun h=>by cases h⟩,hB⟩
   . have g1:decide ((k:Int)<(s.length:Int))=false:=decide_eq_false (by omega)
     have i2:¬(k:Int)<(s.length:Int):=by omega
     have HN:Hid (z<=300->FewF l s):=fun h=>by
      have h2:=HF.out h
      rw[show k=s.length by omega]at h2
      exact h2.few h
     clear hkn HF
     obtain⟨q,hq⟩:∃q,decide (z<=300)=q:=⟨_,rfl⟩
     have HQ:Hid (decide (z<=300)=q):=hq
     clear hq
     go_wp2_with fail
     go_ret
     exact⟨⟨_,rfl,fun h=>HN.out (of_decide_eq_true h)⟩,hB⟩
def RnE:El Rn:=(El.int.cat (El.int.cat El.int)).via (fun x=>(x.fr,x.tq,x.gl)) Rn.none
def rnC(x:Rn):List Value:=[.int .i64 x.fr,.int .i64 x.tq,.int .i64 x.gl]
def RnW(x:Rn):Prop:=I64 x.fr/\I64 x.tq/\I64 x.gl
theorem zrt{S:Nat->Prop}{w:World}{vs:List Value}{x:Rn}:RnE.rep S w vs x↔vs=rnC x/\RnW x:=by
 constructor
 . rintro ⟨us,ts,rfl,⟨rfl,h1⟩,us2,ts2,rfl,⟨rfl,h2⟩,⟨rfl,h3⟩⟩
   exact⟨rfl,h1,h2,h3⟩
 . rintro ⟨rfl,h1,h2,h3⟩
   exact⟨[_],_,rfl,⟨rfl,h1⟩,[_],[_],rfl,⟨rfl,h2⟩,⟨rfl,h3⟩⟩
theorem Gr.rn{S:Nat->Prop}{w wr:World}{a:Option Addr}{cap:Nat}{l:List Rn}(h:Gr RnE S w a cap l)(hb:Below w.heap.size w wr)(k:Nat)(hk:k<l.length) :
 ∃b off,a=some ⟨b,off,none⟩/\b<w.heap.size/\RnW (l.getD k Rn.none)/\wr.cell? ⟨b,off+k*3,none⟩=some (.int .i64 (l.getD k Rn.none).fr)/\wr.cell? ⟨b,off+k*3+1,none⟩=some (.int .i64 (l.getD k Rn.none).tq)/\wr.cell? ⟨b,off+k*3+2,none⟩=some (.int .i64 (l.getD k Rn.none).gl):=by
 obtain⟨b,off,vs,e,hl,hr,hc⟩:=h.at hb k hk
 obtain⟨rfl,hw⟩:=zrt.1 hr
 exact⟨b,off,e,hl,hw,hc 0 (by decide),hc 1 (by decide),hc 2 (by decide)⟩
def It(w:World)(g:Nat)(s:ByteArray)(pos:Nat):Prop:=w.heap[g]?=some (.stringIter s pos)
def zc6(w:World)(g:Nat)(s:ByteArray)(pos:Nat):World:={ w with heap:=w.heap.setIfInBounds g (.stringIter s pos) }
theorem zk5{z:Int}(h1:-9223372036854775808<=z)(h2:z<=9223372036854775807):IntKind.i64.wrap z=z:=by
 simp only[IntKind.wrap,IntKind.bits,IntKind.signed]
 simp
 omega
theorem It.lt{w:World}{g:Nat}{s:ByteArray}{pos:Nat}(h:It w g s pos):g<w.heap.size:=(Array.getElem?_eq_some_iff.1 h).1
theorem It.below{w w':World}{g:Nat}{s:ByteArray}{pos:Nat}(h:It w g s pos)(hb:Below w.heap.size w w'):It w' g s pos:=(hb.block g h.lt).trans h
theorem It.kept{w w':World}{g:Nat}{s:ByteArray}{pos:Nat}(h:It w g s pos)(hk:w'.heap[g]?=w.heap[g]?):It w' g s pos:=hk.trans h
theorem It.new(w:World)(s:ByteArray):It (w.alloc (.stringIter s 0)) w.heap.size s 0:=by
 show(w.heap.push (Obj.stringIter s 0))[w.heap.size]?=_
 simp
theorem It.step{w:World}{g:Nat}{s:ByteArray}{pos:Nat}(h:It w g s pos)(q:Nat):It (zc6 w g s q) g s q:=by
 show(w.heap.setIfInBounds g (.stringIter s q))[g]?=_
 simp[h.lt]
theorem zje(w:World)(g:Nat)(s:ByteArray)(q:Nat):(zc6 w g s q).heap.size=w.heap.size:=by simp[zc6]
theorem zek(w:World)(g:Nat)(s:ByteArray)(q k:Nat)(h:k≠g):(zc6 w g s q).heap[k]?=w.heap[k]?:=by
 show(w.heap.setIfInBounds g (.stringIter s q))[k]?=_
 rw[Array.getElem?_setIfInBounds_ne (fun e=>h e.symm)]
theorem zel{w0 w:World}{B g:Nat}(s:ByteArray)(q:Nat)(h:Below B w0 w)(hg:B<=g):Below B w0 (zc6 w g s q) :=
 ⟨h.os,h.tape,h.output,by rw[zje];exact h.size,fun k hk=>(zek w g s q k (by omega)).trans (h.block k hk)⟩
theorem zfi{P:Program}{w:World}{g:Nat}{s:ByteArray}{pos:Nat}(ty:TypeId)(h:It w g s pos)(hp:pos<s.size) :
 (Instr.next (.pointer (some ⟨g,0,none⟩)) true ty).run P w=.ok (.tuple #[.bool true,.int .i64 pos,.int .i32 ((dcN ((sb s).drop pos)).1:Int)]) (zc6 w g s (pos+(dcN ((sb s).drop pos)).2)):=by
 rw[<-dc_eq]
 have h':w.heap[g]?=some (.stringIter s pos):=h
 simp only[Instr.next,getObj,setObj,Sem.run_bind,Sem.run,h',Result.andThen,hp,if_true]
 simp[goInt,zc6]
theorem zdp{P:Program}{w:World}{g:Nat}{s:ByteArray}{pos:Nat}(ty:TypeId)(h:It w g s pos)(hp:¬pos<s.size) :
 (Instr.next (.pointer (some ⟨g,0,none⟩)) true ty).run P w=.ok (.tuple #[.bool false]) w:=by
 have h':w.heap[g]?=some (.stringIter s pos):=h
 simp[Instr.next,getObj,Sem.run,h',hp]
def NoR(l:List Rn)(c:Int):Prop:=∀k,k<l.length->inR (l.getD k Rn.none) c=true->I64 (c-(l.getD k Rn.none).fr)/\I64 ((l.getD k Rn.none).gl+(c-(l.getD k Rn.none).fr))
theorem znv(S:Nat->Prop)(a:Option Addr)(ca:Nat)(l:List Rn)(c:Int)(w:World)(hl:Gr RnE S w a ca l)(hc:I64 c)(hno:NoR l c) :
 Calls Tryz.prog 54 #[.slice a l.length ca,.int .i64 c] w fun e w'=>e=.returned (.int .i64 (glR c l))/\Below w.heap.size w w':=by
 have kl:=hl.lenB
 obtain⟨ca1,ca2⟩:=hc
 have HL:Hid (Gr RnE S w a ca l):=hl
 have HW:Hid (NoR l c):=hno
 clear hl hno
 go_enter Tryz.func54,Tryz.ntmps54
 go_wp2
 go_loopw [9] (fun i wr=>∃k:Nat,k<=l.length/\i=.int .i64 k/\Hid (∀j,j<k->inR (l.getD j Rn.none) c=false)/\Below w.heap.size w wr) (fun i _=>l.length-(intOf i).toNat)
 case atStart=>exact⟨0,Nat.zero_le _,rfl,(fun j hj=>by omega),Below.refl _ _⟩
 case round =>
  obtain⟨k,hk,rfl,HNO,hB⟩:=hrel
  by_cases hkn:k<l.length
  . obtain⟨b,off,rfl,hb,hW,d0,d1,d2⟩:=HL.out.rn hB k hkn
    have HFA:Hid (_):=zuu hkn HNO.out
    have HWK:Hid (_):=HW.out k hkn
    have HN2:Hid (inR (l.getD k Rn.none) c=false->∀j,j<k+1->inR (l.getD j Rn.none) c=false):=fun hn j hj=>by
     rcases Nat.lt_or_ge j k with h1|h1
     . exact HNO.out j h1
     . rw[show j=k by omega];exact hn
    generalize l.getD k Rn.none=x at *
    obtain⟨x1,x2,x3⟩:=x;obtain⟨⟨m1,m2⟩,⟨m3,m4⟩,⟨m5,m6⟩⟩:=hW
    dsimp only at *
    have hBf:=hB.trans ((bl1 (w:=wr) (.cells #[.int .i64 x1,.int .i64 x2,.int .i64 x3] 72)).mono hB.size)
    by_cases f1:x1<=c
    rotate_left
    . have e1:decide (x1<=c)=false:=decide_eq_false f1
      have HNN:Hid (_):=HN2.out (by unfold inR;exact decide_eq_false (fun h=>f1 h.1))
      clear HNO HN2 HFA HWK hB;go_wp2
      go_roundw
      case rel=>exact⟨k+1,by omega,by go_num,HNN,hBf⟩
      case measure=>simp[intOf];omega
    have e1:decide (x1<=c)=true:=decide_eq_true f1
    by_cases f2:c<=x2
    rotate_left
    . have e2:decide (c<=x2)=false:=decide_eq_false f2
      have HNN:Hid (_):=HN2.out (by unfold inR;exact decide_eq_false (fun h=>f2 h.2))
      clear HNO HN2 HFA HWK hB;go_wp2
      go_roundw
      case rel=>exact⟨k+1,by omega,by go_num,HNN,hBf⟩
      case measure=>simp[intOf];omega
    have e2:decide (c<=x2)=true:=decide_eq_true f2
    have hin:inR ⟨x1,x2,x3⟩ c=true:=by unfold inR;exact decide_eq_true ⟨f1,f2⟩
    obtain⟨⟨u1,u2⟩,⟨u3,u4⟩⟩:=HWK.out hin
    have HF:Hid (glR c l=x3+(c-x1)):=HFA.out hin
    clear HNO HN2 HFA HWK hB hin;go_wp2
    go_ret
    exact⟨zbf HF.out.symm,hBf⟩
  . have HF:Hid (glR c l=0):=zut (fun j hj=>HNO.out j (by omega))
    have g4:¬(k:Int)<(l.length:Int):=by omega
    clear HNO;go_wp2
    go_ret
    exact⟨zbf HF.out.symm,hB⟩
structure FoD where
 xa:Option Addr
 xl:Nat
 xc:Nat
 ba:Option Addr
 bl:Nat
 bc:Nat
 ga:Option Addr
 gc:Nat
 ma:Option Addr
 mc:Nat
 la:Option Addr
 lc:Nat
 ta:Option Addr
 tl:Nat
 tc:Nat
 da:Option Addr
 dl:Nat
 dc:Nat
 ra:Option Addr
 rc:Nat
 ka:Option Addr
 kc:Nat
 fa:Option Addr
 fc:Nat
 sa:Option Addr
 sc:Nat
abbrev fV (d:FoD) (x:Fo):Value:=.agg #[.slice d.xa d.xl d.xc,.slice d.ba d.bl d.bc,.slice d.ga x.s.rg.length d.gc,.slice d.ma x.s.rw.length d.mc,.slice d.la x.gl.length d.lc,.slice d.ta d.tl d.tc,.slice d.da d.dl d.dc,.slice d.ra x.rn.length d.rc,.slice d.ka x.lk.length d.kc,.slice d.fa x.ft.length d.fc,.slice d.sa x.sw.length d.sc]
structure FoR(S:Nat->Prop)(w:World)(d:FoD)(x:Fo):Prop where
 hg:Tzz w d.ga d.gc x.s.rg
 hm:Rii w d.ma d.mc x.s.rw
 hl:Gr GlE S w d.la d.lc x.gl
 hr:Gr RnE S w d.ra d.rc x.rn
 hk:Gr LkE S w d.ka d.kc x.lk
 hf:Gr FtE S w d.fa d.fc x.ft
 hs:Gr SwE S w d.sa d.sc x.sw
theorem FoR.below{S:Nat->Prop}{w u:World}{d:FoD}{x:Fo}(h:FoR S w d x)(hb:Below w.heap.size w u):FoR S u d x :=
 ⟨h.hg.below hb,h.hm.below hb,h.hl.below hb,h.hr.below hb,h.hk.below hb,h.hf.below hb,h.hs.below hb⟩
structure FoB(x:Fo):Prop where
 gl:x.gl.length<=40
 rg:x.s.rg.length<=20
 r8:∀l∈x.s.rg,l.length<=8
 rw:x.s.rw.length<=2000
 fw:FewF x.ft x.sw
 no:∀c:Int,0<=c->c<=1114111->NoR x.rn c
theorem FoB.f1{x:Fo}(h:FoB x):∀f∈x.ft,f.lk.length<=1000:=h.fw.lkM
theorem FoB.f2{x:Fo}(h:FoB x):∀f∈x.sw,f.lk.length<=1000:=h.fw.swM
theorem FoB.f3{x:Fo}(h:FoB x):x.ft.length<=300:=by have:=h.fw.len;omega
theorem FoB.g40{x:Fo}(h:FoB x):x.s.rg.length<=40:=by have:=h.rg;omega
theorem Bk.elevenH{t:TypeId}{w:World}{g:Nat}{x0 x1 x2 x3 x4 x5 x6 x7 x8 x9 xa:Value}(h:Bk t w g [x0,x1,x2,x3,x4,x5,x6,x7,x8,x9,xa]) :
 w.cell? ⟨g,0,none⟩=some x0/\w.cell? ⟨g,1,none⟩=some x1/\w.cell? ⟨g,2,none⟩=some x2/\w.cell? ⟨g,3,none⟩=some x3/\w.cell? ⟨g,4,none⟩=some x4/\w.cell? ⟨g,5,none⟩=some x5/\w.cell? ⟨g,6,none⟩=some x6/\w.cell? ⟨g,7,none⟩=some x7/\w.cell? ⟨g,8,none⟩=some x8/\w.cell? ⟨g,9,none⟩=some x9/\w.cell? ⟨g,10,none⟩=some xa :=
 ⟨h.cell 0 (by simp),h.cell 1 (by simp),h.cell 2 (by simp),h.cell 3 (by simp),h.cell 4 (by simp),h.cell 5 (by simp),h.cell 6 (by simp),h.cell 7 (by simp),h.cell 8 (by simp),h.cell 9 (by simp),h.cell 10 (by simp)⟩
theorem Bk.fourH{t:TypeId}{w:World}{g:Nat}{x y z u:Value}(h:Bk t w g [x,y,z,u]):w.cell? ⟨g,0,none⟩=some x/\w.cell? ⟨g,1,none⟩=some y/\w.cell? ⟨g,2,none⟩=some z/\w.cell? ⟨g,3,none⟩=some u:=⟨h.cell 0 (by simp),h.cell 1 (by simp),h.cell 2 (by simp),h.cell 3 (by simp)⟩
structure RowM(l:List Bool)(base:Nat)(w':World)(e:Ending):Prop where
 out:∃v,e=.returned v/\Gw El.bool 4 base (fun _=>False) w' v l
theorem Gr.anyP{S S':Nat->Prop}{w:World}{a:Option Addr}{cap:Nat}{l:List Pn}(h:Gr PnE S w a cap l):Gr PnE S' w a cap l:=by
 refine⟨h.1,h.2.1,h.2.2.1,fun i hi=>?_⟩
 obtain⟨b,off,vs,e,hb,hr,hc⟩:=h.2.2.2 i hi
 exact⟨b,off,vs,e,hb,zru.2 (zru.1 hr),hc⟩
theorem zf8{cs:List (List Pn)}{k:Nat}{c:List Pn}(hk:k<cs.length)(hc:cs.getD k []=c):(cs.take (k+1)).flatten=(cs.take k).flatten++c:=by
 rw[zfa (d:=[]) hk,List.flatten_append,List.flatten_singleton,hc]
def totO(cs:List (List Pn)):Nat:=cs.length+cs.flatten.length
def fewB(o:Ol):Bool:=decide (totO o.cs<=1000)&&decide (o.ps.length<=100)
theorem zn4{cs:List (List Pn)}{k:Nat}(hk:k<cs.length):totO (cs.take (k+1))=totO (cs.take k)+(1+(cs.getD k []).length):=by
 unfold totO
 rw[zc8 hk,List.length_take,List.length_take]
 omega
theorem zva(cs:List (List Pn))(k:Nat):totO (cs.take k)<=totO cs:=by
 unfold totO
 have:=zer cs k
 rw[List.length_take]
 omega
theorem zwx{o:Ol}(h:fewB o=true):o.cs.length<=1000/\o.cs.flatten.length<=1000/\o.ps.length<=100:=by
 unfold fewB totO at h
 rw[Bool.and_eq_true,decide_eq_true_iff,decide_eq_true_iff]at h
 omega
theorem zol(S:Nat->Prop)(a:Option Addr)(ca:Nat)(b:Option Addr)(cb:Nat)(o:Ol)(w:World)(hc:Gr PnE.row S w a ca o.cs)(hp:Gr PaE S w b cb o.ps) :
 Calls Tryz.prog 88 #[.agg #[.slice a o.cs.length ca,.slice b o.ps.length cb]] w fun e w'=>e=.returned (.bool (fewB o))/\Below w.heap.size w w':=by
 have k1:=hc.lenB
 have k2:=hp.lenB
 obtain⟨W,hW,X1,hbW⟩:∃W,W=w.alloc (.cells #[.slice a o.cs.length ca,.slice b o.ps.length cb] 59)/\Bk 59 W w.heap.size [.slice a o.cs.length ca,.slice b o.ps.length cb]/\Below w.heap.size w W:=⟨_,rfl,Bk.new _ _ _,bl1 _⟩
 obtain⟨x0,x1,_⟩:=X1.two
 have HC:Hid (Gr PnE.row S W a ca o.cs):=hc.below hbW
 have HF:Hid (fewB o=(decide (totO o.cs<=1000)&&decide (o.ps.length<=100))):=rfl
 clear hc hp X1
 generalize fewB o=fb at *
 go_enter Tryz.func88,Tryz.ntmps88
 go_wp2;rw[<-hW];clear hW
 go_loopw [3,4] (fun nv i wr=>∃k n:Nat,k<=o.cs.length/\i=.int .i64 k/\nv=.int .i64 (n:Int)/\n=totO (o.cs.take k)/\n<=140737488361232/\W=wr) (fun _ i _=>o.cs.length-(intOf i).toNat)
 case atStart=>exact⟨0,0,Nat.zero_le _,rfl,rfl,rfl,by omega,rfl⟩
 case round =>
  obtain⟨k,n,hk,rfl,rfl,hn,hnb,rfl⟩:=hrel
  have HN:Hid (n=totO (o.cs.take k)):=hn
  clear hn
  by_cases hgo:k<o.cs.length/\n<=1000
  . obtain⟨hkn,hn1⟩:=hgo
    obtain⟨b1,off,a1,c1,ea,hb,d0,hrow,hlb,_⟩:=HC.out.rw (Below.refl _ _) k hkn
    subst ea
    have hst:=zn4 hkn
    rw[<-HN.out]at hst
    obtain⟨c,hcc⟩:∃c,o.cs.getD k []=c:=⟨_,rfl⟩
    rw[hcc]at d0 hst hlb
    have HN2:Hid (n+(1+c.length)=totO (o.cs.take (k+1))):=hst.symm
    have g1:decide (k<o.cs.length)=true:=decide_eq_true hkn
    have g2:decide ((n:Int)<=1000)=true:=decide_eq_true (by omega)
    have i1:(0:Int)<=(k:Int):=by omega
    have i2:(k:Int)<(o.cs.length:Int):=by omega
    clear hst hcc hrow HN;go_wp2
    go_roundw
    case rel=>exact⟨k+1,n+(1+c.length),by omega,by go_num,by go_num,HN2.out,by omega,trivial⟩
    case measure=>simp[intOf];omega
  . have hle:=zva o.cs k
    have HFF:Hid (fb=(decide ((n:Int)<=1000)&&decide ((o.ps.length:Int)<=100))):=by
     show _=_
     rw[HF.out]
     have h1:decide (totO o.cs<=1000)=decide ((n:Int)<=1000):=by
      rw[decide_eq_decide]
      by_cases hkk:k<o.cs.length
      . rw[<-HN.out]at hle
        omega
      . have:o.cs.take k=o.cs:=List.take_of_length_le (by omega)
        have h2:=HN.out
        rw[this]at h2
        omega
     have h2:decide (o.ps.length<=100)=decide ((o.ps.length:Int)<=100):=by
      rw[decide_eq_decide]
      omega
     rw[h1,h2]
    clear HN hle
    by_cases hkn:k<o.cs.length
    . have g1:decide (k<o.cs.length)=true:=decide_eq_true hkn
      have g2:decide ((n:Int)<=1000)=false:=decide_eq_false (by omega)
      rw[g2,Bool.false_and]at HFF;go_wp2
      go_ret
      exact⟨zaa HFF.out.symm,hbW⟩
    . have g1:decide (k<o.cs.length)=false:=decide_eq_false hkn
      by_cases hn1:n<=1000
      . have g2:decide ((n:Int)<=1000)=true:=decide_eq_true (by omega)
        rw[g2,Bool.true_and]at HFF;go_wp2
        go_ret
        exact⟨zaa HFF.out.symm,hbW⟩
      . have g2:decide ((n:Int)<=1000)=false:=decide_eq_false (by omega)
        rw[g2,Bool.false_and]at HFF;go_wp2
        go_ret
        exact⟨zaa HFF.out.symm,hbW⟩
theorem zh8(S:Nat->Prop)(a:Option Addr)(ca:Nat)(vb:Value)(cs:List (List Pn))(w:World)(h:Gr PnE.row S w a ca cs)(hl:cs.flatten.length<=100000)(hv:vb.cells=#[vb]) :
 Calls Tryz.prog 90 #[.agg #[.slice a cs.length ca,vb]] w fun e w'=>∃a' c',e=.returned (.slice a' cs.flatten.length c')/\Gr PnE (fun _=>True) w' a' c' cs.flatten/\(∀b o,a'=some ⟨b,o,none⟩->w.heap.size<=b/\b<w'.heap.size)/\Below w.heap.size w w':=by
 have k2:=h.lenB
 obtain⟨W,hW,X1,hbW⟩:∃W,W=w.alloc (.cells #[.slice a cs.length ca,vb] 59)/\Bk 59 W w.heap.size [.slice a cs.length ca,vb]/\Below w.heap.size w W:=⟨_,rfl,Bk.new _ _ _,bl1 _⟩
 have HH:Hid (Gr PnE.row S w a ca cs):=h
 have HX:Hid (Bk 59 W w.heap.size [.slice a cs.length ca,vb]):=X1
 have HB0:Hid (Below w.heap.size w W):=hbW
 have HGL:Hid (w.heap.size<W.heap.size):=X1.lt
 clear h X1 hbW
 go_enter Tryz.func90,Tryz.ntmps90
 go_wp2;rw[<-hW];clear hW
 go_loopw [3,4] (fun v i wr=>∃k:Nat,k<=cs.length/\i=.int .i64 k/\Gw PnE 307 W.heap.size (fun _=>True) wr v ((cs.take k).flatten)/\Below W.heap.size W wr) (fun _ i _=>cs.length-(intOf i).toNat)
 case atStart=>exact⟨0,Nat.zero_le _,rfl,Gw.nil _ _ _ _ _,Below.refl _ _⟩
 case round =>
  obtain⟨k,hk,rfl,hT,hB⟩:=hrel;obtain⟨a2,c2,rfl,hgr,hblk⟩:=hT.slice
  have HT:Hid (Gw PnE 307 W.heap.size (fun _=>True) wr (.slice a2 ((cs.take k).flatten).length c2) ((cs.take k).flatten)):=hT
  obtain⟨x0,x1,_⟩:=(HX.out.below hB).two
  have hBw:Below w.heap.size w wr:=HB0.out.trans (hB.mono HB0.out.size)
  clear hT
  by_cases hkn:k<cs.length
  . obtain⟨b,off,a1,c1,ea,hb,d0,hrow,hlb,_⟩:=HH.out.rw hBw k hkn
    subst ea
    have hst:=zc8 hkn
    have hle:=zer cs (k+1)
    obtain⟨c,hc⟩:∃c,cs.getD k []=c:=⟨_,rfl⟩
    have HS:Hid (_):=zf8 hkn hc
    rw[hc]at d0 hst hlb hrow
    have hll:((cs.take k).flatten).length+c.length<=1000000:=by omega
    have i1:(0:Int)<=(k:Int):=by omega
    have i2:(k:Int)<(cs.length:Int):=by omega
    have hbs:W.heap.size<=wr.heap.size:=hB.size
    clear hc hst hle hlb hgr hblk
    generalize (cs.take k).flatten=L at *
    go_wp2_with (at_builtin;refine zab 149 307 Tryz.underlying149 zwf rfl (by decide) (by decide) rfl _ _ rfl W.heap.size (fun _=>True) _ L rfl HT.out a1 c1 _ c rfl rfl hrow.anyP hll hbs ?_)
    intro v9 w9 hT9 hgrow _
    have hB9:Below W.heap.size W w9:=hB.grown hgrow hbs (fun k hk=>(HT.out.lo hk).1)
    rw[<-HS.out]at hT9;clear hgrow hbs hll HS;go_wp2
    go_roundw
    case rel=>exact⟨k+1,by omega,by go_num,hT9,hB9⟩
    case measure=>simp[intOf];omega
  . obtain rfl:k=cs.length:=by omega
    rw[List.take_length]at HT hgr ⊢
    have HB2:Hid (∀b o,a2=some ⟨b,o,none⟩->w.heap.size<=b/\b<wr.heap.size):=fun b o e=>⟨Nat.le_trans (Nat.le_of_lt HGL.out) (hblk b o e).1,(hblk b o e).2⟩
    have g4:¬(cs.length:Int)<(cs.length:Int):=by omega
    clear hblk;go_wp2
    go_ret
    exact⟨a2,c2,rfl,hgr,HB2.out,hBw⟩
theorem wrapU{z:Int}(h1:-9223372036854775808<=z)(h2:z<=9223372036854775807):IntKind.i64.wrap z=z:=by
 unfold IntKind.wrap
 simp[IntKind.bits,IntKind.signed]
 omega
def szT(t:Tu):Nat:=1+t.rg.length+t.pts.length+t.dx.length+t.dy.length
def totT(l:List Tu):Nat:=(l.map szT).sum
def fewT(l:List Tu):Bool:=decide (totT l<=3000)&&decide (l.length<=30)
theorem zn3{l:List Tu}{k:Nat}(hk:k<l.length):totT (l.take (k+1))=totT (l.take k)+szT (l.getD k Tu.none):=by
 unfold totT
 rw[zfa (d:=Tu.none) hk,List.map_append,List.sum_append]
 simp
theorem zu9(l:List Tu)(k:Nat):totT (l.take k)<=totT l:=by
 have h:totT l=totT (l.take k)+totT (l.drop k):=by
  unfold totT
  rw[<-List.sum_append,<-List.map_append,List.take_append_drop]
 omega
theorem zww{l:List Tu}(h:fewT l=true):l.length<=30/\totT l<=3000:=by
 unfold fewT at h
 rw[Bool.and_eq_true,decide_eq_true_iff,decide_eq_true_iff]at h
 exact⟨h.2,h.1⟩
theorem zok(S:Nat->Prop)(a:Option Addr)(ca:Nat)(l:List Tu)(w:World)(hl:Gr TuE S w a ca l) :
 Calls Tryz.prog 89 #[.slice a l.length ca] w fun e w'=>e=.returned (.bool (fewT l))/\Below w.heap.size w w':=by
 have k1:=hl.lenB
 have HC:Hid (Gr TuE S w a ca l):=hl
 have HF:Hid (fewT l=(decide (totT l<=3000)&&decide (l.length<=30))):=rfl
 clear hl
 generalize fewT l=fb at *
 go_enter Tryz.func89,Tryz.ntmps89
 go_wp2
 go_loopw [3,4] (fun nv i wr=>∃k n:Nat,k<=l.length/\i=.int .i64 k/\nv=.int .i64 (n:Int)/\n=totT (l.take k)/\n<=562949953425001/\Below w.heap.size w wr) (fun _ i _=>l.length-(intOf i).toNat)
 case atStart=>exact⟨0,0,Nat.zero_le _,rfl,rfl,rfl,by omega,Below.refl _ _⟩
 case round =>
  obtain⟨k,n,hk,rfl,rfl,hn,hnb,hB⟩:=hrel
  have HN:Hid (n=totT (l.take k)):=hn
  have HB:Hid (Below w.heap.size w wr):=hB
  clear hn
  by_cases hgo:k<l.length/\n<=3000
  . obtain⟨hkn,hn1⟩:=hgo
    obtain⟨b0,off,ra,rc,pa,pc,xa,xc,ya,yc,ea,hb,ht,d0,d1,d2,d3,d4⟩:=HC.out.tu hB k hkn
    subst ea
    have hst:=zn3 hkn
    rw[<-HN.out]at hst;obtain⟨l1,l2,l3,l4⟩:=ht.len
    obtain⟨t,htt⟩:∃t,l.getD k Tu.none=t:=⟨_,rfl⟩
    rw[htt]at d0 d1 d2 d3 d4 hst l1 l2 l3 l4
    unfold szT at hst
    generalize t.rg.length=r at *
    generalize t.pts.length=p at *
    generalize t.dx.length=x at *
    generalize t.dy.length=y at *
    have HN2:Hid (n+(1+r+p+x+y)=totT (l.take (k+1))):=hst.symm
    have g1:decide (k<l.length)=true:=decide_eq_true hkn
    have g2:decide ((n:Int)<=3000)=true:=decide_eq_true (by omega)
    have i1:(0:Int)<=(k:Int):=by omega
    have i2:(k:Int)<(l.length:Int):=by omega
    have w1:IntKind.i64.wrap (1+(r:Int))=1+(r:Int):=wrapU (by omega) (by omega)
    have w2:IntKind.i64.wrap (1+(r:Int)+(p:Int))=1+(r:Int)+(p:Int):=wrapU (by omega) (by omega)
    have w3:IntKind.i64.wrap (1+(r:Int)+(p:Int)+(x:Int))=1+(r:Int)+(p:Int)+(x:Int):=wrapU (by omega) (by omega)
    have w4:IntKind.i64.wrap (1+(r:Int)+(p:Int)+(x:Int)+(y:Int))=1+(r:Int)+(p:Int)+(x:Int)+(y:Int):=wrapU (by omega) (by omega)
    have w5:IntKind.i64.wrap ((n:Int)+(1+(r:Int)+(p:Int)+(x:Int)+(y:Int)))=(n:Int)+(1+(r:Int)+(p:Int)+(x:Int)+(y:Int)):=wrapU (by omega) (by omega)
    clear hst htt ht HN hB
    go_upto_region 5 with fail
    refine wp_region_held_drew (S:=fun w9=>w9.cell? ⟨b0,off+k*5,none⟩=some (.slice ra r rc)/\w9.cell? ⟨b0,off+k*5+2,none⟩=some (.slice pa p pc)/\w9.cell? ⟨b0,off+k*5+3,none⟩=some (.slice xa x xc)/\w9.cell? ⟨b0,off+k*5+4,none⟩=some (.slice ya y yc)) (by kernel_rfl) ?_ (fun hH=>?_)
    . (try dsimp only)
      go_keep
    have hdr:Below wr.heap.size wr wr.drew:=Below.drew1
    generalize wr.drew=Z at hdr hH ⊢
    clear d0 d1 d2 d3 d4;refine hT 0 hH ?_;refine hT 1 hH ?_;refine hT 2 hH ?_;refine hT 3 hH ?_;refine hT 4 hH ?_;refine hT 5 hH ?_;refine hT 6 hH ?_;refine hT 7 hH ?_;refine hT 8 hH ?_;refine hT 9 hH ?_;refine hT 10 hH ?_;refine hT 11 hH ?_;refine hT 12 hH ?_
    refine hT 13 hH ?_;refine hT 14 hH ?_;refine hT 15 hH ?_;refine hT 16 hH ?_;refine hT 17 hH ?_;refine hT 18 hH ?_;refine hT 19 hH ?_;refine hT 20 hH ?_;refine hT 21 hH ?_;refine hT 22 hH ?_;refine hT 23 hH ?_;refine hT 24 hH ?_;refine hT 25 hH ?_
    refine hT 26 hH ?_;refine hT 27 hH ?_;refine hT 28 hH ?_;refine hT 29 hH ?_;refine hT 30 hH ?_
    refine wpAnyH_done (by kernel_rfl) ?_ _
    have HB2:Hid (Below w.heap.size w Z):=HB.out.trans (hdr.mono HB.out.size)
    clear hH hdr;go_wp2
    go_roundw
    case rel=>exact⟨k+1,n+(1+r+p+x+y),by omega,by go_num,by exact congrArg (Value.int .i64) (by omega),HN2.out,by omega,HB2.out⟩
    case measure=>simp[intOf];omega
  . have hle:=zu9 l k
    have HFF:Hid (fb=(decide ((n:Int)<=3000)&&decide ((l.length:Int)<=30))):=by
     show _=_
     rw[HF.out]
     have h1:decide (totT l<=3000)=decide ((n:Int)<=3000):=by
      rw[decide_eq_decide]
      by_cases hkk:k<l.length
      . rw[<-HN.out]at hle
        omega
      . have:l.take k=l:=List.take_of_length_le (by omega)
        have h2:=HN.out
        rw[this]at h2
        omega
     have h2:decide (l.length<=30)=decide ((l.length:Int)<=30):=by
      rw[decide_eq_decide]
      omega
     rw[h1,h2]
    clear HN hle
    by_cases hkn:k<l.length
    . have g1:decide (k<l.length)=true:=decide_eq_true hkn
      have g2:decide ((n:Int)<=3000)=false:=decide_eq_false (by omega)
      rw[g2,Bool.false_and]at HFF;go_wp2
      go_ret
      exact⟨zaa HFF.out.symm,hB⟩
    . have g1:decide (k<l.length)=false:=decide_eq_false hkn
      by_cases hn1:n<=3000
      . have g2:decide ((n:Int)<=3000)=true:=decide_eq_true (by omega)
        rw[g2,Bool.true_and]at HFF;go_wp2
        go_ret
        exact⟨zaa HFF.out.symm,hB⟩
      . have g2:decide ((n:Int)<=3000)=false:=decide_eq_false (by omega)
        rw[g2,Bool.false_and]at HFF;go_wp2
        go_ret
        exact⟨zaa HFF.out.symm,hB⟩
