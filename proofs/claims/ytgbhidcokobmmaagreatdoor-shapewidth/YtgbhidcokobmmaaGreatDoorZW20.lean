import Derived.Test.YtgbhidcokobmmaaGreatDoorZW19
import Derived.Laws.RangeAny
set_option maxHeartbeats 2000000
set_option maxRecDepth 100000
set_option linter.unusedSimpArgs false
set_option linter.unusedVariables false
namespace Go.Proofs.YtgbhidcokobmmaaGreatDoor
open Go.RowKit Go.Maps
def CnE:El Cn:=(El.int.cat (El.int.cat El.int)).via (fun x=>(x.ax,x.ls,x.ms)) Cn.none
def FtE:El Ft:=(El.str.cat El.int.row).via (fun x=>(x.tg,x.lk)) Ft.none
def SwE:El Sw:=(CnE.row.cat (El.int.cat El.int.row)).via (fun x=>(x.cn,x.ft,x.lk)) Sw.none
def CnW(x:Cn):Prop:=I64 x.ax/\I64 x.ls/\I64 x.ms
def cnC(x:Cn):List Value:=[.int .i64 x.ax,.int .i64 x.ls,.int .i64 x.ms]
theorem zqx{S:Nat->Prop}{w:World}{vs:List Value}{x:Cn}:CnE.rep S w vs x↔vs=cnC x/\CnW x:=by
 constructor
 . rintro ⟨us,ts,rfl,⟨rfl,h1⟩,us2,ts2,rfl,⟨rfl,h2⟩,⟨rfl,h3⟩⟩
   exact⟨rfl,h1,h2,h3⟩
 . rintro ⟨rfl,h1,h2,h3⟩
   exact⟨[_],_,rfl,⟨rfl,h1⟩,[_],[_],rfl,⟨rfl,h2⟩,⟨rfl,h3⟩⟩
theorem zqw{S:Nat->Prop}{w:World}{vs:List Value}{x:Ft}:FtE.rep S w vs x ↔ ∃a c,vs=[.string x.tg,.slice a x.lk.length c]/\x.tg.size<=maxLen/\El.int.row.rep S w [.slice a x.lk.length c] x.lk:=by
 constructor
 . rintro ⟨us,ts,rfl,⟨rfl,h1⟩,h2⟩
   have r2:=h2
   obtain⟨a,c,e,_⟩:=h2;subst e
   exact⟨a,c,rfl,h1,r2⟩
 . rintro ⟨a,c,rfl,h1,h2⟩
   exact⟨[_],[_],rfl,⟨rfl,h1⟩,h2⟩
theorem zqn{S:Nat->Prop}{w:World}{vs:List Value}{x:Sw}:SwE.rep S w vs x ↔ ∃a c a' c',vs=[.slice a x.cn.length c,.int .i64 x.ft,.slice a' x.lk.length c']/\CnE.row.rep S w [.slice a x.cn.length c] x.cn/\I64 x.ft/\El.int.row.rep S w [.slice a' x.lk.length c'] x.lk:=by
 constructor
 . rintro ⟨us,ts,rfl,h1,us2,ts2,rfl,⟨rfl,h2⟩,h3⟩
   have r1:=h1
   have r3:=h3
   obtain⟨a,c,e,_⟩:=h1;obtain⟨a',c',e',_⟩:=h3;subst e e'
   exact⟨a,c,a',c',rfl,r1,h2,r3⟩
 . rintro ⟨a,c,a',c',rfl,h1,h2,h3⟩
   exact⟨[_],[_,_],rfl,h1,[_],[_],rfl,⟨rfl,h2⟩,h3⟩
theorem zeq{α:Type}{E:El α}{S:Nat->Prop}{w:World}{a:Option Addr}{c:Nat}{l:List α}(h:E.row.rep S w [.slice a l.length c] l):Gr E S w a c l/\l.length<=140737488351232/\∀b o,a=some ⟨b,o,none⟩->l≠[]->S b:=by
 obtain⟨a',c',e,h0,h1,h2⟩:=h;injection e with e;injection e with e1 e2 e3;subst e1 e3
 exact⟨h1,h2,h0⟩
theorem Gr.cn{S:Nat->Prop}{w wr:World}{a:Option Addr}{cap:Nat}{l:List Cn}(h:Gr CnE S w a cap l)(hb:Below w.heap.size w wr)(k:Nat)(hk:k<l.length) :
 ∃b off,a=some ⟨b,off,none⟩/\b<w.heap.size/\CnW (l.getD k Cn.none)/\wr.cell? ⟨b,off+k*3,none⟩=some (.int .i64 (l.getD k Cn.none).ax)/\wr.cell? ⟨b,off+k*3+1,none⟩=some (.int .i64 (l.getD k Cn.none).ls)/\wr.cell? ⟨b,off+k*3+2,none⟩=some (.int .i64 (l.getD k Cn.none).ms):=by
 obtain⟨b,off,vs,e,hl,hr,hc⟩:=h.at hb k hk
 obtain⟨rfl,hw⟩:=zqx.1 hr
 exact⟨b,off,e,hl,hw,hc 0 (by decide),hc 1 (by decide),hc 2 (by decide)⟩
theorem Gr.ft{S:Nat->Prop}{w wr:World}{a:Option Addr}{cap:Nat}{l:List Ft}(h:Gr FtE S w a cap l)(hb:Below w.heap.size w wr)(k:Nat)(hk:k<l.length) :
 ∃b off a' c',a=some ⟨b,off,none⟩/\b<w.heap.size/\(l.getD k Ft.none).tg.size<=maxLen/\wr.cell? ⟨b,off+k*2,none⟩=some (.string (l.getD k Ft.none).tg)/\wr.cell? ⟨b,off+k*2+1,none⟩=some (.slice a' (l.getD k Ft.none).lk.length c')/\El.int.row.rep S wr [.slice a' (l.getD k Ft.none).lk.length c'] (l.getD k Ft.none).lk:=by
 obtain⟨b,off,vs,e,hl,hr,hc⟩:=(h.below hb).at (Below.refl _ _) k hk
 obtain⟨b2,off2,vs2,e2,hl2,_⟩:=h.at hb k hk
 obtain⟨a',c',rfl,h1,h2⟩:=zqw.1 hr
 rw[e]at e2
 cases e2
 exact⟨b,off,a',c',e,hl2,h1,hc 0 (by decide),hc 1 (by decide),h2⟩
theorem Gr.sw{S:Nat->Prop}{w wr:World}{a:Option Addr}{cap:Nat}{l:List Sw}(h:Gr SwE S w a cap l)(hb:Below w.heap.size w wr)(k:Nat)(hk:k<l.length) :
 ∃b off a' c' a2 c2,a=some ⟨b,off,none⟩/\b<w.heap.size/\I64 (l.getD k Sw.none).ft/\wr.cell? ⟨b,off+k*3,none⟩=some (.slice a' (l.getD k Sw.none).cn.length c')/\wr.cell? ⟨b,off+k*3+1,none⟩=some (.int .i64 (l.getD k Sw.none).ft)/\wr.cell? ⟨b,off+k*3+2,none⟩=some (.slice a2 (l.getD k Sw.none).lk.length c2)/\CnE.row.rep S wr [.slice a' (l.getD k Sw.none).cn.length c'] (l.getD k Sw.none).cn/\El.int.row.rep S wr [.slice a2 (l.getD k Sw.none).lk.length c2] (l.getD k Sw.none).lk:=by
 obtain⟨b,off,vs,e,hl,hr,hc⟩:=(h.below hb).at (Below.refl _ _) k hk
 obtain⟨b2,off2,vs2,e2,hl2,_⟩:=h.at hb k hk
 obtain⟨a',c',a2,c2,rfl,h1,h2,h3⟩:=zqn.1 hr
 rw[e]at e2
 cases e2
 exact⟨b,off,a',c',a2,c2,e,hl2,h2,hc 0 (by decide),hc 1 (by decide),hc 2 (by decide),h1,h3⟩
theorem Gr.in1{S:Nat->Prop}{w wr:World}{a:Option Addr}{cap:Nat}{l:List Int}(h:Gr El.int S w a cap l)(hb:Below w.heap.size w wr)(k:Nat)(hk:k<l.length) :
 ∃b off,a=some ⟨b,off,none⟩/\b<w.heap.size/\I64 (l.getD k 0)/\wr.cell? ⟨b,off+k,none⟩=some (.int .i64 (l.getD k 0)):=by
 obtain⟨b,off,vs,e,hl,hr,hc⟩:=h.at hb k hk
 obtain⟨rfl,hw⟩:=El.int_rep.1 hr
 have:=hc 0 Nat.one_pos
 rw[show k*El.int.sz=k from Nat.mul_one k]at this
 exact⟨b,off,e,hl,hw,this⟩
theorem Gr.st1{S:Nat->Prop}{w wr:World}{a:Option Addr}{cap:Nat}{l:List ByteArray}(h:Gr El.str S w a cap l)(hb:Below w.heap.size w wr)(k:Nat)(hk:k<l.length) :
 ∃b off,a=some ⟨b,off,none⟩/\b<w.heap.size/\(l.getD k ⟨#[]⟩).size<=maxLen/\wr.cell? ⟨b,off+k,none⟩=some (.string (l.getD k ⟨#[]⟩)):=by
 obtain⟨b,off,vs,e,hl,⟨rfl,hw⟩,hc⟩:=h.at hb k hk
 have:=hc 0 Nat.one_pos
 rw[show k*El.str.sz=k from Nat.mul_one k]at this
 exact⟨b,off,e,hl,hw,this⟩
theorem zj1:(Tryz.prog.info? 3).map (fun i=>(i.zero,i.size,i.bytes))=some (some (.int .i64 0),1,8):=by kernel_rfl
theorem zde{α:Type}{m:List α}{d:α}{k:Nat}(hk:k<m.length):m.getD k d∈m:=by rw[List.getD_eq_getElem?_getD,List.getElem?_eq_getElem hk];exact List.getElem_mem hk
theorem zhu{α:Type}{m:List α}{d:α}{k:Nat}(hk:k<m.length):m.take (k+1)=m.take k++[m.getD k d]:=by
 rw[List.take_add_one,List.getElem?_eq_getElem hk,List.getD_eq_getElem?_getD,List.getElem?_eq_getElem hk]
 rfl
def nuF(n m:Int):Bool:=decide (0<=n)&&decide (n<m)
theorem zfi(n m:Int)(w:World) :
 Calls Tryz.prog 83 #[.int .i64 n,.int .i64 m] w fun e w'=>e=.returned (.bool (nuF n m))/\w=w':=by
 by_cases h0:0<=n
 . by_cases h1:n<m
   . have hV:Hid (nuF n m=true):=by show _=_;unfold nuF;simp[h0,h1]
     go_enter Tryz.func83,Tryz.ntmps83
     go_wp2
     go_ret
     exact⟨zaa hV.out.symm,rfl⟩
   . have hV:Hid (nuF n m=false):=by show _=_;unfold nuF;simp[h1]
     go_enter Tryz.func83,Tryz.ntmps83
     go_wp2
     go_ret
     exact⟨zaa hV.out.symm,rfl⟩
 . have hV:Hid (nuF n m=false):=by show _=_;unfold nuF;simp[h0]
   go_enter Tryz.func83,Tryz.ntmps83
   go_wp2
   go_ret
   exact⟨zaa hV.out.symm,rfl⟩
theorem zjm{n m:Int}:nuF n m=true↔0<=n/\n<m:=by unfold nuF;rw[Bool.and_eq_true,decide_eq_true_iff,decide_eq_true_iff]
theorem zrt{n m:Int}(h:nuF n m=false):¬(0<=n/\n<m):=fun h2=>by rw[zjm.2 h2]at h;cases h
structure FewF(l:List Ft)(s:List Sw):Prop where
 len:l.length+s.length<=300
 lk:∀k,k<l.length->(l.getD k Ft.none).lk.length<=300
 sw:∀k,k<s.length->(s.getD k Sw.none).lk.length<=300/\(s.getD k Sw.none).cn.length<=300
theorem FewF.lkM{l:List Ft}{s:List Sw}(h:FewF l s):∀f∈l,f.lk.length<=1000:=by
 intro f hf
 obtain⟨k,hk,e⟩:=List.getElem_of_mem hf
 have h1:=h.lk k hk
 rw[List.getD_eq_getElem?_getD,List.getElem?_eq_getElem hk,Option.getD_some,e]at h1
 omega
theorem FewF.swM{l:List Ft}{s:List Sw}(h:FewF l s):∀x∈s,x.lk.length<=1000:=by
 intro f hf
 obtain⟨k,hk,e⟩:=List.getElem_of_mem hf
 have h1:=(h.sw k hk).1
 rw[List.getD_eq_getElem?_getD,List.getElem?_eq_getElem hk,Option.getD_some,e]at h1
 omega
structure FwA(l:List Ft)(s:List Sw)(k j:Nat)(z:Int):Prop where
 len:(l.length:Int)+(s.length:Int)<=z
 lk:∀i,i<k->((l.getD i Ft.none).lk.length:Int)<=z
 sw:∀i,i<j->((s.getD i Sw.none).lk.length:Int)+((s.getD i Sw.none).cn.length:Int)<=z
theorem FwA.more{l:List Ft}{s:List Sw}{k:Nat}{z:Int}(h:FwA l s k 0 z)(h0:0<=z):FwA l s (k+1) 0 (z+((l.getD k Ft.none).lk.length:Int)):=by
 refine⟨by have:=h.len;omega,fun i hi=>?_,fun i hi=>by omega⟩
 rcases Nat.lt_or_ge i k with h1|h1
 . have:=h.lk i h1;omega
 . rw[show i=k by omega];omega
theorem FwA.few{l:List Ft}{s:List Sw}{z:Int}(h:FwA l s l.length s.length z)(h0:z<=300):FewF l s :=
 ⟨by have:=h.len;omega,fun k hk=>by have:=h.lk k hk;omega,fun k hk=>by have:=h.sw k hk;omega⟩
def RnE:El Rn:=(El.int.cat (El.int.cat El.int)).via (fun x=>(x.fr,x.tq,x.gl)) Rn.none
def rnC(x:Rn):List Value:=[.int .i64 x.fr,.int .i64 x.tq,.int .i64 x.gl]
def RnW(x:Rn):Prop:=I64 x.fr/\I64 x.tq/\I64 x.gl
theorem zlc{S:Nat->Prop}{w:World}{vs:List Value}{x:Rn}:RnE.rep S w vs x↔vs=rnC x/\RnW x:=by
 constructor
 . rintro ⟨us,ts,rfl,⟨rfl,h1⟩,us2,ts2,rfl,⟨rfl,h2⟩,⟨rfl,h3⟩⟩
   exact⟨rfl,h1,h2,h3⟩
 . rintro ⟨rfl,h1,h2,h3⟩
   exact⟨[_],_,rfl,⟨rfl,h1⟩,[_],[_],rfl,⟨rfl,h2⟩,⟨rfl,h3⟩⟩
theorem Gr.rn{S:Nat->Prop}{w wr:World}{a:Option Addr}{cap:Nat}{l:List Rn}(h:Gr RnE S w a cap l)(hb:Below w.heap.size w wr)(k:Nat)(hk:k<l.length) :
 ∃b off,a=some ⟨b,off,none⟩/\b<w.heap.size/\RnW (l.getD k Rn.none)/\wr.cell? ⟨b,off+k*3,none⟩=some (.int .i64 (l.getD k Rn.none).fr)/\wr.cell? ⟨b,off+k*3+1,none⟩=some (.int .i64 (l.getD k Rn.none).tq)/\wr.cell? ⟨b,off+k*3+2,none⟩=some (.int .i64 (l.getD k Rn.none).gl):=by
 obtain⟨b,off,vs,e,hl,hr,hc⟩:=h.at hb k hk
 obtain⟨rfl,hw⟩:=zlc.1 hr
 exact⟨b,off,e,hl,hw,hc 0 (by decide),hc 1 (by decide),hc 2 (by decide)⟩
def It(w:World)(g:Nat)(s:ByteArray)(pos:Nat):Prop:=w.heap[g]?=some (.stringIter s pos)
def zb9(w:World)(g:Nat)(s:ByteArray)(pos:Nat):World:={ w with heap:=w.heap.setIfInBounds g (.stringIter s pos) }
theorem It.lt{w:World}{g:Nat}{s:ByteArray}{pos:Nat}(h:It w g s pos):g<w.heap.size:=(Array.getElem?_eq_some_iff.1 h).1
theorem It.below{w w':World}{g:Nat}{s:ByteArray}{pos:Nat}(h:It w g s pos)(hb:Below w.heap.size w w'):It w' g s pos:=(hb.block g h.lt).trans h
theorem It.kept{w w':World}{g:Nat}{s:ByteArray}{pos:Nat}(h:It w g s pos)(hk:w'.heap[g]?=w.heap[g]?):It w' g s pos:=hk.trans h
theorem It.new(w:World)(s:ByteArray):It (w.alloc (.stringIter s 0)) w.heap.size s 0:=by
 show(w.heap.push (Obj.stringIter s 0))[w.heap.size]?=_
 simp
theorem It.step{w:World}{g:Nat}{s:ByteArray}{pos:Nat}(h:It w g s pos)(q:Nat):It (zb9 w g s q) g s q:=by
 show(w.heap.setIfInBounds g (.stringIter s q))[g]?=_
 simp[h.lt]
theorem zf1(w:World)(g:Nat)(s:ByteArray)(q:Nat):(zb9 w g s q).heap.size=w.heap.size:=by simp[zb9]
theorem zc2(w:World)(g:Nat)(s:ByteArray)(q k:Nat)(h:k≠g):(zb9 w g s q).heap[k]?=w.heap[k]?:=by
 show(w.heap.setIfInBounds g (.stringIter s q))[k]?=_
 rw[Array.getElem?_setIfInBounds_ne (fun e=>h e.symm)]
theorem zc3{w0 w:World}{B g:Nat}(s:ByteArray)(q:Nat)(h:Below B w0 w)(hg:B<=g):Below B w0 (zb9 w g s q) :=
 ⟨h.os,h.tape,h.output,by rw[zf1];exact h.size,fun k hk=>(zc2 w g s q k (by omega)).trans (h.block k hk)⟩
theorem zdl{P:Program}{w:World}{g:Nat}{s:ByteArray}{pos:Nat}(ty:TypeId)(h:It w g s pos)(hp:pos<s.size) :
 (Instr.next (.pointer (some ⟨g,0,none⟩)) true ty).run P w=.ok (.tuple #[.bool true,.int .i64 pos,.int .i32 ((dcN ((sb s).drop pos)).1:Int)]) (zb9 w g s (pos+(dcN ((sb s).drop pos)).2)):=by
 rw[<-dc_eq]
 have h':w.heap[g]?=some (.stringIter s pos):=h
 simp only[Instr.next,getObj,setObj,Sem.run_bind,Sem.run,h',Result.andThen,hp,if_true]
 simp[goInt,zb9]
theorem zci{P:Program}{w:World}{g:Nat}{s:ByteArray}{pos:Nat}(ty:TypeId)(h:It w g s pos)(hp:¬pos<s.size) :
 (Instr.next (.pointer (some ⟨g,0,none⟩)) true ty).run P w=.ok (.tuple #[.bool false]) w:=by
 have h':w.heap[g]?=some (.stringIter s pos):=h
 simp[Instr.next,getObj,Sem.run,h',hp]
def NoR(l:List Rn)(c:Int):Prop:=∀k,k<l.length->inR (l.getD k Rn.none) c=true->I64 (c-(l.getD k Rn.none).fr)/\I64 ((l.getD k Rn.none).gl+(c-(l.getD k Rn.none).fr))
theorem zij(S:Nat->Prop)(a:Option Addr)(ca:Nat)(l:List Rn)(c:Int)(w:World)(hl:Gr RnE S w a ca l)(hc:I64 c)(hno:NoR l c) :
 Calls Tryz.prog 54 #[.slice a l.length ca,.int .i64 c] w fun e w'=>e=.returned (.int .i64 (glR c l))/\Below w.heap.size w w':=by
 have kl:=hl.lenB
 obtain⟨ca1,ca2⟩:=hc
 have HL:Hid (Gr RnE S w a ca l):=hl
 have HW:Hid (NoR l c):=hno
 clear hl hno
 go_enter Tryz.func54,Tryz.ntmps54
 go_wp2
 go_loopw [9] (fun i wr=>∃k:Nat,k<=l.length/\i=.int .i64 k/\Hid (∀j,j<k->inR (l.getD j Rn.none) c=false)/\Below w.heap.size w wr) (fun i _=>l.length-(intOf i).toNat)
 case atStart=>exact⟨0,Nat.zero_le _,rfl,(fun j hj=>by omega),Below.refl _ _⟩
 case round =>
  obtain⟨k,hk,rfl,HNO,hB⟩:=hrel
  by_cases hkn:k<l.length
  . obtain⟨b,off,rfl,hb,hW,d0,d1,d2⟩:=HL.out.rn hB k hkn
    have HFA:Hid (_):=zsu hkn HNO.out
    have HWK:Hid (_):=HW.out k hkn
    have HN2:Hid (inR (l.getD k Rn.none) c=false->∀j,j<k+1->inR (l.getD j Rn.none) c=false):=fun hn j hj=>by
     rcases Nat.lt_or_ge j k with h1|h1
     . exact HNO.out j h1
     . rw[show j=k by omega];exact hn
    generalize l.getD k Rn.none=x at *
    obtain⟨x1,x2,x3⟩:=x;obtain⟨⟨m1,m2⟩,⟨m3,m4⟩,⟨m5,m6⟩⟩:=hW
    dsimp only at *
    have hBf:=hB.trans ((bl1 (w:=wr) (.cells #[.int .i64 x1,.int .i64 x2,.int .i64 x3] 72)).mono hB.size)
    by_cases f1:x1<=c
    rotate_left
    . have e1:decide (x1<=c)=false:=decide_eq_false f1
      have HNN:Hid (_):=HN2.out (by unfold inR;exact decide_eq_false (fun h=>f1 h.1))
      clear HNO HN2 HFA HWK hB;go_wp2
      go_roundw
      case rel=>exact⟨k+1,by omega,by go_num,HNN,hBf⟩
      case measure=>simp[intOf];omega
    have e1:decide (x1<=c)=true:=decide_eq_true f1
    by_cases f2:c<=x2
    rotate_left
    . have e2:decide (c<=x2)=false:=decide_eq_false f2
      have HNN:Hid (_):=HN2.out (by unfold inR;exact decide_eq_false (fun h=>f2 h.2))
      clear HNO HN2 HFA HWK hB;go_wp2
      go_roundw
      case rel=>exact⟨k+1,by omega,by go_num,HNN,hBf⟩
      case measure=>simp[intOf];omega
    have e2:decide (c<=x2)=true:=decide_eq_true f2
    have hin:inR ⟨x1,x2,x3⟩ c=true:=by unfold inR;exact decide_eq_true ⟨f1,f2⟩
    obtain⟨⟨u1,u2⟩,⟨u3,u4⟩⟩:=HWK.out hin
    have HF:Hid (glR c l=x3+(c-x1)):=HFA.out hin
    clear HNO HN2 HFA HWK hB hin;go_wp2
    go_ret
    exact⟨zbt HF.out.symm,hBf⟩
  . have HF:Hid (glR c l=0):=zst (fun j hj=>HNO.out j (by omega))
    have g4:¬(k:Int)<(l.length:Int):=by omega
    clear HNO;go_wp2
    go_ret
    exact⟨zbt HF.out.symm,hB⟩
structure FoD where
 xa:Option Addr
 xl:Nat
 xc:Nat
 ba:Option Addr
 bl:Nat
 bc:Nat
 ga:Option Addr
 gc:Nat
 ma:Option Addr
 mc:Nat
 la:Option Addr
 lc:Nat
 ta:Option Addr
 tl:Nat
 tc:Nat
 da:Option Addr
 dl:Nat
 dc:Nat
 ra:Option Addr
 rc:Nat
 ka:Option Addr
 kc:Nat
 fa:Option Addr
 fc:Nat
 sa:Option Addr
 sc:Nat
abbrev fV (d:FoD) (x:Fo):Value:=.agg #[.slice d.xa d.xl d.xc,.slice d.ba d.bl d.bc,.slice d.ga x.s.rg.length d.gc,.slice d.ma x.s.rw.length d.mc,.slice d.la x.gl.length d.lc,.slice d.ta d.tl d.tc,.slice d.da d.dl d.dc,.slice d.ra x.rn.length d.rc,.slice d.ka x.lk.length d.kc,.slice d.fa x.ft.length d.fc,.slice d.sa x.sw.length d.sc]
structure FoR(S:Nat->Prop)(w:World)(d:FoD)(x:Fo):Prop where
 hg:Tzz w d.ga d.gc x.s.rg
 hm:Rii w d.ma d.mc x.s.rw
 hl:Gr GlE S w d.la d.lc x.gl
 hr:Gr RnE S w d.ra d.rc x.rn
 hk:Gr LkE S w d.ka d.kc x.lk
 hf:Gr FtE S w d.fa d.fc x.ft
 hs:Gr SwE S w d.sa d.sc x.sw
theorem FoR.below{S:Nat->Prop}{w u:World}{d:FoD}{x:Fo}(h:FoR S w d x)(hb:Below w.heap.size w u):FoR S u d x :=
 ⟨h.hg.below hb,h.hm.below hb,h.hl.below hb,h.hr.below hb,h.hk.below hb,h.hf.below hb,h.hs.below hb⟩
structure FoB(x:Fo):Prop where
 gl:x.gl.length<=40
 rg:x.s.rg.length<=20
 r8:∀l∈x.s.rg,l.length<=8
 rw:x.s.rw.length<=2000
 fw:FewF x.ft x.sw
 no:∀c:Int,0<=c->c<=1114111->NoR x.rn c
theorem FoB.f1{x:Fo}(h:FoB x):∀f∈x.ft,f.lk.length<=1000:=h.fw.lkM
theorem FoB.f2{x:Fo}(h:FoB x):∀f∈x.sw,f.lk.length<=1000:=h.fw.swM
theorem FoB.f3{x:Fo}(h:FoB x):x.ft.length<=300:=by have:=h.fw.len;omega
theorem FoB.g40{x:Fo}(h:FoB x):x.s.rg.length<=40:=by have:=h.rg;omega
theorem Bk.elevenH{t:TypeId}{w:World}{g:Nat}{x0 x1 x2 x3 x4 x5 x6 x7 x8 x9 xa:Value}(h:Bk t w g [x0,x1,x2,x3,x4,x5,x6,x7,x8,x9,xa]) :
 w.cell? ⟨g,0,none⟩=some x0/\w.cell? ⟨g,1,none⟩=some x1/\w.cell? ⟨g,2,none⟩=some x2/\w.cell? ⟨g,3,none⟩=some x3/\w.cell? ⟨g,4,none⟩=some x4/\w.cell? ⟨g,5,none⟩=some x5/\w.cell? ⟨g,6,none⟩=some x6/\w.cell? ⟨g,7,none⟩=some x7/\w.cell? ⟨g,8,none⟩=some x8/\w.cell? ⟨g,9,none⟩=some x9/\w.cell? ⟨g,10,none⟩=some xa :=
 ⟨h.cell 0 (by simp),h.cell 1 (by simp),h.cell 2 (by simp),h.cell 3 (by simp),h.cell 4 (by simp),h.cell 5 (by simp),h.cell 6 (by simp),h.cell 7 (by simp),h.cell 8 (by simp),h.cell 9 (by simp),h.cell 10 (by simp)⟩
theorem Bk.fourH{t:TypeId}{w:World}{g:Nat}{x y z u:Value}(h:Bk t w g [x,y,z,u]):w.cell? ⟨g,0,none⟩=some x/\w.cell? ⟨g,1,none⟩=some y/\w.cell? ⟨g,2,none⟩=some z/\w.cell? ⟨g,3,none⟩=some u:=⟨h.cell 0 (by simp),h.cell 1 (by simp),h.cell 2 (by simp),h.cell 3 (by simp)⟩
structure RowM(l:List Bool)(base:Nat)(w':World)(e:Ending):Prop where
 out:∃v,e=.returned v/\Gw El.bool 4 base (fun _=>False) w' v l
