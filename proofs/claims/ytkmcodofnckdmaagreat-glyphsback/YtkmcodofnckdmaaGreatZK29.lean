import Derived.Test.YtkmcodofnckdmaaGreatZK28
set_option maxHeartbeats 8000000
set_option maxRecDepth 100000
set_option linter.unusedSimpArgs false
set_option linter.unusedVariables false
namespace Go.Proofs.YtkmcodofnckdmaaGreat
open Go.RowKit Go.Maps
theorem Io.sliceL{base:Nat}{w:World}{v:Value}{l:LI}(h:Io base w v l):∃a cap,v=.slice a l.length cap/\Ri w a cap l/\(∀b o,a=some ⟨b,o,none⟩->base<=b)/\(a=none->cap=0):=by
 obtain⟨a,cap,rfl,ht⟩:=h.slice
 refine⟨a,cap,rfl,ht,fun b o e=>?_,fun e=>?_⟩
 . subst e
   exact h.lo (g:=b) (by rcases h.2.2 with ⟨e,_⟩ | ⟨g,_,_,e,_⟩ <;> cases e;rfl)
 . subst e
   rcases h.2.2 with ⟨e,_⟩|⟨g,_,_,e,_⟩ <;> injection e with e1 e2 e3
   . cases e1
def onto(zs:LI)(o:Option (LI×Nat)):Option (LI×Nat):=o.map (fun q=>(zs++q.1,q.2))
theorem znu(o:Option (LI×Nat)):onto [] o=o:=by cases o <;> simp[onto]
theorem zki(zs ys:LI)(o:Option (LI×Nat)):onto zs (onto ys o)=onto (zs++ys) o:=by cases o <;> simp[onto]
theorem zip{R:Rp}{b:LN}{f p n:Nat}(hn:0<n)(h:hdB R b p n=false):rdF R b f p n=none:=by
 obtain⟨n,rfl⟩:∃m,n=m+1:=⟨n-1,by omega⟩
 cases f with
 | zero=>rfl
 | succ f=>rw[rdF,h];rfl
theorem zno{R:Rp}{b:LN}{p n c kd:Nat}(h:hdB R b p n=true)(hc:c=nmV b (p:Int) 1%R.M+1)(hk:kd=nmV b (p:Int) 1/R.M):rdF R b n p n=onto (runV R b kd (p+1) c) (rdF R b (n-c) (p+1+c*R.sz kd) (n-c)):=by
 subst hc hk
 have hh:=of_decide_eq_true h
 obtain⟨n,rfl⟩:∃m,n=m+1:=⟨n-1,by omega⟩
 rw[rdF,if_pos h,zv5 R b n (n+1-(nmV b (p:Int) 1%R.M+1)) _ _ (by omega) (by omega)]
 unfold onto
 cases rdF R b (n+1-(nmV b (p:Int) 1%R.M+1)) (p+1+(nmV b (p:Int) 1%R.M+1)*R.sz (nmV b (p:Int) 1/R.M)) (n+1-(nmV b (p:Int) 1%R.M+1)) with
 | none=>rfl
 | some q=>rfl
theorem zci{l p n:Nat}:inB l (p:Int) (n:Int)=decide (p+n<=l):=by unfold inB;exact decide_eq_decide.2 ⟨fun h=>by omega,fun h=>by omega⟩
theorem z0a{v:Nat}(h:v<256):I64 (sx8 v):=by unfold sx8 I64;split <;> omega
theorem zh9{v:Nat}(h:v<65536):I64 (sx16 v):=by unfold sx16 I64;split <;> omega
theorem znp{b:LN}{n:Int}(h:rcO b n=none):rcL b n=[]/\rcN b n=0:=by unfold rcL rcN;rw[h];exact⟨rfl,rfl⟩
def FB(w:World)(c:Nat)(F:Value)(wd:Int):Prop:=w.heap[c]?=some (.cells #[F,.int .i64 wd] 305 (0,0))
theorem FB.lt{w:World}{c:Nat}{F:Value}{wd:Int}(h:FB w c F wd):c<w.heap.size:=(Array.getElem?_eq_some_iff.1 h).1
theorem FB.cells{w:World}{c:Nat}{F:Value}{wd:Int}(h:FB w c F wd):w.cell? ⟨c,0,none⟩=some F/\w.cell? ⟨c,1,none⟩=some (.int .i64 wd):=⟨cell_of_row w c 0 _ _ (0,0) h,cell_of_row w c 1 _ _ (0,0) h⟩
theorem FB.below{w w':World}{c:Nat}{F:Value}{wd:Int}(h:FB w c F wd)(hb:Below w.heap.size w w'):FB w' c F wd:=(hb.block c h.lt).trans h
theorem FB.grown{base:Nat}{w w':World}{c:Nat}{F:Value}{wd:Int}{v:Value}{zs:LI}(h:FB w c F wd)(hi:Io base w v zs)(hg:w.grownBy w' v.ownBlock):FB w' c F wd:=by
 refine(hg.block c h.lt (fun e=>?_)).trans h
 rcases hi.2.2 with ⟨e0,_⟩|⟨g1,cap,cur,k1,k2,k3,k4⟩
 . rw[e0]at e;cases e
 . rw[k1]at e
   have e':some c=some g1:=e
   injection e' with e'
   rw[<-e']at k3
   have h':w.heap[c]?=some (.cells #[F,.int .i64 wd] 305 (0,0)):=h
   rw[k3]at h'
   cases h'
theorem zot(w:World) :
 Calls Tryz.prog 251 #[.int .i64 0] w fun e w'=>e=.returned (.tuple #[.agg #[.func (.func 91) #[] #[],.int .i64 1],.bool true])/\Below w.heap.size w w':=by
 go_enter Tryz.func251,Tryz.ntmps251
 go_wp2
 (try simp only[Exit.inBlock,Exit.then])
 refine bodyPost_ret (v:=.tuple #[.agg #[.func (.func 91) #[] #[],.int .i64 1],.bool true]) ?_ rfl ⟨rfl,bl1 _⟩
 simp[results,Tryz.results251,go_sem]
theorem zx3(w:World) :
 Calls Tryz.prog 251 #[.int .i64 128] w fun e w'=>e=.returned (.tuple #[.agg #[.func (.func 47) #[] #[],.int .i64 2],.bool true])/\Below w.heap.size w w':=by
 go_enter Tryz.func251,Tryz.ntmps251
 go_wp2
 (try simp only[Exit.inBlock,Exit.then])
 refine bodyPost_ret (v:=.tuple #[.agg #[.func (.func 47) #[] #[],.int .i64 2],.bool true]) ?_ rfl ⟨rfl,bl1 _⟩
 simp[results,Tryz.results251,go_sem]
theorem zou(w:World) :
 Calls Tryz.prog 271 #[.int .i64 0] w fun e w'=>e=.returned (.tuple #[.agg #[.func (.func 281) #[] #[],.int .i64 1],.bool true])/\Below w.heap.size w w':=by
 go_enter Tryz.func271,Tryz.ntmps271
 go_wp2
 (try simp only[Exit.inBlock,Exit.then])
 refine bodyPost_ret (v:=.tuple #[.agg #[.func (.func 281) #[] #[],.int .i64 1],.bool true]) ?_ rfl ⟨rfl,bl1 _⟩
 simp[results,Tryz.results271,go_sem]
theorem zx6(w:World) :
 Calls Tryz.prog 271 #[.int .i64 64] w fun e w'=>e=.returned (.tuple #[.agg #[.func (.func 90) #[] #[],.int .i64 2],.bool true])/\Below w.heap.size w w':=by
 go_enter Tryz.func271,Tryz.ntmps271
 go_wp2
 (try simp only[Exit.inBlock,Exit.then])
 refine bodyPost_ret (v:=.tuple #[.agg #[.func (.func 90) #[] #[],.int .i64 2],.bool true]) ?_ rfl ⟨rfl,bl1 _⟩
 simp[results,Tryz.results271,go_sem]
theorem zx5(w:World) :
 Calls Tryz.prog 271 #[.int .i64 128] w fun e w'=>e=.returned (.tuple #[.agg #[.func (.func 282) #[] #[],.int .i64 0],.bool true])/\Below w.heap.size w w':=by
 go_enter Tryz.func271,Tryz.ntmps271
 go_wp2
 (try simp only[Exit.inBlock,Exit.then])
 refine bodyPost_ret (v:=.tuple #[.agg #[.func (.func 282) #[] #[],.int .i64 0],.bool true]) ?_ rfl ⟨rfl,bl1 _⟩
 simp[results,Tryz.results271,go_sem]
theorem zx4(w:World) :
 Calls Tryz.prog 271 #[.int .i64 192] w fun e w'=>e=.returned (.tuple #[.agg #[.nilFunc,.int .i64 0],.bool false])/\Below w.heap.size w w':=by
 go_enter Tryz.func271,Tryz.ntmps271
 go_wp2
 (try simp only[Exit.inBlock,Exit.then])
 refine bodyPost_ret (v:=.tuple #[.agg #[.nilFunc,.int .i64 0],.bool false]) ?_ rfl ⟨rfl,bl1 _⟩
 simp[results,Tryz.results271,go_sem]
theorem z1d{b:LN}(hB:Byt b)(h:2<=b.length):nmV b 0 2=nmV b 0 1*256+nmV b 1 1:=by
 match b,h with
 | x::y::t,_ =>
  have e1:nmV (x::y::t) 0 2=V8 [x,y]:=by
   unfold nmV
   rw[if_pos (by simp only[inB,decide_eq_true_iff,List.length_cons];omega)]
   rfl
  have e2:nmV (x::y::t) 0 1=V8 [x]:=by
   unfold nmV
   rw[if_pos (by simp only[inB,decide_eq_true_iff,List.length_cons];omega)]
   rfl
  have e3:nmV (x::y::t) 1 1=V8 [y]:=by
   unfold nmV
   rw[if_pos (by simp only[inB,decide_eq_true_iff,List.length_cons];omega)]
   rfl
  rw[e1,e2,e3]
  simp[V8]
  omega
theorem zij(a:OA)(cap:Nat)(b:LN)(w:World)(h:Rb w a cap b) :
 Calls Tryz.prog 249 #[.slice a b.length cap] w fun e w'=>∃z:Int,e=.returned (.tuple #[.int .i64 z,.int .i64 (ptA b:Int),.bool (ptO b)])/\(ptO b=true->z=(ptN b:Int))/\w=w':=by
 have hlt:=zbd h.lim 0 1
 have zfz:=zbd h.lim 0 2
 have hu:=zgc a cap b 0 w h ⟨by decide,by decide⟩
 have hv:=zgd a cap b 0 w h ⟨by decide,by decide⟩
 have HT:Hid (2<=b.length->nmV b 0 2=nmV b 0 1*256+nmV b 1 1):=fun h2=>z1d h.lim h2
 rw[show inB b.length 0 1=decide (1<=b.length) from(zci (p:=0) (n:=1)).trans (by rw[Nat.zero_add])]at hu
 rw[show inB b.length 0 2=decide (2<=b.length) from(zci (p:=0) (n:=2)).trans (by rw[Nat.zero_add])]at hv
 obtain⟨x,hx⟩:∃x,nmV b 0 1=x:=⟨_,rfl⟩
 obtain⟨y,hy⟩:∃x,nmV b 0 2=x:=⟨_,rfl⟩
 rw[hx]at hu hlt HT;rw[hy]at hv zfz HT
 simp only[Nat.pow_one]at hlt
 have zfz:y<65536:=by simpa using zfz
 clear h
 by_cases h1:128<=x
 . have HA:Hid (ptA b=2):=by show _=_;unfold ptA;rw[hx,if_pos h1]
   have HO:Hid (ptO b=decide (2<=b.length)):=by show _=_;unfold ptO;rw[HA.out]
   have HN:Hid (2<=b.length->(y:Int)-32768=(ptN b:Int)):=fun h2=>by
    have:=HT.out h2
    unfold ptN
    rw[hx,if_pos h1]
    omega
   obtain⟨q,hq⟩:∃q,decide (2<=b.length)=q:=⟨_,rfl⟩
   rw[hq]at hv HO
   have HQ:Hid (q=true->2<=b.length):=fun h=>of_decide_eq_true (hq.trans h)
   have g1:¬(x:Int)<128:=by omega
   clear hx hy hq h1 HT
   go_enter Tryz.func249,Tryz.ntmps249
   go_wp2_with fail
   refine hu.mono ?_
   rintro e u ⟨rfl,rfl⟩;clear hu
   go_wp2_with fail
   refine hv.mono ?_
   rintro e u ⟨rfl,rfl⟩;clear hv;go_wp2
   go_ret3
   exact⟨(y:Int)-32768,by rw[HA.out,HO.out];rfl,fun h=>HN.out (HQ.out (by rw[<-HO.out];exact h)),rfl⟩
 . have HA:Hid (ptA b=1):=by show _=_;unfold ptA;rw[hx,if_neg h1]
   have HO:Hid (ptO b=decide (1<=b.length)):=by show _=_;unfold ptO;rw[HA.out]
   have HN:Hid ((x:Int)=(ptN b:Int)):=by show _=_;unfold ptN;rw[hx,if_neg h1]
   obtain⟨q,hq⟩:∃q,decide (1<=b.length)=q:=⟨_,rfl⟩
   rw[hq]at hu HO
   have g1:(x:Int)<128:=by omega
   clear hx hy hq h1 HT hv
   go_enter Tryz.func249,Tryz.ntmps249
   go_wp2_with fail
   refine hu.mono ?_
   rintro e u ⟨rfl,rfl⟩;clear hu;go_wp2
   go_ret3
   exact⟨(x:Int),by rw[HA.out,HO.out];rfl,fun _=>HN.out,rfl⟩
theorem z0j(a:OA)(cap:Nat)(b:LN)(p0 N:Nat)(w:World)(h:Rb w a cap b)(hbl:b.length<=100000)(hp0:p0<=b.length)(hN:N<=40000) :
 Calls Tryz.prog 250 #[.slice a b.length cap,.int .i64 (p0:Int),.int .i64 (N:Int),.int .i64 128,.func (.func 251) #[] #[]] w fun e w'=>((∃l e1 v,rdF RPt b N p0 N=some (l,e1)/\e=.returned (.tuple #[v,.int .i64 ((e1:Nat):Int),.bool true])/\Io w.heap.size w' v l)\/(rdF RPt b N p0 N=none/\e=.returned (.tuple #[.slice none 0 0,.int .i64 0,.bool false])))/\Below w.heap.size w w':=by
 obtain⟨tt,htt⟩:∃t,rdF RPt b N p0 N=t:=⟨_,rfl⟩
 rw[htt]
 have HTT:Hid (rdF RPt b N p0 N=tt):=htt
 have HRB:Hid (Rb w a cap b):=h
 clear h htt
 go_enter Tryz.func250,Tryz.ntmps250
 go_wp2
 go_loopw [1,13] (fun pp v wr=>∃(p:Nat) (zs:LI),zs.length<=N/\p<=b.length/\pp=.int .i64 (p:Int)/\tt=onto zs (rdF RPt b (N-zs.length) p (N-zs.length))/\Io w.heap.size wr v zs/\Below w.heap.size w wr) (fun pp _ _=>b.length-(intOf pp).toNat)
 case atStart=>exact⟨p0,[],Nat.zero_le _,hp0,rfl,by rw[znu];exact HTT.out.symm,Io.nil _ _,Below.refl _ _⟩
 case round =>
  clear HTT hp0;obtain⟨p,zs,hz,hp,rfl,ho,hIo,hbW⟩:=hrel
  have HOO:Hid (tt=onto zs (rdF RPt b (N-zs.length) p (N-zs.length))):=ho
  clear ho;obtain⟨av,cv,rfl,hri⟩:=hIo.slice
  by_cases hzn:zs.length<N
  rotate_left
  . have HZ:Hid (tt=some (zs,p)):=by
      show _=_
      rw[HOO.out,show N-zs.length=0 by omega,zbl]
      simp[onto]
    have g1:¬(zs.length:Int)<(N:Int):=by omega
    clear HOO hri;go_wp2
    go_ret3
    exact⟨.inl ⟨zs,p,HZ.out,_,rfl,hIo⟩,hbW⟩
  have hrb:=HRB.out.below hbW
  have hu:=zgc a cap b (p:Int) wr hrb ⟨by omega,by omega⟩
  have hlt:=zbd hrb.lim (p:Int) 1
  rw[show inB b.length (p:Int) 1=decide (p+1<=b.length)from zci (n:=1)]at hu
  have g1:(zs.length:Int)<(N:Int):=by omega
  clear hri hrb
  by_cases h1:p+1<=b.length
  rotate_left
  . have hv0:nmV b (p:Int) 1=0:=by unfold nmV;rw[show inB b.length (p:Int) ((1:Nat):Int)=false from(zci (n:=1)).trans (decide_eq_false h1)];rfl
    have HNO:Hid (tt=none):=by
     show _=_
     rw[HOO.out,zip (by omega) (by rw[hdB];exact decide_eq_false (fun hx=>h1 hx.1))]
     rfl
    obtain⟨z,hz0⟩:∃z:Int,((nmV b (p:Int) 1:Nat):Int)=z:=⟨_,rfl⟩
    rw[decide_eq_false h1,hz0]at hu
    obtain rfl:z=0:=by omega
    have hf:=zot wr
    clear hv0 hz0 HOO hlt h1
    go_wp2_with fail
    refine hu.mono ?_
    rintro e w1 ⟨rfl,rfl⟩;clear hu
    go_wp2_with fail
    refine hf.mono ?_
    rintro e u1 ⟨rfl,hb1⟩
    replace hbW:=hbW.trans (hb1.mono hbW.size)
    clear hf hb1;go_wp2
    go_ret3
    exact⟨.inr ⟨HNO.out,rfl⟩,hbW.alloc hbW.size _⟩
  obtain⟨h,hh⟩:∃h,nmV b (p:Int) 1=h:=⟨_,rfl⟩
  have HH:Hid (nmV b (p:Int) 1=h):=hh
  rw[hh,decide_eq_true h1]at hu;rw[hh]at hlt
  simp only[Nat.pow_one]at hlt
  have HBD:Hid (¬(p+1<=b.length/\h<256/\h%128+1<=N-zs.length/\p+1+(h%128+1)*szP (h/128)<=b.length)->tt=none):=fun hx=>by
   rw[HOO.out,zip (by omega) (by rw[hdB,HH.out];exact decide_eq_false hx)]
   rfl
  have HST:Hid ((p+1<=b.length/\h<256/\h%128+1<=N-zs.length/\p+1+(h%128+1)*szP (h/128)<=b.length)->tt=onto (zs++runV RPt b (h/128) (p+1) (h%128+1)) (rdF RPt b (N-zs.length-(h%128+1)) (p+1+(h%128+1)*szP (h/128)) (N-zs.length-(h%128+1)))):=fun hx=>by
   rw[HOO.out,zno (c:=h%128+1) (kd:=h/128) (by rw[hdB,HH.out];exact decide_eq_true hx) (by rw[HH.out];rfl) (by rw[HH.out];rfl),zki]
   rfl
  obtain⟨m,hm⟩:∃m,h%128=m:=⟨_,rfl⟩
  have hmi:(h:Int)%128=(m:Int):=by omega
  have hmt:(h:Int).tmod 128=(m:Int):=(zq3 (by omega)).trans hmi
  rw[hm]at HBD HST
  have hmM:m<128:=by omega
  obtain⟨kd,hkd⟩:∃k,h/128=k:=⟨_,rfl⟩
  rw[hkd]at HBD HST
  have hhk:h=128*kd+m:=by omega
  have HHK:Hid (h=128*kd+m):=hhk
  clear hh HOO hm hkd HH
  rcases (by omega:kd=0\/kd=1)with hk0|hk0
  . have hsb:(h:Int)-(m:Int)=0:=by omega
    rw[hk0]at HBD HST
    have hf:=zot wr
    have hht:h<256:=by omega
    clear hhk hk0
    by_cases h3:m+1<=N-zs.length
    rotate_left
    . have HNO:Hid (tt=none):=HBD.out (fun hx=>h3 hx.2.2.1)
      have g3:decide ((N:Int)-(zs.length:Int)<=(m:Int))=true:=decide_eq_true (by omega)
      clear HBD HST HHK h1 h3 hlt
      go_wp2_with fail
      refine hu.mono ?_
      rintro e w1 ⟨rfl,rfl⟩;clear hu
      go_wp2_with fail
      refine hf.mono ?_
      rintro e u1 ⟨rfl,hb1⟩
      replace hbW:=hbW.trans (hb1.mono hbW.size)
      clear hf hb1;go_wp2
      go_ret3
      exact⟨.inr ⟨HNO.out,rfl⟩,hbW.alloc hbW.size _⟩
    have g3:decide ((N:Int)-(zs.length:Int)<=(m:Int))=false:=decide_eq_false (by omega)
    go_wp2_with fail
    refine hu.mono ?_
    rintro e w1 ⟨rfl,rfl⟩;clear hu
    go_wp2_with fail
    refine hf.mono ?_
    rintro e u1 ⟨rfl,hb1⟩
    replace hbW:=hbW.trans (hb1.mono hbW.size)
    replace hIo:=hIo.below hb1
    have zn6:=hIo.below (bl1 (.cells #[.func (.func 91) #[] #[],.int .i64 1] 305))
    have zn5:=hbW.alloc hbW.size (.cells #[.func (.func 91) #[] #[],.int .i64 1] 305)
    have hFB:FB (u1.alloc (.cells #[.func (.func 91) #[] #[],.int .i64 1] 305)) u1.heap.size (.func (.func 91) #[] #[]) 1:=heap_alloc_new u1 _
    clear hf hb1 hIo hbW g3;go_wp2
    generalize u1.alloc (.cells #[.func (.func 91) #[] #[],.int .i64 1] 305)=u2 at *
    generalize u1.heap.size=c at *
    go_loopw [1,13,60] (fun pp v kk wr=>∃(j q:Nat),j<=m+1/\q=p+1+j*szP 0/\q<=b.length/\pp=.int .i64 (q:Int)/\kk=.int .i64 (j:Int)/\Io w.heap.size wr v (zs++runV RPt b 0 (p+1) j)/\FB wr c (.func (.func 91) #[] #[]) 1/\Below w.heap.size w wr) (fun _ _ kk _=>m+1-(intOf kk).toNat)
    case atStart=>exact⟨0,p+1,Nat.zero_le _,by rw[Nat.zero_mul],h1,by go_num,rfl,by rw[show runV RPt b 0 (p+1) 0=[]from rfl,List.append_nil];exact zn6,hFB,zn5⟩
    case round =>
     clear zn6 zn5 hFB;obtain⟨j,q,hj,hq,hql,rfl,rfl,hIo,hFB,hbW⟩:=hrel
     have HQ:Hid (q=p+1+j*szP 0):=hq
     clear hq;obtain⟨a4,c4,rfl,_⟩:=hIo.slice
     by_cases hjm:j<=m
     rotate_left
     . obtain rfl:j=m+1:=by omega
       have HS:Hid (_):=HST.out ⟨h1,hht,h3,by rw[<-HQ.out];exact hql⟩
       have hlen:(zs++runV RPt b 0 (p+1) (m+1)).length=zs.length+(m+1):=by rw[List.length_append,zbf]
       have hpq:p<q:=by rw[HQ.out];omega
       have g4:¬(((m+1:Nat):Nat):Int)<(m:Int)+1:=by omega
       have HRL:Hid (tt=onto (zs++runV RPt b 0 (p+1) (m+1)) (rdF RPt b (N-(zs++runV RPt b 0 (p+1) (m+1)).length) q (N-(zs++runV RPt b 0 (p+1) (m+1)).length))):=by
        show _=_
        rw[HS.out,hlen,HQ.out,show N-(zs.length+(m+1))=N-zs.length-(m+1) by omega]
       go_wp2
       go_roundw
       case rel=>exact⟨q,_,by rw[hlen];omega,hql,rfl,HRL.out,hIo,hbW⟩
       case measure=>simp[intOf];omega
     have g4:(j:Int)<(m:Int)+1:=by omega
     have HSC:Hid (zs++runV RPt b 0 (p+1) (j+1)=(zs++runV RPt b 0 (p+1) j)++[((nmV b (q:Int) 1:Nat):Int)]):=by
      show _=_
      rw[zdb,<-List.append_assoc,HQ.out]
      rfl
     have HQ2:Hid (p+1+(j+1)*szP 0=q+1):=by show _=_;rw[HQ.out,Nat.add_mul,Nat.one_mul,show szP 0=1 from rfl];omega
     have zlb:Hid (b.length<q+1->tt=none):=fun hx=>HBD.out (fun hy=>by
      have h5:=hy.2.2.2
      have h6:(j+1)*szP 0<=(m+1)*szP 0:=Nat.mul_le_mul_right _ (by omega)
      have h7:=HQ2.out
      omega)
     have hll:(zs++runV RPt b 0 (p+1) j).length+1<=1000000:=by rw[List.length_append,zbf];omega
     clear HBD HST
     obtain⟨ys,hys⟩:∃ys,zs++runV RPt b 0 (p+1) j=ys:=⟨_,rfl⟩
     rw[hys]at HSC hIo hll ⊢;clear hys;obtain⟨f0,f1⟩:=hFB.cells
     have hrb:=HRB.out.below hbW
     have hu:=zgc a cap b (q:Int) wr hrb ⟨by omega,by omega⟩
     have zfz:=zbd hrb.lim (q:Int) 1
     have zfz:nmV b (q:Int) 1<256:=by simpa using zfz
     have hzi:I64 (((nmV b (q:Int) 1:Nat):Int)):=⟨by omega,by omega⟩
     rw[show inB b.length (q:Int) 1=decide (q+1<=b.length)from zci (n:=1)]at hu
     obtain⟨x,hx⟩:∃x,((nmV b (q:Int) 1:Nat):Int)=x:=⟨_,rfl⟩
     rw[hx]at hu HSC hzi;clear hx zfz hrb
     by_cases h5:q+1<=b.length
     rotate_left
     . have HNO:Hid (tt=none):=zlb.out (by omega)
       rw[decide_eq_false h5]at hu;clear zlb HSC HQ2
       go_wp2_with fail
       refine hu.mono ?_
       rintro e w1 ⟨rfl,rfl⟩;clear hu;go_wp2
       go_ret3
       exact⟨.inr ⟨HNO.out,rfl⟩,hbW⟩
     rw[decide_eq_true h5]at hu
     have zi4:=hIo.below (bl1 (.cells #[.int .i64 x] 3))
     have zn8:=hFB.below (bl1 (.cells #[.int .i64 x] 3))
     have hN5:=heap_alloc_new wr (.cells #[.int .i64 x] 3)
     have n0:=cell_of_row _ wr.heap.size 0 _ _ (0,0) hN5
     have hbs:w.heap.size<=(wr.alloc (.cells #[.int .i64 x] 3)).heap.size:=Nat.le_trans hbW.size (bl1 _).size
     clear hN5 zlb
     go_wp2_with fail
     refine hu.mono ?_
     rintro e w1 ⟨rfl,rfl⟩;clear hu
     go_wp2_with (at_builtin;refine zal rfl _ _ rfl w.heap.size _ ys rfl zi4 wr.heap.size x rfl n0 hzi hll hbs ?_)
     intro v' w9 hI9 hgrow
     have hB9:Below w.heap.size w w9:=(hbW.alloc hbW.size _).grown hgrow hbs (fun k hk=>hIo.lo hk)
     have zn7:=zn8.grown zi4 hgrow
     obtain⟨e0,e1⟩:=zn7.cells;rw[<-HSC.out]at hI9;clear hgrow zi4 zn8 n0 hbs hll hIo hbW hFB f0 f1;go_wp2
     go_roundw
     case rel=>exact⟨j+1,q+1,by omega,HQ2.out.symm,h5,by go_num,by go_num,hI9,zn7,hB9⟩
     case measure=>simp[intOf];omega
  . have hsb:(h:Int)-(m:Int)=128:=by omega
    rw[hk0]at HBD HST
    have hf:=zx3 wr
    have hht:h<256:=by omega
    clear hhk hk0
    by_cases h3:m+1<=N-zs.length
    rotate_left
    . have HNO:Hid (tt=none):=HBD.out (fun hx=>h3 hx.2.2.1)
      have g3:decide ((N:Int)-(zs.length:Int)<=(m:Int))=true:=decide_eq_true (by omega)
      clear HBD HST HHK h1 h3 hlt
      go_wp2_with fail
      refine hu.mono ?_
      rintro e w1 ⟨rfl,rfl⟩;clear hu
      go_wp2_with fail
      refine hf.mono ?_
      rintro e u1 ⟨rfl,hb1⟩
      replace hbW:=hbW.trans (hb1.mono hbW.size)
      clear hf hb1;go_wp2
      go_ret3
      exact⟨.inr ⟨HNO.out,rfl⟩,hbW.alloc hbW.size _⟩
    have g3:decide ((N:Int)-(zs.length:Int)<=(m:Int))=false:=decide_eq_false (by omega)
    go_wp2_with fail
    refine hu.mono ?_
    rintro e w1 ⟨rfl,rfl⟩;clear hu
    go_wp2_with fail
    refine hf.mono ?_
    rintro e u1 ⟨rfl,hb1⟩
    replace hbW:=hbW.trans (hb1.mono hbW.size)
    replace hIo:=hIo.below hb1
    have zn6:=hIo.below (bl1 (.cells #[.func (.func 47) #[] #[],.int .i64 2] 305))
    have zn5:=hbW.alloc hbW.size (.cells #[.func (.func 47) #[] #[],.int .i64 2] 305)
    have hFB:FB (u1.alloc (.cells #[.func (.func 47) #[] #[],.int .i64 2] 305)) u1.heap.size (.func (.func 47) #[] #[]) 2:=heap_alloc_new u1 _
    clear hf hb1 hIo hbW g3;go_wp2
    generalize u1.alloc (.cells #[.func (.func 47) #[] #[],.int .i64 2] 305)=u2 at *
    generalize u1.heap.size=c at *
    go_loopw [1,13,60] (fun pp v kk wr=>∃(j q:Nat),j<=m+1/\q=p+1+j*szP 1/\q<=b.length/\pp=.int .i64 (q:Int)/\kk=.int .i64 (j:Int)/\Io w.heap.size wr v (zs++runV RPt b 1 (p+1) j)/\FB wr c (.func (.func 47) #[] #[]) 2/\Below w.heap.size w wr) (fun _ _ kk _=>m+1-(intOf kk).toNat)
    case atStart=>exact⟨0,p+1,Nat.zero_le _,by rw[Nat.zero_mul],h1,by go_num,rfl,by rw[show runV RPt b 1 (p+1) 0=[]from rfl,List.append_nil];exact zn6,hFB,zn5⟩
    case round =>
     clear zn6 zn5 hFB;obtain⟨j,q,hj,hq,hql,rfl,rfl,hIo,hFB,hbW⟩:=hrel
     have HQ:Hid (q=p+1+j*szP 1):=hq
     clear hq;obtain⟨a4,c4,rfl,_⟩:=hIo.slice
     by_cases hjm:j<=m
     rotate_left
     . obtain rfl:j=m+1:=by omega
       have HS:Hid (_):=HST.out ⟨h1,hht,h3,by rw[<-HQ.out];exact hql⟩
       have hlen:(zs++runV RPt b 1 (p+1) (m+1)).length=zs.length+(m+1):=by rw[List.length_append,zbf]
       have hpq:p<q:=by rw[HQ.out];omega
       have g4:¬(((m+1:Nat):Nat):Int)<(m:Int)+1:=by omega
       have HRL:Hid (tt=onto (zs++runV RPt b 1 (p+1) (m+1)) (rdF RPt b (N-(zs++runV RPt b 1 (p+1) (m+1)).length) q (N-(zs++runV RPt b 1 (p+1) (m+1)).length))):=by
        show _=_
        rw[HS.out,hlen,HQ.out,show N-(zs.length+(m+1))=N-zs.length-(m+1) by omega]
       go_wp2
       go_roundw
       case rel=>exact⟨q,_,by rw[hlen];omega,hql,rfl,HRL.out,hIo,hbW⟩
       case measure=>simp[intOf];omega
     have g4:(j:Int)<(m:Int)+1:=by omega
     have HSC:Hid (zs++runV RPt b 1 (p+1) (j+1)=(zs++runV RPt b 1 (p+1) j)++[((nmV b (q:Int) 2:Nat):Int)]):=by
      show _=_
      rw[zdb,<-List.append_assoc,HQ.out]
      rfl
     have HQ2:Hid (p+1+(j+1)*szP 1=q+2):=by show _=_;rw[HQ.out,Nat.add_mul,Nat.one_mul,show szP 1=2 from rfl];omega
     have zlb:Hid (b.length<q+2->tt=none):=fun hx=>HBD.out (fun hy=>by
      have h5:=hy.2.2.2
      have h6:(j+1)*szP 1<=(m+1)*szP 1:=Nat.mul_le_mul_right _ (by omega)
      have h7:=HQ2.out
      omega)
     have hll:(zs++runV RPt b 1 (p+1) j).length+1<=1000000:=by rw[List.length_append,zbf];omega
     clear HBD HST
     obtain⟨ys,hys⟩:∃ys,zs++runV RPt b 1 (p+1) j=ys:=⟨_,rfl⟩
     rw[hys]at HSC hIo hll ⊢;clear hys;obtain⟨f0,f1⟩:=hFB.cells
     have hrb:=HRB.out.below hbW
     have hu:=zgd a cap b (q:Int) wr hrb ⟨by omega,by omega⟩
     have zfz:=zbd hrb.lim (q:Int) 2
     have zfz:nmV b (q:Int) 2<65536:=by simpa using zfz
     have hzi:I64 (((nmV b (q:Int) 2:Nat):Int)):=⟨by omega,by omega⟩
     rw[show inB b.length (q:Int) 2=decide (q+2<=b.length)from zci (n:=2)]at hu
     obtain⟨x,hx⟩:∃x,((nmV b (q:Int) 2:Nat):Int)=x:=⟨_,rfl⟩
     rw[hx]at hu HSC hzi;clear hx zfz hrb
     by_cases h5:q+2<=b.length
     rotate_left
     . have HNO:Hid (tt=none):=zlb.out (by omega)
       rw[decide_eq_false h5]at hu;clear zlb HSC HQ2
       go_wp2_with fail
       refine hu.mono ?_
       rintro e w1 ⟨rfl,rfl⟩;clear hu;go_wp2
       go_ret3
       exact⟨.inr ⟨HNO.out,rfl⟩,hbW⟩
     rw[decide_eq_true h5]at hu
     have zi4:=hIo.below (bl1 (.cells #[.int .i64 x] 3))
     have zn8:=hFB.below (bl1 (.cells #[.int .i64 x] 3))
     have hN5:=heap_alloc_new wr (.cells #[.int .i64 x] 3)
     have n0:=cell_of_row _ wr.heap.size 0 _ _ (0,0) hN5
     have hbs:w.heap.size<=(wr.alloc (.cells #[.int .i64 x] 3)).heap.size:=Nat.le_trans hbW.size (bl1 _).size
     clear hN5 zlb
     go_wp2_with fail
     refine hu.mono ?_
     rintro e w1 ⟨rfl,rfl⟩;clear hu
     go_wp2_with (at_builtin;refine zal rfl _ _ rfl w.heap.size _ ys rfl zi4 wr.heap.size x rfl n0 hzi hll hbs ?_)
     intro v' w9 hI9 hgrow
     have hB9:Below w.heap.size w w9:=(hbW.alloc hbW.size _).grown hgrow hbs (fun k hk=>hIo.lo hk)
     have zn7:=zn8.grown zi4 hgrow
     obtain⟨e0,e1⟩:=zn7.cells;rw[<-HSC.out]at hI9;clear hgrow zi4 zn8 n0 hbs hll hIo hbW hFB f0 f1;go_wp2
     go_roundw
     case rel=>exact⟨j+1,q+2,by omega,HQ2.out.symm,h5,by go_num,by go_num,hI9,zn7,hB9⟩
     case measure=>simp[intOf];omega
theorem z0k(a:OA)(cap:Nat)(b:LN)(p0 N:Nat)(w:World)(h:Rb w a cap b)(hbl:b.length<=100000)(hp0:p0<=b.length)(hN:N<=40000) :
 Calls Tryz.prog 250 #[.slice a b.length cap,.int .i64 (p0:Int),.int .i64 (N:Int),.int .i64 64,.func (.func 271) #[] #[]] w fun e w'=>((∃l e1 v,rdF RC b N p0 N=some (l,e1)/\e=.returned (.tuple #[v,.int .i64 ((e1:Nat):Int),.bool true])/\Io w.heap.size w' v l)\/(rdF RC b N p0 N=none/\e=.returned (.tuple #[.slice none 0 0,.int .i64 0,.bool false])))/\Below w.heap.size w w':=by
 obtain⟨tt,htt⟩:∃t,rdF RC b N p0 N=t:=⟨_,rfl⟩
 rw[htt]
 have HTT:Hid (rdF RC b N p0 N=tt):=htt
 have HRB:Hid (Rb w a cap b):=h
 clear h htt
 go_enter Tryz.func250,Tryz.ntmps250
 go_wp2
 go_loopw [1,13] (fun pp v wr=>∃(p:Nat) (zs:LI),zs.length<=N/\p<=b.length/\pp=.int .i64 (p:Int)/\tt=onto zs (rdF RC b (N-zs.length) p (N-zs.length))/\Io w.heap.size wr v zs/\Below w.heap.size w wr) (fun pp _ _=>b.length-(intOf pp).toNat)
 case atStart=>exact⟨p0,[],Nat.zero_le _,hp0,rfl,by rw[znu];exact HTT.out.symm,Io.nil _ _,Below.refl _ _⟩
 case round =>
  clear HTT hp0;obtain⟨p,zs,hz,hp,rfl,ho,hIo,hbW⟩:=hrel
  have HOO:Hid (tt=onto zs (rdF RC b (N-zs.length) p (N-zs.length))):=ho
  clear ho;obtain⟨av,cv,rfl,hri⟩:=hIo.slice
  by_cases hzn:zs.length<N
  rotate_left
  . have HZ:Hid (tt=some (zs,p)):=by
      show _=_
      rw[HOO.out,show N-zs.length=0 by omega,zbl]
      simp[onto]
    have g1:¬(zs.length:Int)<(N:Int):=by omega
    clear HOO hri;go_wp2
    go_ret3
    exact⟨.inl ⟨zs,p,HZ.out,_,rfl,hIo⟩,hbW⟩
  have hrb:=HRB.out.below hbW
  have hu:=zgc a cap b (p:Int) wr hrb ⟨by omega,by omega⟩
  have hlt:=zbd hrb.lim (p:Int) 1
  rw[show inB b.length (p:Int) 1=decide (p+1<=b.length)from zci (n:=1)]at hu
  have g1:(zs.length:Int)<(N:Int):=by omega
  clear hri hrb
  by_cases h1:p+1<=b.length
  rotate_left
  . have hv0:nmV b (p:Int) 1=0:=by unfold nmV;rw[show inB b.length (p:Int) ((1:Nat):Int)=false from(zci (n:=1)).trans (decide_eq_false h1)];rfl
    have HNO:Hid (tt=none):=by
     show _=_
     rw[HOO.out,zip (by omega) (by rw[hdB];exact decide_eq_false (fun hx=>h1 hx.1))]
     rfl
    obtain⟨z,hz0⟩:∃z:Int,((nmV b (p:Int) 1:Nat):Int)=z:=⟨_,rfl⟩
    rw[decide_eq_false h1,hz0]at hu
    obtain rfl:z=0:=by omega
    have hf:=zou wr
    clear hv0 hz0 HOO hlt h1
    go_wp2_with fail
    refine hu.mono ?_
    rintro e w1 ⟨rfl,rfl⟩;clear hu
    go_wp2_with fail
    refine hf.mono ?_
    rintro e u1 ⟨rfl,hb1⟩
    replace hbW:=hbW.trans (hb1.mono hbW.size)
    clear hf hb1;go_wp2
    go_ret3
    exact⟨.inr ⟨HNO.out,rfl⟩,hbW.alloc hbW.size _⟩
  obtain⟨h,hh⟩:∃h,nmV b (p:Int) 1=h:=⟨_,rfl⟩
  have HH:Hid (nmV b (p:Int) 1=h):=hh
  rw[hh,decide_eq_true h1]at hu;rw[hh]at hlt
  simp only[Nat.pow_one]at hlt
  have HBD:Hid (¬(p+1<=b.length/\h<192/\h%64+1<=N-zs.length/\p+1+(h%64+1)*szC (h/64)<=b.length)->tt=none):=fun hx=>by
   rw[HOO.out,zip (by omega) (by rw[hdB,HH.out];exact decide_eq_false hx)]
   rfl
  have HST:Hid ((p+1<=b.length/\h<192/\h%64+1<=N-zs.length/\p+1+(h%64+1)*szC (h/64)<=b.length)->tt=onto (zs++runV RC b (h/64) (p+1) (h%64+1)) (rdF RC b (N-zs.length-(h%64+1)) (p+1+(h%64+1)*szC (h/64)) (N-zs.length-(h%64+1)))):=fun hx=>by
   rw[HOO.out,zno (c:=h%64+1) (kd:=h/64) (by rw[hdB,HH.out];exact decide_eq_true hx) (by rw[HH.out];rfl) (by rw[HH.out];rfl),zki]
   rfl
  obtain⟨m,hm⟩:∃m,h%64=m:=⟨_,rfl⟩
  have hmi:(h:Int)%64=(m:Int):=by omega
  have hmt:(h:Int).tmod 64=(m:Int):=(zq3 (by omega)).trans hmi
  rw[hm]at HBD HST
  have hmM:m<64:=by omega
  obtain⟨kd,hkd⟩:∃k,h/64=k:=⟨_,rfl⟩
  rw[hkd]at HBD HST
  have hhk:h=64*kd+m:=by omega
  have HHK:Hid (h=64*kd+m):=hhk
  clear hh HOO hm hkd HH
  rcases (by omega:kd=0\/kd=1\/kd=2\/kd=3)with hk0|hk0|hk0|hk0
  . have hsb:(h:Int)-(m:Int)=0:=by omega
    rw[hk0]at HBD HST
    have hf:=zou wr
    have hht:h<192:=by omega
    clear hhk hk0
    by_cases h3:m+1<=N-zs.length
    rotate_left
    . have HNO:Hid (tt=none):=HBD.out (fun hx=>h3 hx.2.2.1)
      have g3:decide ((N:Int)-(zs.length:Int)<=(m:Int))=true:=decide_eq_true (by omega)
      clear HBD HST HHK h1 h3 hlt
      go_wp2_with fail
      refine hu.mono ?_
      rintro e w1 ⟨rfl,rfl⟩;clear hu
      go_wp2_with fail
      refine hf.mono ?_
      rintro e u1 ⟨rfl,hb1⟩
      replace hbW:=hbW.trans (hb1.mono hbW.size)
      clear hf hb1;go_wp2
      go_ret3
      exact⟨.inr ⟨HNO.out,rfl⟩,hbW.alloc hbW.size _⟩
    have g3:decide ((N:Int)-(zs.length:Int)<=(m:Int))=false:=decide_eq_false (by omega)
    go_wp2_with fail
    refine hu.mono ?_
    rintro e w1 ⟨rfl,rfl⟩;clear hu
    go_wp2_with fail
    refine hf.mono ?_
    rintro e u1 ⟨rfl,hb1⟩
    replace hbW:=hbW.trans (hb1.mono hbW.size)
    replace hIo:=hIo.below hb1
    have zn6:=hIo.below (bl1 (.cells #[.func (.func 281) #[] #[],.int .i64 1] 305))
    have zn5:=hbW.alloc hbW.size (.cells #[.func (.func 281) #[] #[],.int .i64 1] 305)
    have hFB:FB (u1.alloc (.cells #[.func (.func 281) #[] #[],.int .i64 1] 305)) u1.heap.size (.func (.func 281) #[] #[]) 1:=heap_alloc_new u1 _
    clear hf hb1 hIo hbW g3;go_wp2
    generalize u1.alloc (.cells #[.func (.func 281) #[] #[],.int .i64 1] 305)=u2 at *
    generalize u1.heap.size=c at *
    go_loopw [1,13,60] (fun pp v kk wr=>∃(j q:Nat),j<=m+1/\q=p+1+j*szC 0/\q<=b.length/\pp=.int .i64 (q:Int)/\kk=.int .i64 (j:Int)/\Io w.heap.size wr v (zs++runV RC b 0 (p+1) j)/\FB wr c (.func (.func 281) #[] #[]) 1/\Below w.heap.size w wr) (fun _ _ kk _=>m+1-(intOf kk).toNat)
    case atStart=>exact⟨0,p+1,Nat.zero_le _,by rw[Nat.zero_mul],h1,by go_num,rfl,by rw[show runV RC b 0 (p+1) 0=[]from rfl,List.append_nil];exact zn6,hFB,zn5⟩
    case round =>
     clear zn6 zn5 hFB;obtain⟨j,q,hj,hq,hql,rfl,rfl,hIo,hFB,hbW⟩:=hrel
     have HQ:Hid (q=p+1+j*szC 0):=hq
     clear hq;obtain⟨a4,c4,rfl,_⟩:=hIo.slice
     by_cases hjm:j<=m
     rotate_left
     . obtain rfl:j=m+1:=by omega
       have HS:Hid (_):=HST.out ⟨h1,hht,h3,by rw[<-HQ.out];exact hql⟩
       have hlen:(zs++runV RC b 0 (p+1) (m+1)).length=zs.length+(m+1):=by rw[List.length_append,zbf]
       have hpq:p<q:=by rw[HQ.out];omega
       have g4:¬(((m+1:Nat):Nat):Int)<(m:Int)+1:=by omega
       have HRL:Hid (tt=onto (zs++runV RC b 0 (p+1) (m+1)) (rdF RC b (N-(zs++runV RC b 0 (p+1) (m+1)).length) q (N-(zs++runV RC b 0 (p+1) (m+1)).length))):=by
        show _=_
        rw[HS.out,hlen,HQ.out,show N-(zs.length+(m+1))=N-zs.length-(m+1) by omega]
       go_wp2
       go_roundw
       case rel=>exact⟨q,_,by rw[hlen];omega,hql,rfl,HRL.out,hIo,hbW⟩
       case measure=>simp[intOf];omega
     have g4:(j:Int)<(m:Int)+1:=by omega
     have HSC:Hid (zs++runV RC b 0 (p+1) (j+1)=(zs++runV RC b 0 (p+1) j)++[sx8 (nmV b (q:Int) 1)]):=by
      show _=_
      rw[zdb,<-List.append_assoc,HQ.out]
      rfl
     have HQ2:Hid (p+1+(j+1)*szC 0=q+1):=by show _=_;rw[HQ.out,Nat.add_mul,Nat.one_mul,show szC 0=1 from rfl];omega
     have zlb:Hid (b.length<q+1->tt=none):=fun hx=>HBD.out (fun hy=>by
      have h5:=hy.2.2.2
      have h6:(j+1)*szC 0<=(m+1)*szC 0:=Nat.mul_le_mul_right _ (by omega)
      have h7:=HQ2.out
      omega)
     have hll:(zs++runV RC b 0 (p+1) j).length+1<=1000000:=by rw[List.length_append,zbf];omega
     clear HBD HST
     obtain⟨ys,hys⟩:∃ys,zs++runV RC b 0 (p+1) j=ys:=⟨_,rfl⟩
     rw[hys]at HSC hIo hll ⊢;clear hys;obtain⟨f0,f1⟩:=hFB.cells
     have hrb:=HRB.out.below hbW
     have hu:=zmh a cap b (q:Int) wr hrb ⟨by omega,by omega⟩
     have zfz:=zbd hrb.lim (q:Int) 1
     have zfz:nmV b (q:Int) 1<256:=by simpa using zfz
     have hzi:I64 (sx8 (nmV b (q:Int) 1)):=z0a zfz
     rw[show inB b.length (q:Int) 1=decide (q+1<=b.length)from zci (n:=1)]at hu
     obtain⟨x,hx⟩:∃x,sx8 (nmV b (q:Int) 1)=x:=⟨_,rfl⟩
     rw[hx]at hu HSC hzi;clear hx zfz hrb
     by_cases h5:q+1<=b.length
     rotate_left
     . have HNO:Hid (tt=none):=zlb.out (by omega)
       rw[decide_eq_false h5]at hu;clear zlb HSC HQ2
       go_wp2_with fail
       refine hu.mono ?_
       rintro e w1 ⟨rfl,rfl⟩;clear hu;go_wp2
       go_ret3
       exact⟨.inr ⟨HNO.out,rfl⟩,hbW⟩
     rw[decide_eq_true h5]at hu
     have zi4:=hIo.below (bl1 (.cells #[.int .i64 x] 3))
     have zn8:=hFB.below (bl1 (.cells #[.int .i64 x] 3))
     have hN5:=heap_alloc_new wr (.cells #[.int .i64 x] 3)
     have n0:=cell_of_row _ wr.heap.size 0 _ _ (0,0) hN5
     have hbs:w.heap.size<=(wr.alloc (.cells #[.int .i64 x] 3)).heap.size:=Nat.le_trans hbW.size (bl1 _).size
     clear hN5 zlb
     go_wp2_with fail
     refine hu.mono ?_
     rintro e w1 ⟨rfl,rfl⟩;clear hu
     go_wp2_with (at_builtin;refine zal rfl _ _ rfl w.heap.size _ ys rfl zi4 wr.heap.size x rfl n0 hzi hll hbs ?_)
     intro v' w9 hI9 hgrow
     have hB9:Below w.heap.size w w9:=(hbW.alloc hbW.size _).grown hgrow hbs (fun k hk=>hIo.lo hk)
     have zn7:=zn8.grown zi4 hgrow
     obtain⟨e0,e1⟩:=zn7.cells;rw[<-HSC.out]at hI9;clear hgrow zi4 zn8 n0 hbs hll hIo hbW hFB f0 f1;go_wp2
     go_roundw
     case rel=>exact⟨j+1,q+1,by omega,HQ2.out.symm,h5,by go_num,by go_num,hI9,zn7,hB9⟩
     case measure=>simp[intOf];omega
  . have hsb:(h:Int)-(m:Int)=64:=by omega
    rw[hk0]at HBD HST
    have hf:=zx6 wr
    have hht:h<192:=by omega
    clear hhk hk0
    by_cases h3:m+1<=N-zs.length
    rotate_left
    . have HNO:Hid (tt=none):=HBD.out (fun hx=>h3 hx.2.2.1)
      have g3:decide ((N:Int)-(zs.length:Int)<=(m:Int))=true:=decide_eq_true (by omega)
      clear HBD HST HHK h1 h3 hlt
      go_wp2_with fail
      refine hu.mono ?_
      rintro e w1 ⟨rfl,rfl⟩;clear hu
      go_wp2_with fail
      refine hf.mono ?_
      rintro e u1 ⟨rfl,hb1⟩
      replace hbW:=hbW.trans (hb1.mono hbW.size)
      clear hf hb1;go_wp2
      go_ret3
      exact⟨.inr ⟨HNO.out,rfl⟩,hbW.alloc hbW.size _⟩
    have g3:decide ((N:Int)-(zs.length:Int)<=(m:Int))=false:=decide_eq_false (by omega)
    go_wp2_with fail
    refine hu.mono ?_
    rintro e w1 ⟨rfl,rfl⟩;clear hu
    go_wp2_with fail
    refine hf.mono ?_
    rintro e u1 ⟨rfl,hb1⟩
    replace hbW:=hbW.trans (hb1.mono hbW.size)
    replace hIo:=hIo.below hb1
    have zn6:=hIo.below (bl1 (.cells #[.func (.func 90) #[] #[],.int .i64 2] 305))
    have zn5:=hbW.alloc hbW.size (.cells #[.func (.func 90) #[] #[],.int .i64 2] 305)
    have hFB:FB (u1.alloc (.cells #[.func (.func 90) #[] #[],.int .i64 2] 305)) u1.heap.size (.func (.func 90) #[] #[]) 2:=heap_alloc_new u1 _
    clear hf hb1 hIo hbW g3;go_wp2
    generalize u1.alloc (.cells #[.func (.func 90) #[] #[],.int .i64 2] 305)=u2 at *
    generalize u1.heap.size=c at *
    go_loopw [1,13,60] (fun pp v kk wr=>∃(j q:Nat),j<=m+1/\q=p+1+j*szC 1/\q<=b.length/\pp=.int .i64 (q:Int)/\kk=.int .i64 (j:Int)/\Io w.heap.size wr v (zs++runV RC b 1 (p+1) j)/\FB wr c (.func (.func 90) #[] #[]) 2/\Below w.heap.size w wr) (fun _ _ kk _=>m+1-(intOf kk).toNat)
    case atStart=>exact⟨0,p+1,Nat.zero_le _,by rw[Nat.zero_mul],h1,by go_num,rfl,by rw[show runV RC b 1 (p+1) 0=[]from rfl,List.append_nil];exact zn6,hFB,zn5⟩
    case round =>
     clear zn6 zn5 hFB;obtain⟨j,q,hj,hq,hql,rfl,rfl,hIo,hFB,hbW⟩:=hrel
     have HQ:Hid (q=p+1+j*szC 1):=hq
     clear hq;obtain⟨a4,c4,rfl,_⟩:=hIo.slice
     by_cases hjm:j<=m
     rotate_left
     . obtain rfl:j=m+1:=by omega
       have HS:Hid (_):=HST.out ⟨h1,hht,h3,by rw[<-HQ.out];exact hql⟩
       have hlen:(zs++runV RC b 1 (p+1) (m+1)).length=zs.length+(m+1):=by rw[List.length_append,zbf]
       have hpq:p<q:=by rw[HQ.out];omega
       have g4:¬(((m+1:Nat):Nat):Int)<(m:Int)+1:=by omega
       have HRL:Hid (tt=onto (zs++runV RC b 1 (p+1) (m+1)) (rdF RC b (N-(zs++runV RC b 1 (p+1) (m+1)).length) q (N-(zs++runV RC b 1 (p+1) (m+1)).length))):=by
        show _=_
        rw[HS.out,hlen,HQ.out,show N-(zs.length+(m+1))=N-zs.length-(m+1) by omega]
       go_wp2
       go_roundw
       case rel=>exact⟨q,_,by rw[hlen];omega,hql,rfl,HRL.out,hIo,hbW⟩
       case measure=>simp[intOf];omega
     have g4:(j:Int)<(m:Int)+1:=by omega
     have HSC:Hid (zs++runV RC b 1 (p+1) (j+1)=(zs++runV RC b 1 (p+1) j)++[sx16 (nmV b (q:Int) 2)]):=by
      show _=_
      rw[zdb,<-List.append_assoc,HQ.out]
      rfl
     have HQ2:Hid (p+1+(j+1)*szC 1=q+2):=by show _=_;rw[HQ.out,Nat.add_mul,Nat.one_mul,show szC 1=2 from rfl];omega
     have zlb:Hid (b.length<q+2->tt=none):=fun hx=>HBD.out (fun hy=>by
      have h5:=hy.2.2.2
      have h6:(j+1)*szC 1<=(m+1)*szC 1:=Nat.mul_le_mul_right _ (by omega)
      have h7:=HQ2.out
      omega)
     have hll:(zs++runV RC b 1 (p+1) j).length+1<=1000000:=by rw[List.length_append,zbf];omega
     clear HBD HST
     obtain⟨ys,hys⟩:∃ys,zs++runV RC b 1 (p+1) j=ys:=⟨_,rfl⟩
     rw[hys]at HSC hIo hll ⊢;clear hys;obtain⟨f0,f1⟩:=hFB.cells
     have hrb:=HRB.out.below hbW
     have hu:=zgw a cap b (q:Int) wr hrb ⟨by omega,by omega⟩
     have zfz:=zbd hrb.lim (q:Int) 2
     have zfz:nmV b (q:Int) 2<65536:=by simpa using zfz
     have hzi:I64 (sx16 (nmV b (q:Int) 2)):=zh9 zfz
     rw[show inB b.length (q:Int) 2=decide (q+2<=b.length)from zci (n:=2)]at hu
     obtain⟨x,hx⟩:∃x,sx16 (nmV b (q:Int) 2)=x:=⟨_,rfl⟩
     rw[hx]at hu HSC hzi;clear hx zfz hrb
     by_cases h5:q+2<=b.length
     rotate_left
     . have HNO:Hid (tt=none):=zlb.out (by omega)
       rw[decide_eq_false h5]at hu;clear zlb HSC HQ2
       go_wp2_with fail
       refine hu.mono ?_
       rintro e w1 ⟨rfl,rfl⟩;clear hu;go_wp2
       go_ret3
       exact⟨.inr ⟨HNO.out,rfl⟩,hbW⟩
     rw[decide_eq_true h5]at hu
     have zi4:=hIo.below (bl1 (.cells #[.int .i64 x] 3))
     have zn8:=hFB.below (bl1 (.cells #[.int .i64 x] 3))
     have hN5:=heap_alloc_new wr (.cells #[.int .i64 x] 3)
     have n0:=cell_of_row _ wr.heap.size 0 _ _ (0,0) hN5
     have hbs:w.heap.size<=(wr.alloc (.cells #[.int .i64 x] 3)).heap.size:=Nat.le_trans hbW.size (bl1 _).size
     clear hN5 zlb
     go_wp2_with fail
     refine hu.mono ?_
     rintro e w1 ⟨rfl,rfl⟩;clear hu
     go_wp2_with (at_builtin;refine zal rfl _ _ rfl w.heap.size _ ys rfl zi4 wr.heap.size x rfl n0 hzi hll hbs ?_)
     intro v' w9 hI9 hgrow
     have hB9:Below w.heap.size w w9:=(hbW.alloc hbW.size _).grown hgrow hbs (fun k hk=>hIo.lo hk)
     have zn7:=zn8.grown zi4 hgrow
     obtain⟨e0,e1⟩:=zn7.cells;rw[<-HSC.out]at hI9;clear hgrow zi4 zn8 n0 hbs hll hIo hbW hFB f0 f1;go_wp2
     go_roundw
     case rel=>exact⟨j+1,q+2,by omega,HQ2.out.symm,h5,by go_num,by go_num,hI9,zn7,hB9⟩
     case measure=>simp[intOf];omega
  . have hsb:(h:Int)-(m:Int)=128:=by omega
    rw[hk0]at HBD HST
    have hf:=zx5 wr
    have hht:h<192:=by omega
    clear hhk hk0
    by_cases h3:m+1<=N-zs.length
    rotate_left
    . have HNO:Hid (tt=none):=HBD.out (fun hx=>h3 hx.2.2.1)
      have g3:decide ((N:Int)-(zs.length:Int)<=(m:Int))=true:=decide_eq_true (by omega)
      clear HBD HST HHK h1 h3 hlt
      go_wp2_with fail
      refine hu.mono ?_
      rintro e w1 ⟨rfl,rfl⟩;clear hu
      go_wp2_with fail
      refine hf.mono ?_
      rintro e u1 ⟨rfl,hb1⟩
      replace hbW:=hbW.trans (hb1.mono hbW.size)
      clear hf hb1;go_wp2
      go_ret3
      exact⟨.inr ⟨HNO.out,rfl⟩,hbW.alloc hbW.size _⟩
    have g3:decide ((N:Int)-(zs.length:Int)<=(m:Int))=false:=decide_eq_false (by omega)
    go_wp2_with fail
    refine hu.mono ?_
    rintro e w1 ⟨rfl,rfl⟩;clear hu
    go_wp2_with fail
    refine hf.mono ?_
    rintro e u1 ⟨rfl,hb1⟩
    replace hbW:=hbW.trans (hb1.mono hbW.size)
    replace hIo:=hIo.below hb1
    have zn6:=hIo.below (bl1 (.cells #[.func (.func 282) #[] #[],.int .i64 0] 305))
    have zn5:=hbW.alloc hbW.size (.cells #[.func (.func 282) #[] #[],.int .i64 0] 305)
    have hFB:FB (u1.alloc (.cells #[.func (.func 282) #[] #[],.int .i64 0] 305)) u1.heap.size (.func (.func 282) #[] #[]) 0:=heap_alloc_new u1 _
    clear hf hb1 hIo hbW g3;go_wp2
    generalize u1.alloc (.cells #[.func (.func 282) #[] #[],.int .i64 0] 305)=u2 at *
    generalize u1.heap.size=c at *
    go_loopw [1,13,60] (fun pp v kk wr=>∃(j q:Nat),j<=m+1/\q=p+1+j*szC 2/\q<=b.length/\pp=.int .i64 (q:Int)/\kk=.int .i64 (j:Int)/\Io w.heap.size wr v (zs++runV RC b 2 (p+1) j)/\FB wr c (.func (.func 282) #[] #[]) 0/\Below w.heap.size w wr) (fun _ _ kk _=>m+1-(intOf kk).toNat)
    case atStart=>exact⟨0,p+1,Nat.zero_le _,by rw[Nat.zero_mul],h1,by go_num,rfl,by rw[show runV RC b 2 (p+1) 0=[]from rfl,List.append_nil];exact zn6,hFB,zn5⟩
    case round =>
     clear zn6 zn5 hFB;obtain⟨j,q,hj,hq,hql,rfl,rfl,hIo,hFB,hbW⟩:=hrel
     have HQ:Hid (q=p+1+j*szC 2):=hq
     clear hq;obtain⟨a4,c4,rfl,_⟩:=hIo.slice
     by_cases hjm:j<=m
     rotate_left
     . obtain rfl:j=m+1:=by omega
       have HS:Hid (_):=HST.out ⟨h1,hht,h3,by rw[<-HQ.out];exact hql⟩
       have hlen:(zs++runV RC b 2 (p+1) (m+1)).length=zs.length+(m+1):=by rw[List.length_append,zbf]
       have hpq:p<q:=by rw[HQ.out];omega
       have g4:¬(((m+1:Nat):Nat):Int)<(m:Int)+1:=by omega
       have HRL:Hid (tt=onto (zs++runV RC b 2 (p+1) (m+1)) (rdF RC b (N-(zs++runV RC b 2 (p+1) (m+1)).length) q (N-(zs++runV RC b 2 (p+1) (m+1)).length))):=by
        show _=_
        rw[HS.out,hlen,HQ.out,show N-(zs.length+(m+1))=N-zs.length-(m+1) by omega]
       go_wp2
       go_roundw
       case rel=>exact⟨q,_,by rw[hlen];omega,hql,rfl,HRL.out,hIo,hbW⟩
       case measure=>simp[intOf];omega
     have g4:(j:Int)<(m:Int)+1:=by omega
     have HSC:Hid (zs++runV RC b 2 (p+1) (j+1)=(zs++runV RC b 2 (p+1) j)++[0]):=by
      show _=_
      rw[zdb,<-List.append_assoc]
      rfl
     have HQ2:Hid (p+1+(j+1)*szC 2=q+0):=by show _=_;rw[HQ.out,Nat.add_mul,Nat.one_mul,show szC 2=0 from rfl];omega
     have zlb:Hid (b.length<q+0->tt=none):=fun hx=>HBD.out (fun hy=>by
      have h5:=hy.2.2.2
      have h6:(j+1)*szC 2<=(m+1)*szC 2:=Nat.mul_le_mul_right _ (by omega)
      have h7:=HQ2.out
      omega)
     have hll:(zs++runV RC b 2 (p+1) j).length+1<=1000000:=by rw[List.length_append,zbf];omega
     clear HBD HST
     obtain⟨ys,hys⟩:∃ys,zs++runV RC b 2 (p+1) j=ys:=⟨_,rfl⟩
     rw[hys]at HSC hIo hll ⊢;clear hys;obtain⟨f0,f1⟩:=hFB.cells
     have hu:=zmo (.slice a b.length cap) (q:Int) wr
     have hzi:I64 0:=⟨by decide,by decide⟩
     obtain⟨x,hx⟩:∃x:Int,x=0:=⟨_,rfl⟩
     rw[<-hx]at hzi HSC
     have h5:q+0<=b.length:=hql
     subst hx
     have zi4:=hIo.below (bl1 (.cells #[.int .i64 0] 3))
     have zn8:=hFB.below (bl1 (.cells #[.int .i64 0] 3))
     have hN5:=heap_alloc_new wr (.cells #[.int .i64 0] 3)
     have n0:=cell_of_row _ wr.heap.size 0 _ _ (0,0) hN5
     have hbs:w.heap.size<=(wr.alloc (.cells #[.int .i64 0] 3)).heap.size:=Nat.le_trans hbW.size (bl1 _).size
     clear hN5 zlb
     go_wp2_with fail
     refine hu.mono ?_
     rintro e w1 ⟨rfl,rfl⟩;clear hu
     go_wp2_with (at_builtin;refine zal rfl _ _ rfl w.heap.size _ ys rfl zi4 wr.heap.size 0 rfl n0 hzi hll hbs ?_)
     intro v' w9 hI9 hgrow
     have hB9:Below w.heap.size w w9:=(hbW.alloc hbW.size _).grown hgrow hbs (fun k hk=>hIo.lo hk)
     have zn7:=zn8.grown zi4 hgrow
     obtain⟨e0,e1⟩:=zn7.cells;rw[<-HSC.out]at hI9;clear hgrow zi4 zn8 n0 hbs hll hIo hbW hFB f0 f1;go_wp2
     go_roundw
     case rel=>exact⟨j+1,q+0,by omega,HQ2.out.symm,h5,by go_num,by go_num,hI9,zn7,hB9⟩
     case measure=>simp[intOf];omega
  . have hsb:(h:Int)-(m:Int)=192:=by omega
    have hf:=zx4 wr
    have HNO:Hid (tt=none):=HBD.out (fun hx=>by omega)
    clear HBD HST HHK h1 hlt hhk hk0
    go_wp2_with fail
    refine hu.mono ?_
    rintro e w1 ⟨rfl,rfl⟩;clear hu
    go_wp2_with fail
    refine hf.mono ?_
    rintro e u1 ⟨rfl,hb1⟩
    replace hbW:=hbW.trans (hb1.mono hbW.size)
    clear hf hb1;go_wp2
    go_ret3
    exact⟨.inr ⟨HNO.out,rfl⟩,hbW.alloc hbW.size _⟩
