import Derived.Test.YtkmcodofnckdmaaGreatZK16
set_option maxHeartbeats 16000000
set_option maxRecDepth 100000
set_option linter.unusedSimpArgs false
set_option linter.unusedVariables false
namespace Go.Proofs.YtkmcodofnckdmaaGreat
open Tryz Go.RowKit Go.Maps
theorem zyd(a:OA)(cap:Nat)(b:LN)(p0 N:Nat)(w:World)(h:Rb w a cap b)(hbl:b.length<=100000)(hp0:p0<=b.length)(hN:N<=40000) :
 Calls Tryz.prog 250 #[.slice a b.length cap,.int .i64 (p0:Int),.int .i64 (N:Int),.int .i64 128,.func (.func 251) #[] #[]] w fun e w'=>((∃l e1 v,rdF RPt b N p0 N=some (l,e1)/\e=.returned (.tuple #[v,.int .i64 ((e1:Nat):Int),.bool true])/\Io w.heap.size w' v l)\/(rdF RPt b N p0 N=none/\e=.returned (.tuple #[.slice none 0 0,.int .i64 0,.bool false])))/\Below w.heap.size w w':=by
 obtain⟨tt,htt⟩:∃t,rdF RPt b N p0 N=t:=⟨_,rfl⟩;rw[htt];have HTT:Hid (rdF RPt b N p0 N=tt):=htt;have HRB:Hid (Rb w a cap b):=h;clear h htt;go_enter func250,ntmps250;go_wp2
 go_loopw [1,13] (fun pp v wr=>∃(p:Nat) (zs:LI),zs.length<=N/\p<=b.length/\pp=.int .i64 (p:Int)/\tt=onto zs (rdF RPt b (N-zs.length) p (N-zs.length))/\Io w.heap.size wr v zs/\Below w.heap.size w wr) (fun pp _ _=>b.length-(intOf pp).toNat)
 case atStart=>exact⟨p0,[],qD _,hp0,rfl,by rw[zgm];exact HTT.out.symm,Io.nil _ _,Below.refl _ _⟩
 case round =>
  clear HTT hp0;obtain⟨p,zs,hz,hp,rfl,ho,hIo,hbW⟩:=hrel;have HOO:Hid (tt=onto zs (rdF RPt b (N-zs.length) p (N-zs.length))):=ho;clear ho;obtain⟨av,cv,rfl,hri⟩:=hIo.slice;by_cases hzn:zs.length<N;rotate_left
  . have HZ:Hid (tt=some (zs,p)):=by
      show _=_;rw[HOO.out,show N-zs.length=0 by omega,zbe];simp[onto]
    have g1:¬(zs.length:Int)<(N:Int):=(by omega);clear HOO hri;go_wp2
    go_ret3
    exact⟨.inl ⟨zs,p,HZ.out,_,rfl,hIo⟩,hbW⟩
  have hrb:=HRB.out.below hbW;have hu:=zg2 a cap b (p:Int) wr hrb ⟨by omega,by omega⟩;have hlt:=zam hrb.lim (p:Int) 1;rw[show inB b.length (p:Int) 1=decide (p+1<=b.length)from zay (n:=1)]at hu;have g1:(zs.length:Int)<(N:Int):=by omega
  clear hri hrb;by_cases h1:p+1<=b.length;rotate_left
  . have hv0:nmV b (p:Int) 1=0:=by unfold nmV;rw[show inB b.length (p:Int) ((1:Nat):Int)=false from(zay (n:=1)).trans (qB h1)];rfl
    have HNO:Hid (tt=none):=by
     show _=_;rw[HOO.out,zfg (by omega) (by rw[hdB];exact qB (fun hx=>h1 hx.1))];rfl
    obtain⟨z,hz0⟩:∃z:Int,((nmV b (p:Int) 1:Nat):Int)=z:=⟨_,rfl⟩;rw[qB h1,hz0]at hu;obtain rfl:z=0:=by omega
    have hf:=zoh wr;clear hv0 hz0 HOO hlt h1;go_wp2_with fail
    refine hu.mono ?_;rintro e w1 ⟨rfl,rfl⟩;clear hu;go_wp2_with fail
    refine hf.mono ?_;rintro e u1 ⟨rfl,hb1⟩;replace hbW:=hbW.trans (hb1.mono hbW.size);clear hf hb1;go_wp2
    go_ret3
    exact⟨.inr ⟨HNO.out,rfl⟩,hbW.alloc hbW.size _⟩
  obtain⟨h,hh⟩:∃h,nmV b (p:Int) 1=h:=⟨_,rfl⟩;have HH:Hid (nmV b (p:Int) 1=h):=hh;rw[hh,qC h1]at hu;rw[hh]at hlt;simp only[Nat.pow_one]at hlt;have HBD:Hid (¬(p+1<=b.length/\h<256/\h%128+1<=N-zs.length/\p+1+(h%128+1)*szP (h/128)<=b.length)->tt=none):=fun hx=>by
   rw[HOO.out,zfg (by omega) (by rw[hdB,HH.out];exact qB hx)];rfl
  have HST:Hid ((p+1<=b.length/\h<256/\h%128+1<=N-zs.length/\p+1+(h%128+1)*szP (h/128)<=b.length)->tt=onto (zs++runV RPt b (h/128) (p+1) (h%128+1)) (rdF RPt b (N-zs.length-(h%128+1)) (p+1+(h%128+1)*szP (h/128)) (N-zs.length-(h%128+1)))):=fun hx=>by
   rw[HOO.out,zgi (c:=h%128+1) (kd:=h/128) (by rw[hdB,HH.out];exact qC hx) (by rw[HH.out];rfl) (by rw[HH.out];rfl),ze1];rfl
  obtain⟨m,hm⟩:∃m,h%128=m:=⟨_,rfl⟩;have hmi:(h:Int)%128=(m:Int):=by omega
  have hmt:(h:Int).tmod 128=(m:Int):=(zeg (by omega)).trans hmi;rw[hm]at HBD HST;have hmM:m<128:=by omega
  obtain⟨kd,hkd⟩:∃k,h/128=k:=⟨_,rfl⟩;rw[hkd]at HBD HST;have hhk:h=128*kd+m:=by omega
  have HHK:Hid (h=128*kd+m):=hhk;clear hh HOO hm hkd HH;rcases (by omega:kd=0\/kd=1)with hk0|hk0
  . have hsb:(h:Int)-(m:Int)=0:=by omega
    rw[hk0]at HBD HST;have hf:=zoh wr;have hht:h<256:=(by omega);clear hhk hk0;by_cases h3:m+1<=N-zs.length;rotate_left
    . have HNO:Hid (tt=none):=HBD.out (fun hx=>h3 hx.2.2.1)
      have g3:decide ((N:Int)-(zs.length:Int)<=(m:Int))=true:=qC (by omega);clear HBD HST HHK h1 h3 hlt;go_wp2_with fail
      refine hu.mono ?_;rintro e w1 ⟨rfl,rfl⟩;clear hu;go_wp2_with fail
      refine hf.mono ?_;rintro e u1 ⟨rfl,hb1⟩;replace hbW:=hbW.trans (hb1.mono hbW.size);clear hf hb1;go_wp2
      go_ret3
      exact⟨.inr ⟨HNO.out,rfl⟩,hbW.alloc hbW.size _⟩
    have g3:decide ((N:Int)-(zs.length:Int)<=(m:Int))=false:=qB (by omega);go_wp2_with fail
    refine hu.mono ?_;rintro e w1 ⟨rfl,rfl⟩;clear hu;go_wp2_with fail
    refine hf.mono ?_;rintro e u1 ⟨rfl,hb1⟩;replace hbW:=hbW.trans (hb1.mono hbW.size);replace hIo:=hIo.below hb1;have zn2:=hIo.below (bl1 (.cells #[.func (.func 91) #[] #[],.int .i64 1] 305));have zn1:=hbW.alloc hbW.size (.cells #[.func (.func 91) #[] #[],.int .i64 1] 305);have hFB:FB (u1.alloc (.cells #[.func (.func 91) #[] #[],.int .i64 1] 305)) u1.heap.size (.func (.func 91) #[] #[]) 1:=heap_alloc_new u1 _;clear hf hb1 hIo hbW g3;go_wp2;generalize u1.alloc (.cells #[.func (.func 91) #[] #[],.int .i64 1] 305)=u2 at *;generalize u1.heap.size=c at *
    go_loopw [1,13,60] (fun pp v kk wr=>∃(j q:Nat),j<=m+1/\q=p+1+j*szP 0/\q<=b.length/\pp=.int .i64 (q:Int)/\kk=.int .i64 (j:Int)/\Io w.heap.size wr v (zs++runV RPt b 0 (p+1) j)/\FB wr c (.func (.func 91) #[] #[]) 1/\Below w.heap.size w wr) (fun _ _ kk _=>m+1-(intOf kk).toNat)
    case atStart=>exact⟨0,p+1,qD _,by rw[Nat.zero_mul],h1,by go_num,rfl,by rw[show runV RPt b 0 (p+1) 0=[]from rfl,List.append_nil];exact zn2,hFB,zn1⟩
    case round =>
     clear zn2 zn1 hFB;obtain⟨j,q,hj,hq,hql,rfl,rfl,hIo,hFB,hbW⟩:=hrel;have HQ:Hid (q=p+1+j*szP 0):=hq;clear hq;obtain⟨a4,c4,rfl,_⟩:=hIo.slice;by_cases hjm:j<=m;rotate_left
     . obtain rfl:j=m+1:=by omega
       have HS:Hid (_):=HST.out ⟨h1,hht,h3,by rw[<-HQ.out];exact hql⟩;have hlen:(zs++runV RPt b 0 (p+1) (m+1)).length=zs.length+(m+1):=(by rw[qA,zaw]);have hpq:p<q:=(by rw[HQ.out];omega);have g4:¬(((m+1:Nat):Nat):Int)<(m:Int)+1:=(by omega);have HRL:Hid (tt=onto (zs++runV RPt b 0 (p+1) (m+1)) (rdF RPt b (N-(zs++runV RPt b 0 (p+1) (m+1)).length) q (N-(zs++runV RPt b 0 (p+1) (m+1)).length))):=by
        show _=_;rw[HS.out,hlen,HQ.out,show N-(zs.length+(m+1))=N-zs.length-(m+1) by omega]
       go_wp2;go_roundw
       case rel=>exact⟨q,_,by rw[hlen];omega,hql,rfl,HRL.out,hIo,hbW⟩
       case measure=>simp[intOf];omega
     have g4:(j:Int)<(m:Int)+1:=(by omega);have HSC:Hid (zs++runV RPt b 0 (p+1) (j+1)=(zs++runV RPt b 0 (p+1) j)++[((nmV b (q:Int) 1:Nat):Int)]):=by
      show _=_;rw[zb9,<-qI,HQ.out];rfl
     have HQ2:Hid (p+1+(j+1)*szP 0=q+1):=(by show _=_;rw[HQ.out,Nat.add_mul,Nat.one_mul,show szP 0=1 from rfl];omega)
     have zeq:Hid (b.length<q+1->tt=none):=fun hx=>HBD.out (fun hy=>by
      have h5:=hy.2.2.2;have h6:(j+1)*szP 0<=(m+1)*szP 0:=Nat.mul_le_mul_right _ (by omega);have h7:=HQ2.out
      omega)
     have hll:(zs++runV RPt b 0 (p+1) j).length+1<=1000000:=(by rw[qA,zaw];omega);clear HBD HST;obtain⟨ys,hys⟩:∃ys,zs++runV RPt b 0 (p+1) j=ys:=⟨_,rfl⟩;rw[hys]at HSC hIo hll ⊢;clear hys;obtain⟨f0,f1⟩:=hFB.cells;have hrb:=HRB.out.below hbW;have hu:=zg2 a cap b (q:Int) wr hrb ⟨by omega,by omega⟩;have zde:=zam hrb.lim (q:Int) 1;have zde:nmV b (q:Int) 1<256:=(by simpa using zde);have hzi:I64 (((nmV b (q:Int) 1:Nat):Int)):=⟨by omega,by omega⟩;rw[show inB b.length (q:Int) 1=decide (q+1<=b.length)from zay (n:=1)]at hu;obtain⟨x,hx⟩:∃x,((nmV b (q:Int) 1:Nat):Int)=x:=⟨_,rfl⟩;rw[hx]at hu HSC hzi;clear hx zde hrb;by_cases h5:q+1<=b.length;rotate_left
     . have HNO:Hid (tt=none):=zeq.out (by omega)
       rw[qB h5]at hu;clear zeq HSC HQ2;go_wp2_with fail
       refine hu.mono ?_;rintro e w1 ⟨rfl,rfl⟩;clear hu;go_wp2
       go_ret3
       exact⟨.inr ⟨HNO.out,rfl⟩,hbW⟩
     rw[qC h5]at hu;have zbv:=hIo.below (bl1 (.cells #[.int .i64 x] 3));have zn4:=hFB.below (bl1 (.cells #[.int .i64 x] 3));have hN5:=heap_alloc_new wr (.cells #[.int .i64 x] 3);have n0:=cell_of_row _ wr.heap.size 0 _ _ (0,0) hN5;have hbs:w.heap.size<=(wr.alloc (.cells #[.int .i64 x] 3)).heap.size:=qF hbW.size (bl1 _).size;clear hN5 zeq;go_wp2_with fail
     refine hu.mono ?_;rintro e w1 ⟨rfl,rfl⟩;clear hu;go_wp2_with (at_builtin;refine zad rfl _ _ rfl w.heap.size _ ys rfl zbv wr.heap.size x rfl n0 hzi hll hbs ?_)
     intro v' w9 hI9 hgrow;have hB9:Below w.heap.size w w9:=(hbW.alloc hbW.size _).grown hgrow hbs (fun k hk=>hIo.lo hk);have zn3:=zn4.grown zbv hgrow;obtain⟨e0,e1⟩:=zn3.cells;rw[<-HSC.out]at hI9;clear hgrow zbv zn4 n0 hbs hll hIo hbW hFB f0 f1;go_wp2;go_roundw
     case rel=>exact⟨j+1,q+1,by omega,HQ2.out.symm,h5,by go_num,by go_num,hI9,zn3,hB9⟩
     case measure=>simp[intOf];omega
  . have hsb:(h:Int)-(m:Int)=128:=by omega
    rw[hk0]at HBD HST;have hf:=zv8 wr;have hht:h<256:=(by omega);clear hhk hk0;by_cases h3:m+1<=N-zs.length;rotate_left
    . have HNO:Hid (tt=none):=HBD.out (fun hx=>h3 hx.2.2.1)
      have g3:decide ((N:Int)-(zs.length:Int)<=(m:Int))=true:=qC (by omega);clear HBD HST HHK h1 h3 hlt;go_wp2_with fail
      refine hu.mono ?_;rintro e w1 ⟨rfl,rfl⟩;clear hu;go_wp2_with fail
      refine hf.mono ?_;rintro e u1 ⟨rfl,hb1⟩;replace hbW:=hbW.trans (hb1.mono hbW.size);clear hf hb1;go_wp2
      go_ret3
      exact⟨.inr ⟨HNO.out,rfl⟩,hbW.alloc hbW.size _⟩
    have g3:decide ((N:Int)-(zs.length:Int)<=(m:Int))=false:=qB (by omega);go_wp2_with fail
    refine hu.mono ?_;rintro e w1 ⟨rfl,rfl⟩;clear hu;go_wp2_with fail
    refine hf.mono ?_;rintro e u1 ⟨rfl,hb1⟩;replace hbW:=hbW.trans (hb1.mono hbW.size);replace hIo:=hIo.below hb1;have zn2:=hIo.below (bl1 (.cells #[.func (.func 47) #[] #[],.int .i64 2] 305));have zn1:=hbW.alloc hbW.size (.cells #[.func (.func 47) #[] #[],.int .i64 2] 305);have hFB:FB (u1.alloc (.cells #[.func (.func 47) #[] #[],.int .i64 2] 305)) u1.heap.size (.func (.func 47) #[] #[]) 2:=heap_alloc_new u1 _;clear hf hb1 hIo hbW g3;go_wp2;generalize u1.alloc (.cells #[.func (.func 47) #[] #[],.int .i64 2] 305)=u2 at *;generalize u1.heap.size=c at *
    go_loopw [1,13,60] (fun pp v kk wr=>∃(j q:Nat),j<=m+1/\q=p+1+j*szP 1/\q<=b.length/\pp=.int .i64 (q:Int)/\kk=.int .i64 (j:Int)/\Io w.heap.size wr v (zs++runV RPt b 1 (p+1) j)/\FB wr c (.func (.func 47) #[] #[]) 2/\Below w.heap.size w wr) (fun _ _ kk _=>m+1-(intOf kk).toNat)
    case atStart=>exact⟨0,p+1,qD _,by rw[Nat.zero_mul],h1,by go_num,rfl,by rw[show runV RPt b 1 (p+1) 0=[]from rfl,List.append_nil];exact zn2,hFB,zn1⟩
    case round =>
     clear zn2 zn1 hFB;obtain⟨j,q,hj,hq,hql,rfl,rfl,hIo,hFB,hbW⟩:=hrel;have HQ:Hid (q=p+1+j*szP 1):=hq;clear hq;obtain⟨a4,c4,rfl,_⟩:=hIo.slice;by_cases hjm:j<=m;rotate_left
     . obtain rfl:j=m+1:=by omega
       have HS:Hid (_):=HST.out ⟨h1,hht,h3,by rw[<-HQ.out];exact hql⟩;have hlen:(zs++runV RPt b 1 (p+1) (m+1)).length=zs.length+(m+1):=(by rw[qA,zaw]);have hpq:p<q:=(by rw[HQ.out];omega);have g4:¬(((m+1:Nat):Nat):Int)<(m:Int)+1:=(by omega);have HRL:Hid (tt=onto (zs++runV RPt b 1 (p+1) (m+1)) (rdF RPt b (N-(zs++runV RPt b 1 (p+1) (m+1)).length) q (N-(zs++runV RPt b 1 (p+1) (m+1)).length))):=by
        show _=_;rw[HS.out,hlen,HQ.out,show N-(zs.length+(m+1))=N-zs.length-(m+1) by omega]
       go_wp2;go_roundw
       case rel=>exact⟨q,_,by rw[hlen];omega,hql,rfl,HRL.out,hIo,hbW⟩
       case measure=>simp[intOf];omega
     have g4:(j:Int)<(m:Int)+1:=(by omega);have HSC:Hid (zs++runV RPt b 1 (p+1) (j+1)=(zs++runV RPt b 1 (p+1) j)++[((nmV b (q:Int) 2:Nat):Int)]):=by
      show _=_;rw[zb9,<-qI,HQ.out];rfl
     have HQ2:Hid (p+1+(j+1)*szP 1=q+2):=(by show _=_;rw[HQ.out,Nat.add_mul,Nat.one_mul,show szP 1=2 from rfl];omega)
     have zeq:Hid (b.length<q+2->tt=none):=fun hx=>HBD.out (fun hy=>by
      have h5:=hy.2.2.2;have h6:(j+1)*szP 1<=(m+1)*szP 1:=Nat.mul_le_mul_right _ (by omega);have h7:=HQ2.out
      omega)
     have hll:(zs++runV RPt b 1 (p+1) j).length+1<=1000000:=(by rw[qA,zaw];omega);clear HBD HST;obtain⟨ys,hys⟩:∃ys,zs++runV RPt b 1 (p+1) j=ys:=⟨_,rfl⟩;rw[hys]at HSC hIo hll ⊢;clear hys;obtain⟨f0,f1⟩:=hFB.cells;have hrb:=HRB.out.below hbW;have hu:=zg3 a cap b (q:Int) wr hrb ⟨by omega,by omega⟩;have zde:=zam hrb.lim (q:Int) 2;have zde:nmV b (q:Int) 2<65536:=(by simpa using zde);have hzi:I64 (((nmV b (q:Int) 2:Nat):Int)):=⟨by omega,by omega⟩;rw[show inB b.length (q:Int) 2=decide (q+2<=b.length)from zay (n:=2)]at hu;obtain⟨x,hx⟩:∃x,((nmV b (q:Int) 2:Nat):Int)=x:=⟨_,rfl⟩;rw[hx]at hu HSC hzi;clear hx zde hrb;by_cases h5:q+2<=b.length;rotate_left
     . have HNO:Hid (tt=none):=zeq.out (by omega)
       rw[qB h5]at hu;clear zeq HSC HQ2;go_wp2_with fail
       refine hu.mono ?_;rintro e w1 ⟨rfl,rfl⟩;clear hu;go_wp2
       go_ret3
       exact⟨.inr ⟨HNO.out,rfl⟩,hbW⟩
     rw[qC h5]at hu;have zbv:=hIo.below (bl1 (.cells #[.int .i64 x] 3));have zn4:=hFB.below (bl1 (.cells #[.int .i64 x] 3));have hN5:=heap_alloc_new wr (.cells #[.int .i64 x] 3);have n0:=cell_of_row _ wr.heap.size 0 _ _ (0,0) hN5;have hbs:w.heap.size<=(wr.alloc (.cells #[.int .i64 x] 3)).heap.size:=qF hbW.size (bl1 _).size;clear hN5 zeq;go_wp2_with fail
     refine hu.mono ?_;rintro e w1 ⟨rfl,rfl⟩;clear hu;go_wp2_with (at_builtin;refine zad rfl _ _ rfl w.heap.size _ ys rfl zbv wr.heap.size x rfl n0 hzi hll hbs ?_)
     intro v' w9 hI9 hgrow;have hB9:Below w.heap.size w w9:=(hbW.alloc hbW.size _).grown hgrow hbs (fun k hk=>hIo.lo hk);have zn3:=zn4.grown zbv hgrow;obtain⟨e0,e1⟩:=zn3.cells;rw[<-HSC.out]at hI9;clear hgrow zbv zn4 n0 hbs hll hIo hbW hFB f0 f1;go_wp2;go_roundw
     case rel=>exact⟨j+1,q+2,by omega,HQ2.out.symm,h5,by go_num,by go_num,hI9,zn3,hB9⟩
     case measure=>simp[intOf];omega
theorem zye(a:OA)(cap:Nat)(b:LN)(p0 N:Nat)(w:World)(h:Rb w a cap b)(hbl:b.length<=100000)(hp0:p0<=b.length)(hN:N<=40000) :
 Calls Tryz.prog 250 #[.slice a b.length cap,.int .i64 (p0:Int),.int .i64 (N:Int),.int .i64 64,.func (.func 271) #[] #[]] w fun e w'=>((∃l e1 v,rdF RC b N p0 N=some (l,e1)/\e=.returned (.tuple #[v,.int .i64 ((e1:Nat):Int),.bool true])/\Io w.heap.size w' v l)\/(rdF RC b N p0 N=none/\e=.returned (.tuple #[.slice none 0 0,.int .i64 0,.bool false])))/\Below w.heap.size w w':=by
 obtain⟨tt,htt⟩:∃t,rdF RC b N p0 N=t:=⟨_,rfl⟩;rw[htt];have HTT:Hid (rdF RC b N p0 N=tt):=htt;have HRB:Hid (Rb w a cap b):=h;clear h htt;go_enter func250,ntmps250;go_wp2
 go_loopw [1,13] (fun pp v wr=>∃(p:Nat) (zs:LI),zs.length<=N/\p<=b.length/\pp=.int .i64 (p:Int)/\tt=onto zs (rdF RC b (N-zs.length) p (N-zs.length))/\Io w.heap.size wr v zs/\Below w.heap.size w wr) (fun pp _ _=>b.length-(intOf pp).toNat)
 case atStart=>exact⟨p0,[],qD _,hp0,rfl,by rw[zgm];exact HTT.out.symm,Io.nil _ _,Below.refl _ _⟩
 case round =>
  clear HTT hp0;obtain⟨p,zs,hz,hp,rfl,ho,hIo,hbW⟩:=hrel;have HOO:Hid (tt=onto zs (rdF RC b (N-zs.length) p (N-zs.length))):=ho;clear ho;obtain⟨av,cv,rfl,hri⟩:=hIo.slice;by_cases hzn:zs.length<N;rotate_left
  . have HZ:Hid (tt=some (zs,p)):=by
      show _=_;rw[HOO.out,show N-zs.length=0 by omega,zbe];simp[onto]
    have g1:¬(zs.length:Int)<(N:Int):=(by omega);clear HOO hri;go_wp2
    go_ret3
    exact⟨.inl ⟨zs,p,HZ.out,_,rfl,hIo⟩,hbW⟩
  have hrb:=HRB.out.below hbW;have hu:=zg2 a cap b (p:Int) wr hrb ⟨by omega,by omega⟩;have hlt:=zam hrb.lim (p:Int) 1;rw[show inB b.length (p:Int) 1=decide (p+1<=b.length)from zay (n:=1)]at hu;have g1:(zs.length:Int)<(N:Int):=by omega
  clear hri hrb;by_cases h1:p+1<=b.length;rotate_left
  . have hv0:nmV b (p:Int) 1=0:=by unfold nmV;rw[show inB b.length (p:Int) ((1:Nat):Int)=false from(zay (n:=1)).trans (qB h1)];rfl
    have HNO:Hid (tt=none):=by
     show _=_;rw[HOO.out,zfg (by omega) (by rw[hdB];exact qB (fun hx=>h1 hx.1))];rfl
    obtain⟨z,hz0⟩:∃z:Int,((nmV b (p:Int) 1:Nat):Int)=z:=⟨_,rfl⟩;rw[qB h1,hz0]at hu;obtain rfl:z=0:=by omega
    have hf:=zoi wr;clear hv0 hz0 HOO hlt h1;go_wp2_with fail
    refine hu.mono ?_;rintro e w1 ⟨rfl,rfl⟩;clear hu;go_wp2_with fail
    refine hf.mono ?_;rintro e u1 ⟨rfl,hb1⟩;replace hbW:=hbW.trans (hb1.mono hbW.size);clear hf hb1;go_wp2
    go_ret3
    exact⟨.inr ⟨HNO.out,rfl⟩,hbW.alloc hbW.size _⟩
  obtain⟨h,hh⟩:∃h,nmV b (p:Int) 1=h:=⟨_,rfl⟩;have HH:Hid (nmV b (p:Int) 1=h):=hh;rw[hh,qC h1]at hu;rw[hh]at hlt;simp only[Nat.pow_one]at hlt;have HBD:Hid (¬(p+1<=b.length/\h<192/\h%64+1<=N-zs.length/\p+1+(h%64+1)*szC (h/64)<=b.length)->tt=none):=fun hx=>by
   rw[HOO.out,zfg (by omega) (by rw[hdB,HH.out];exact qB hx)];rfl
  have HST:Hid ((p+1<=b.length/\h<192/\h%64+1<=N-zs.length/\p+1+(h%64+1)*szC (h/64)<=b.length)->tt=onto (zs++runV RC b (h/64) (p+1) (h%64+1)) (rdF RC b (N-zs.length-(h%64+1)) (p+1+(h%64+1)*szC (h/64)) (N-zs.length-(h%64+1)))):=fun hx=>by
   rw[HOO.out,zgi (c:=h%64+1) (kd:=h/64) (by rw[hdB,HH.out];exact qC hx) (by rw[HH.out];rfl) (by rw[HH.out];rfl),ze1];rfl
  obtain⟨m,hm⟩:∃m,h%64=m:=⟨_,rfl⟩;have hmi:(h:Int)%64=(m:Int):=by omega
  have hmt:(h:Int).tmod 64=(m:Int):=(zeg (by omega)).trans hmi;rw[hm]at HBD HST;have hmM:m<64:=by omega
  obtain⟨kd,hkd⟩:∃k,h/64=k:=⟨_,rfl⟩;rw[hkd]at HBD HST;have hhk:h=64*kd+m:=by omega
  have HHK:Hid (h=64*kd+m):=hhk;clear hh HOO hm hkd HH;rcases (by omega:kd=0\/kd=1\/kd=2\/kd=3)with hk0|hk0|hk0|hk0
  . have hsb:(h:Int)-(m:Int)=0:=by omega
    rw[hk0]at HBD HST;have hf:=zoi wr;have hht:h<192:=(by omega);clear hhk hk0;by_cases h3:m+1<=N-zs.length;rotate_left
    . have HNO:Hid (tt=none):=HBD.out (fun hx=>h3 hx.2.2.1)
      have g3:decide ((N:Int)-(zs.length:Int)<=(m:Int))=true:=qC (by omega);clear HBD HST HHK h1 h3 hlt;go_wp2_with fail
      refine hu.mono ?_;rintro e w1 ⟨rfl,rfl⟩;clear hu;go_wp2_with fail
      refine hf.mono ?_;rintro e u1 ⟨rfl,hb1⟩;replace hbW:=hbW.trans (hb1.mono hbW.size);clear hf hb1;go_wp2
      go_ret3
      exact⟨.inr ⟨HNO.out,rfl⟩,hbW.alloc hbW.size _⟩
    have g3:decide ((N:Int)-(zs.length:Int)<=(m:Int))=false:=qB (by omega);go_wp2_with fail
    refine hu.mono ?_;rintro e w1 ⟨rfl,rfl⟩;clear hu;go_wp2_with fail
    refine hf.mono ?_;rintro e u1 ⟨rfl,hb1⟩;replace hbW:=hbW.trans (hb1.mono hbW.size);replace hIo:=hIo.below hb1;have zn2:=hIo.below (bl1 (.cells #[.func (.func 281) #[] #[],.int .i64 1] 305));have zn1:=hbW.alloc hbW.size (.cells #[.func (.func 281) #[] #[],.int .i64 1] 305);have hFB:FB (u1.alloc (.cells #[.func (.func 281) #[] #[],.int .i64 1] 305)) u1.heap.size (.func (.func 281) #[] #[]) 1:=heap_alloc_new u1 _;clear hf hb1 hIo hbW g3;go_wp2;generalize u1.alloc (.cells #[.func (.func 281) #[] #[],.int .i64 1] 305)=u2 at *;generalize u1.heap.size=c at *
    go_loopw [1,13,60] (fun pp v kk wr=>∃(j q:Nat),j<=m+1/\q=p+1+j*szC 0/\q<=b.length/\pp=.int .i64 (q:Int)/\kk=.int .i64 (j:Int)/\Io w.heap.size wr v (zs++runV RC b 0 (p+1) j)/\FB wr c (.func (.func 281) #[] #[]) 1/\Below w.heap.size w wr) (fun _ _ kk _=>m+1-(intOf kk).toNat)
    case atStart=>exact⟨0,p+1,qD _,by rw[Nat.zero_mul],h1,by go_num,rfl,by rw[show runV RC b 0 (p+1) 0=[]from rfl,List.append_nil];exact zn2,hFB,zn1⟩
    case round =>
     clear zn2 zn1 hFB;obtain⟨j,q,hj,hq,hql,rfl,rfl,hIo,hFB,hbW⟩:=hrel;have HQ:Hid (q=p+1+j*szC 0):=hq;clear hq;obtain⟨a4,c4,rfl,_⟩:=hIo.slice;by_cases hjm:j<=m;rotate_left
     . obtain rfl:j=m+1:=by omega
       have HS:Hid (_):=HST.out ⟨h1,hht,h3,by rw[<-HQ.out];exact hql⟩;have hlen:(zs++runV RC b 0 (p+1) (m+1)).length=zs.length+(m+1):=(by rw[qA,zaw]);have hpq:p<q:=(by rw[HQ.out];omega);have g4:¬(((m+1:Nat):Nat):Int)<(m:Int)+1:=(by omega);have HRL:Hid (tt=onto (zs++runV RC b 0 (p+1) (m+1)) (rdF RC b (N-(zs++runV RC b 0 (p+1) (m+1)).length) q (N-(zs++runV RC b 0 (p+1) (m+1)).length))):=by
        show _=_;rw[HS.out,hlen,HQ.out,show N-(zs.length+(m+1))=N-zs.length-(m+1) by omega]
       go_wp2;go_roundw
       case rel=>exact⟨q,_,by rw[hlen];omega,hql,rfl,HRL.out,hIo,hbW⟩
       case measure=>simp[intOf];omega
     have g4:(j:Int)<(m:Int)+1:=(by omega);have HSC:Hid (zs++runV RC b 0 (p+1) (j+1)=(zs++runV RC b 0 (p+1) j)++[sx8 (nmV b (q:Int) 1)]):=by
      show _=_;rw[zb9,<-qI,HQ.out];rfl
     have HQ2:Hid (p+1+(j+1)*szC 0=q+1):=(by show _=_;rw[HQ.out,Nat.add_mul,Nat.one_mul,show szC 0=1 from rfl];omega)
     have zeq:Hid (b.length<q+1->tt=none):=fun hx=>HBD.out (fun hy=>by
      have h5:=hy.2.2.2;have h6:(j+1)*szC 0<=(m+1)*szC 0:=Nat.mul_le_mul_right _ (by omega);have h7:=HQ2.out
      omega)
     have hll:(zs++runV RC b 0 (p+1) j).length+1<=1000000:=(by rw[qA,zaw];omega);clear HBD HST;obtain⟨ys,hys⟩:∃ys,zs++runV RC b 0 (p+1) j=ys:=⟨_,rfl⟩;rw[hys]at HSC hIo hll ⊢;clear hys;obtain⟨f0,f1⟩:=hFB.cells;have hrb:=HRB.out.below hbW;have hu:=zmi a cap b (q:Int) wr hrb ⟨by omega,by omega⟩;have zde:=zam hrb.lim (q:Int) 1;have zde:nmV b (q:Int) 1<256:=(by simpa using zde);have hzi:I64 (sx8 (nmV b (q:Int) 1)):=zx9 zde;rw[show inB b.length (q:Int) 1=decide (q+1<=b.length)from zay (n:=1)]at hu;obtain⟨x,hx⟩:∃x,sx8 (nmV b (q:Int) 1)=x:=⟨_,rfl⟩;rw[hx]at hu HSC hzi;clear hx zde hrb;by_cases h5:q+1<=b.length;rotate_left
     . have HNO:Hid (tt=none):=zeq.out (by omega)
       rw[qB h5]at hu;clear zeq HSC HQ2;go_wp2_with fail
       refine hu.mono ?_;rintro e w1 ⟨rfl,rfl⟩;clear hu;go_wp2
       go_ret3
       exact⟨.inr ⟨HNO.out,rfl⟩,hbW⟩
     rw[qC h5]at hu;have zbv:=hIo.below (bl1 (.cells #[.int .i64 x] 3));have zn4:=hFB.below (bl1 (.cells #[.int .i64 x] 3));have hN5:=heap_alloc_new wr (.cells #[.int .i64 x] 3);have n0:=cell_of_row _ wr.heap.size 0 _ _ (0,0) hN5;have hbs:w.heap.size<=(wr.alloc (.cells #[.int .i64 x] 3)).heap.size:=qF hbW.size (bl1 _).size;clear hN5 zeq;go_wp2_with fail
     refine hu.mono ?_;rintro e w1 ⟨rfl,rfl⟩;clear hu;go_wp2_with (at_builtin;refine zad rfl _ _ rfl w.heap.size _ ys rfl zbv wr.heap.size x rfl n0 hzi hll hbs ?_)
     intro v' w9 hI9 hgrow;have hB9:Below w.heap.size w w9:=(hbW.alloc hbW.size _).grown hgrow hbs (fun k hk=>hIo.lo hk);have zn3:=zn4.grown zbv hgrow;obtain⟨e0,e1⟩:=zn3.cells;rw[<-HSC.out]at hI9;clear hgrow zbv zn4 n0 hbs hll hIo hbW hFB f0 f1;go_wp2;go_roundw
     case rel=>exact⟨j+1,q+1,by omega,HQ2.out.symm,h5,by go_num,by go_num,hI9,zn3,hB9⟩
     case measure=>simp[intOf];omega
  . have hsb:(h:Int)-(m:Int)=64:=by omega
    rw[hk0]at HBD HST;have hf:=zwb wr;have hht:h<192:=(by omega);clear hhk hk0;by_cases h3:m+1<=N-zs.length;rotate_left
    . have HNO:Hid (tt=none):=HBD.out (fun hx=>h3 hx.2.2.1)
      have g3:decide ((N:Int)-(zs.length:Int)<=(m:Int))=true:=qC (by omega);clear HBD HST HHK h1 h3 hlt;go_wp2_with fail
      refine hu.mono ?_;rintro e w1 ⟨rfl,rfl⟩;clear hu;go_wp2_with fail
      refine hf.mono ?_;rintro e u1 ⟨rfl,hb1⟩;replace hbW:=hbW.trans (hb1.mono hbW.size);clear hf hb1;go_wp2
      go_ret3
      exact⟨.inr ⟨HNO.out,rfl⟩,hbW.alloc hbW.size _⟩
    have g3:decide ((N:Int)-(zs.length:Int)<=(m:Int))=false:=qB (by omega);go_wp2_with fail
    refine hu.mono ?_;rintro e w1 ⟨rfl,rfl⟩;clear hu;go_wp2_with fail
    refine hf.mono ?_;rintro e u1 ⟨rfl,hb1⟩;replace hbW:=hbW.trans (hb1.mono hbW.size);replace hIo:=hIo.below hb1;have zn2:=hIo.below (bl1 (.cells #[.func (.func 90) #[] #[],.int .i64 2] 305));have zn1:=hbW.alloc hbW.size (.cells #[.func (.func 90) #[] #[],.int .i64 2] 305);have hFB:FB (u1.alloc (.cells #[.func (.func 90) #[] #[],.int .i64 2] 305)) u1.heap.size (.func (.func 90) #[] #[]) 2:=heap_alloc_new u1 _;clear hf hb1 hIo hbW g3;go_wp2;generalize u1.alloc (.cells #[.func (.func 90) #[] #[],.int .i64 2] 305)=u2 at *;generalize u1.heap.size=c at *
    go_loopw [1,13,60] (fun pp v kk wr=>∃(j q:Nat),j<=m+1/\q=p+1+j*szC 1/\q<=b.length/\pp=.int .i64 (q:Int)/\kk=.int .i64 (j:Int)/\Io w.heap.size wr v (zs++runV RC b 1 (p+1) j)/\FB wr c (.func (.func 90) #[] #[]) 2/\Below w.heap.size w wr) (fun _ _ kk _=>m+1-(intOf kk).toNat)
    case atStart=>exact⟨0,p+1,qD _,by rw[Nat.zero_mul],h1,by go_num,rfl,by rw[show runV RC b 1 (p+1) 0=[]from rfl,List.append_nil];exact zn2,hFB,zn1⟩
    case round =>
     clear zn2 zn1 hFB;obtain⟨j,q,hj,hq,hql,rfl,rfl,hIo,hFB,hbW⟩:=hrel;have HQ:Hid (q=p+1+j*szC 1):=hq;clear hq;obtain⟨a4,c4,rfl,_⟩:=hIo.slice;by_cases hjm:j<=m;rotate_left
     . obtain rfl:j=m+1:=by omega
       have HS:Hid (_):=HST.out ⟨h1,hht,h3,by rw[<-HQ.out];exact hql⟩;have hlen:(zs++runV RC b 1 (p+1) (m+1)).length=zs.length+(m+1):=(by rw[qA,zaw]);have hpq:p<q:=(by rw[HQ.out];omega);have g4:¬(((m+1:Nat):Nat):Int)<(m:Int)+1:=(by omega);have HRL:Hid (tt=onto (zs++runV RC b 1 (p+1) (m+1)) (rdF RC b (N-(zs++runV RC b 1 (p+1) (m+1)).length) q (N-(zs++runV RC b 1 (p+1) (m+1)).length))):=by
        show _=_;rw[HS.out,hlen,HQ.out,show N-(zs.length+(m+1))=N-zs.length-(m+1) by omega]
       go_wp2;go_roundw
       case rel=>exact⟨q,_,by rw[hlen];omega,hql,rfl,HRL.out,hIo,hbW⟩
       case measure=>simp[intOf];omega
     have g4:(j:Int)<(m:Int)+1:=(by omega);have HSC:Hid (zs++runV RC b 1 (p+1) (j+1)=(zs++runV RC b 1 (p+1) j)++[sx16 (nmV b (q:Int) 2)]):=by
      show _=_;rw[zb9,<-qI,HQ.out];rfl
     have HQ2:Hid (p+1+(j+1)*szC 1=q+2):=(by show _=_;rw[HQ.out,Nat.add_mul,Nat.one_mul,show szC 1=2 from rfl];omega)
     have zeq:Hid (b.length<q+2->tt=none):=fun hx=>HBD.out (fun hy=>by
      have h5:=hy.2.2.2;have h6:(j+1)*szC 1<=(m+1)*szC 1:=Nat.mul_le_mul_right _ (by omega);have h7:=HQ2.out
      omega)
     have hll:(zs++runV RC b 1 (p+1) j).length+1<=1000000:=(by rw[qA,zaw];omega);clear HBD HST;obtain⟨ys,hys⟩:∃ys,zs++runV RC b 1 (p+1) j=ys:=⟨_,rfl⟩;rw[hys]at HSC hIo hll ⊢;clear hys;obtain⟨f0,f1⟩:=hFB.cells;have hrb:=HRB.out.below hbW;have hu:=zhw a cap b (q:Int) wr hrb ⟨by omega,by omega⟩;have zde:=zam hrb.lim (q:Int) 2;have zde:nmV b (q:Int) 2<65536:=(by simpa using zde);have hzi:I64 (sx16 (nmV b (q:Int) 2)):=zdy zde;rw[show inB b.length (q:Int) 2=decide (q+2<=b.length)from zay (n:=2)]at hu;obtain⟨x,hx⟩:∃x,sx16 (nmV b (q:Int) 2)=x:=⟨_,rfl⟩;rw[hx]at hu HSC hzi;clear hx zde hrb;by_cases h5:q+2<=b.length;rotate_left
     . have HNO:Hid (tt=none):=zeq.out (by omega)
       rw[qB h5]at hu;clear zeq HSC HQ2;go_wp2_with fail
       refine hu.mono ?_;rintro e w1 ⟨rfl,rfl⟩;clear hu;go_wp2
       go_ret3
       exact⟨.inr ⟨HNO.out,rfl⟩,hbW⟩
     rw[qC h5]at hu;have zbv:=hIo.below (bl1 (.cells #[.int .i64 x] 3));have zn4:=hFB.below (bl1 (.cells #[.int .i64 x] 3));have hN5:=heap_alloc_new wr (.cells #[.int .i64 x] 3);have n0:=cell_of_row _ wr.heap.size 0 _ _ (0,0) hN5;have hbs:w.heap.size<=(wr.alloc (.cells #[.int .i64 x] 3)).heap.size:=qF hbW.size (bl1 _).size;clear hN5 zeq;go_wp2_with fail
     refine hu.mono ?_;rintro e w1 ⟨rfl,rfl⟩;clear hu;go_wp2_with (at_builtin;refine zad rfl _ _ rfl w.heap.size _ ys rfl zbv wr.heap.size x rfl n0 hzi hll hbs ?_)
     intro v' w9 hI9 hgrow;have hB9:Below w.heap.size w w9:=(hbW.alloc hbW.size _).grown hgrow hbs (fun k hk=>hIo.lo hk);have zn3:=zn4.grown zbv hgrow;obtain⟨e0,e1⟩:=zn3.cells;rw[<-HSC.out]at hI9;clear hgrow zbv zn4 n0 hbs hll hIo hbW hFB f0 f1;go_wp2;go_roundw
     case rel=>exact⟨j+1,q+2,by omega,HQ2.out.symm,h5,by go_num,by go_num,hI9,zn3,hB9⟩
     case measure=>simp[intOf];omega
  . have hsb:(h:Int)-(m:Int)=128:=by omega
    rw[hk0]at HBD HST;have hf:=zwa wr;have hht:h<192:=(by omega);clear hhk hk0;by_cases h3:m+1<=N-zs.length;rotate_left
    . have HNO:Hid (tt=none):=HBD.out (fun hx=>h3 hx.2.2.1)
      have g3:decide ((N:Int)-(zs.length:Int)<=(m:Int))=true:=qC (by omega);clear HBD HST HHK h1 h3 hlt;go_wp2_with fail
      refine hu.mono ?_;rintro e w1 ⟨rfl,rfl⟩;clear hu;go_wp2_with fail
      refine hf.mono ?_;rintro e u1 ⟨rfl,hb1⟩;replace hbW:=hbW.trans (hb1.mono hbW.size);clear hf hb1;go_wp2
      go_ret3
      exact⟨.inr ⟨HNO.out,rfl⟩,hbW.alloc hbW.size _⟩
    have g3:decide ((N:Int)-(zs.length:Int)<=(m:Int))=false:=qB (by omega);go_wp2_with fail
    refine hu.mono ?_;rintro e w1 ⟨rfl,rfl⟩;clear hu;go_wp2_with fail
    refine hf.mono ?_;rintro e u1 ⟨rfl,hb1⟩;replace hbW:=hbW.trans (hb1.mono hbW.size);replace hIo:=hIo.below hb1;have zn2:=hIo.below (bl1 (.cells #[.func (.func 282) #[] #[],.int .i64 0] 305));have zn1:=hbW.alloc hbW.size (.cells #[.func (.func 282) #[] #[],.int .i64 0] 305);have hFB:FB (u1.alloc (.cells #[.func (.func 282) #[] #[],.int .i64 0] 305)) u1.heap.size (.func (.func 282) #[] #[]) 0:=heap_alloc_new u1 _;clear hf hb1 hIo hbW g3;go_wp2;generalize u1.alloc (.cells #[.func (.func 282) #[] #[],.int .i64 0] 305)=u2 at *;generalize u1.heap.size=c at *
    go_loopw [1,13,60] (fun pp v kk wr=>∃(j q:Nat),j<=m+1/\q=p+1+j*szC 2/\q<=b.length/\pp=.int .i64 (q:Int)/\kk=.int .i64 (j:Int)/\Io w.heap.size wr v (zs++runV RC b 2 (p+1) j)/\FB wr c (.func (.func 282) #[] #[]) 0/\Below w.heap.size w wr) (fun _ _ kk _=>m+1-(intOf kk).toNat)
    case atStart=>exact⟨0,p+1,qD _,by rw[Nat.zero_mul],h1,by go_num,rfl,by rw[show runV RC b 2 (p+1) 0=[]from rfl,List.append_nil];exact zn2,hFB,zn1⟩
    case round =>
     clear zn2 zn1 hFB;obtain⟨j,q,hj,hq,hql,rfl,rfl,hIo,hFB,hbW⟩:=hrel;have HQ:Hid (q=p+1+j*szC 2):=hq;clear hq;obtain⟨a4,c4,rfl,_⟩:=hIo.slice;by_cases hjm:j<=m;rotate_left
     . obtain rfl:j=m+1:=by omega
       have HS:Hid (_):=HST.out ⟨h1,hht,h3,by rw[<-HQ.out];exact hql⟩;have hlen:(zs++runV RC b 2 (p+1) (m+1)).length=zs.length+(m+1):=(by rw[qA,zaw]);have hpq:p<q:=(by rw[HQ.out];omega);have g4:¬(((m+1:Nat):Nat):Int)<(m:Int)+1:=(by omega);have HRL:Hid (tt=onto (zs++runV RC b 2 (p+1) (m+1)) (rdF RC b (N-(zs++runV RC b 2 (p+1) (m+1)).length) q (N-(zs++runV RC b 2 (p+1) (m+1)).length))):=by
        show _=_;rw[HS.out,hlen,HQ.out,show N-(zs.length+(m+1))=N-zs.length-(m+1) by omega]
       go_wp2;go_roundw
       case rel=>exact⟨q,_,by rw[hlen];omega,hql,rfl,HRL.out,hIo,hbW⟩
       case measure=>simp[intOf];omega
     have g4:(j:Int)<(m:Int)+1:=(by omega);have HSC:Hid (zs++runV RC b 2 (p+1) (j+1)=(zs++runV RC b 2 (p+1) j)++[0]):=by
      show _=_;rw[zb9,<-qI];rfl
     have HQ2:Hid (p+1+(j+1)*szC 2=q+0):=(by show _=_;rw[HQ.out,Nat.add_mul,Nat.one_mul,show szC 2=0 from rfl];omega)
     have zeq:Hid (b.length<q+0->tt=none):=fun hx=>HBD.out (fun hy=>by
      have h5:=hy.2.2.2;have h6:(j+1)*szC 2<=(m+1)*szC 2:=Nat.mul_le_mul_right _ (by omega);have h7:=HQ2.out
      omega)
     have hll:(zs++runV RC b 2 (p+1) j).length+1<=1000000:=(by rw[qA,zaw];omega);clear HBD HST;obtain⟨ys,hys⟩:∃ys,zs++runV RC b 2 (p+1) j=ys:=⟨_,rfl⟩;rw[hys]at HSC hIo hll ⊢;clear hys;obtain⟨f0,f1⟩:=hFB.cells;have hu:=zmn (.slice a b.length cap) (q:Int) wr;have hzi:I64 0:=⟨by decide,by decide⟩;obtain⟨x,hx⟩:∃x:Int,x=0:=⟨_,rfl⟩;rw[<-hx]at hzi HSC;have h5:q+0<=b.length:=hql;subst hx;have zbv:=hIo.below (bl1 (.cells #[.int .i64 0] 3));have zn4:=hFB.below (bl1 (.cells #[.int .i64 0] 3));have hN5:=heap_alloc_new wr (.cells #[.int .i64 0] 3);have n0:=cell_of_row _ wr.heap.size 0 _ _ (0,0) hN5;have hbs:w.heap.size<=(wr.alloc (.cells #[.int .i64 0] 3)).heap.size:=qF hbW.size (bl1 _).size;clear hN5 zeq;go_wp2_with fail
     refine hu.mono ?_;rintro e w1 ⟨rfl,rfl⟩;clear hu;go_wp2_with (at_builtin;refine zad rfl _ _ rfl w.heap.size _ ys rfl zbv wr.heap.size 0 rfl n0 hzi hll hbs ?_)
     intro v' w9 hI9 hgrow;have hB9:Below w.heap.size w w9:=(hbW.alloc hbW.size _).grown hgrow hbs (fun k hk=>hIo.lo hk);have zn3:=zn4.grown zbv hgrow;obtain⟨e0,e1⟩:=zn3.cells;rw[<-HSC.out]at hI9;clear hgrow zbv zn4 n0 hbs hll hIo hbW hFB f0 f1;go_wp2;go_roundw
     case rel=>exact⟨j+1,q+0,by omega,HQ2.out.symm,h5,by go_num,by go_num,hI9,zn3,hB9⟩
     case measure=>simp[intOf];omega
  . have hsb:(h:Int)-(m:Int)=192:=by omega
    have hf:=zv9 wr;have HNO:Hid (tt=none):=HBD.out (fun hx=>by omega);clear HBD HST HHK h1 hlt hhk hk0;go_wp2_with fail
    refine hu.mono ?_;rintro e w1 ⟨rfl,rfl⟩;clear hu;go_wp2_with fail
    refine hf.mono ?_;rintro e u1 ⟨rfl,hb1⟩;replace hbW:=hbW.trans (hb1.mono hbW.size);clear hf hb1;go_wp2
    go_ret3
    exact⟨.inr ⟨HNO.out,rfl⟩,hbW.alloc hbW.size _⟩
def mOk(v:Value)(k:Nat):Nat:=match v with | .bool true=>k+1 | _=>0
theorem zkl(ds:LI)(d:Int):sums 0 (ds++[d])=sums 0 ds++[lastS 0 ds+d]:=by rw[zg9];rfl
theorem ziw(ds:LI)(d:Int):lastS 0 (ds++[d])=lastS 0 ds+d:=by rw[zfx];rfl
theorem zi9{b:LN}(h:rpO b=none):rpL b=[]/\rpN b=0/\rpE b=2:=by unfold rpL rpN rpE;rw[h];exact⟨rfl,rfl,rfl⟩
theorem zyg{b:LN}(h:ptO b=false):rpO b=none:=by rw[rpO,h];rfl
theorem zyf{b:LN}(h:rdF RPt b (ptN b) (ptA b) (ptN b)=none):rpO b=none:=by rw[rpO,h];split <;> rfl
theorem z08{b:LN}{ds:LI}{p:Nat}(h0:ptO b=true)(h:rdF RPt b (ptN b) (ptA b) (ptN b)=some (ds,p)):rpO b=if ptB (sums 0 ds)then some (sums 0 ds,p)else none:=by rw[rpO,h0,h];rfl
theorem zrr{b:LN}(hb:Byt b):ptN b<=32767:=by
 have h0:=zam hb 0 1;have h1:=zam hb 1 1;unfold ptN;split <;> omega
theorem zf7(a:OA)(cap:Nat)(b:LN)(w:World)(h:Rb w a cap b)(hbl:b.length<=1000000000) :
 Calls Tryz.prog 152 #[.slice a b.length cap] w fun e w'=>∃a' c',e=.returned (.tuple #[.slice a' (rpL b).length c',.int .i64 (rpN b),.int .i64 (rpE b)])/\Ri w' a' c' (rpL b)/\(∀b o,a'=some ⟨b,o,none⟩->w.heap.size<=b)/\(a'=none->c'=0)/\Below w.heap.size w w':=by
 have HRB:Hid (Rb w a cap b):=h;have hu:=zc1 a cap b 0 w h ⟨by decide,by decide⟩;have hu1:=zc1 a cap b 1 w h ⟨by decide,by decide⟩;have zwy:=zam h.lim 0 1;have z0v:=zam h.lim 1 1;have hNN:=zrr h.lim;have i0:inB b.length 0 1=decide (1<=b.length):=zay (p:=0) (n:=1);have i1:inB b.length 1 1=decide (2<=b.length):=zay (p:=1) (n:=1);rw[i0]at hu;rw[i1]at hu1;obtain⟨x0,hx0⟩:∃x,nmV b 0 1=x:=⟨_,rfl⟩;obtain⟨x1,hx1⟩:∃x,nmV b 1 1=x:=⟨_,rfl⟩;have HX:Hid (nmV b 0 1=x0/\nmV b 1 1=x1):=⟨hx0,hx1⟩;rw[hx0]at hu zwy;rw[hx1]at hu1 z0v;clear h i0 i1 hx0 hx1;simp only[Nat.pow_one]at zwy z0v;go_enter func152,ntmps152;go_wp2_with fail
 refine hu.mono ?_;rintro e w1 ⟨rfl,rfl⟩;clear hu
 go_upto_if 25 with fail
 go_cut [5,6,7]from 19 to 36 (fun s5 s6 s7 wx=>s5=.int .i64 (ptN b:Int)/\s6=.bool (ptO b)/\s7=.int .i64 (ptA b:Int)/\w=wx)
 case first =>
  by_cases z0y:128<=x0
  . have HC:Hid (ptN b=(x0-128)*256+x1/\ptO b=decide (2<=b.length)/\ptA b=2):=by
      unfold ptO ptN ptA;rw[HX.out.1,HX.out.2,if_pos z0y,if_pos z0y];exact⟨rfl,rfl,rfl⟩
    have g1:(128:Int)<=(x0:Int):=(by omega);obtain⟨N,hN⟩:∃N:Nat,N=(x0-128)*256+x1:=⟨_,rfl⟩;have e1:((x0:Int)-128)*256+(x1:Int)=(N:Int):=(by omega);have HN:Hid (ptN b=N):=(by show _=_;rw[HC.out.1,hN]);generalize decide (2<=b.length)=ok at *;clear hN;go_wp2_with fail
    refine hu1.mono ?_;rintro e w1 ⟨rfl,rfl⟩;clear hu1;go_wp2;go_meet;exact⟨by rw[HN.out],by rw[HC.out.2.1],by rw[HC.out.2.2];rfl,rfl⟩
  . have HC:Hid (ptN b=x0/\ptO b=decide (1<=b.length)/\ptA b=1):=by
      unfold ptO ptN ptA;rw[HX.out.1,HX.out.2,if_neg z0y,if_neg z0y];exact⟨rfl,rfl,rfl⟩
    have g1:¬(128:Int)<=(x0:Int):=(by omega);generalize decide (1<=b.length)=ok at *;clear hu1;go_wp2;go_meet;exact⟨by rw[HC.out.1],by rw[HC.out.2.1],by rw[HC.out.2.2];rfl,rfl⟩
 case rest =>
 obtain⟨rfl,rfl,rfl,rfl⟩:=hcut;clear hu1 zwy z0v HX;have HPO:Hid (ptO b=false->rpO b=none):=zyg;have HPA:Hid (ptO b=true->ptA b<=b.length):=fun h=>of_decide_eq_true h;obtain⟨N,hN⟩:∃N,ptN b=N:=⟨_,rfl⟩;obtain⟨A,hA⟩:∃A,ptA b=A:=⟨_,rfl⟩;have HBZ:Hid (rdF RPt b N A N=none->rpO b=none):=fun h=>zyf (by rw[hN,hA];exact h);have HEN:Hid (∀ds p,ptO b=true->rdF RPt b N A N=some (ds,p)->rpO b=if ptB (sums 0 ds)then some (sums 0 ds,p)else none):=fun ds p h0 h=>z08 h0 (by rw[hN,hA];exact h);rw[hA]at HPA;rw[hN]at hNN;rw[hN,hA];clear hN hA;generalize hO:ptO b=O at *;go_wp2
 go_loopw [6,7,10,11] (fun okv pp v lv wr=>(∃(ds:LI) (p:Nat) (r:Int),O=true/\ds.length<=N/\p<=b.length/\okv=.bool true/\pp=.int .i64 (p:Int)/\lv=.int .i64 r/\r=lastS 0 ds/\0<=r/\r<=65535*(ds.length:Int)/\rdF RPt b N A N=onto ds (rdF RPt b (N-ds.length) p (N-ds.length))/\Io w.heap.size wr v (sums 0 ds)/\Below w.heap.size w wr)\/(∃(ys:LI) (p r:Int),okv=.bool false/\pp=.int .i64 p/\lv=.int .i64 r/\rpO b=none/\Io w.heap.size wr v ys/\Below w.heap.size w wr)) (fun okv pp _ _ _=>mOk okv (b.length-(intOf pp).toNat))
 case atStart =>
  cases O with
  | true=>exact .inl ⟨[],A,0,rfl,qD _,HPA.out rfl,rfl,rfl,rfl,rfl,Int.le_refl _,by simp,by rw[zgm];rfl,Io.nil _ _,Below.refl _ _⟩
  | false=>exact .inr ⟨[],_,_,rfl,rfl,rfl,HPO.out rfl,Io.nil _ _,Below.refl _ _⟩
 case round =>
  rcases hrel with ⟨ds,p,r,rfl,hz,hp,rfl,rfl,rfl,hr,hr0,hr1,ho,hIo,hbW⟩|⟨ys,p,r,rfl,rfl,rfl,hno,hIo,hbW⟩;rotate_left
  . have HNO:Hid (_):=zi9 hno
    obtain⟨av,cv,rfl,_⟩:=hIo.slice;clear hno;by_cases hyn:(ys.length:Int)<(N:Int)
    . go_wp2
      go_ret3
      exact⟨none,0,by rw[HNO.out.1,HNO.out.2.1,HNO.out.2.2];rfl,by rw[HNO.out.1];exact Ri.nil _ _ _ (qD _),(fun _ _ e=>by cases e),(fun _=>rfl),hbW⟩
    . go_wp2
      go_ret3
      exact⟨none,0,by rw[HNO.out.1,HNO.out.2.1,HNO.out.2.2];rfl,by rw[HNO.out.1];exact Ri.nil _ _ _ (qD _),(fun _ _ e=>by cases e),(fun _=>rfl),hbW⟩
  have HR:Hid (r=lastS 0 ds):=hr;have HOO:Hid (rdF RPt b N A N=onto ds (rdF RPt b (N-ds.length) p (N-ds.length))):=ho;clear ho hr;obtain⟨av,cv,rfl,hri,hlo⟩:=hIo.sliceL;have HLO:Hid (_):=hlo;clear hlo;have hsl:=zgb 0 ds;rw[hsl]at hIo ⊢;by_cases hzn:ds.length<N;rotate_left
  . have HZ:Hid (rdF RPt b N A N=some (ds,p)):=by
      show _=_;rw[HOO.out,show N-ds.length=0 by omega,zbe];simp[onto]
    have HE:Hid (_):=HEN.out ds p rfl HZ.out;have hpt:=zhg av cv (sums 0 ds) wr hri;rw[hsl]at hpt;have g1:¬(ds.length:Int)<(N:Int):=(by omega);clear HZ HOO;cases hB:ptB (sums 0 ds) with
    | false =>
     have HNO:Hid (_):=zi9 (HE.out.trans (by rw[hB];rfl));rw[hB]at hpt;clear hB;go_wp2_with fail
     refine hpt.mono ?_;rintro e u2 ⟨rfl,hb2⟩;replace hbW:=hbW.trans (hb2.mono hbW.size);clear hpt hb2;go_wp2
     go_ret3
     exact⟨none,0,by rw[HNO.out.1,HNO.out.2.1,HNO.out.2.2];rfl,by rw[HNO.out.1];exact Ri.nil _ _ _ (qD _),(fun _ _ e=>by cases e),(fun _=>rfl),hbW⟩
    | true =>
     have HY:Hid (rpL b=sums 0 ds/\rpN b=(p:Int)/\rpE b=0):=by
      have:=HE.out;rw[hB]at this;unfold rpL rpN rpE;rw[this];exact⟨rfl,rfl,rfl⟩
     have HSL:Hid ((sums 0 ds).length=ds.length):=hsl;rw[hB]at hpt;clear hB hsl;go_wp2_with fail
     refine hpt.mono ?_;rintro e u2 ⟨rfl,hb2⟩;replace hbW:=hbW.trans (hb2.mono hbW.size);replace hri:=hri.below hb2;clear hpt hb2;go_wp2
     go_ret3
     exact⟨av,cv,by rw[HY.out.1,HY.out.2.1,HY.out.2.2,HSL.out];rfl,by rw[HY.out.1];exact hri,HLO.out.1,HLO.out.2,hbW⟩
  have HSL:Hid ((sums 0 ds).length=ds.length):=hsl;clear hsl hri;have hrb:=HRB.out.below hbW;have hu:=zc1 a cap b (p:Int) wr hrb ⟨by omega,by omega⟩;have hlt:=zam hrb.lim (p:Int) 1;rw[show inB b.length (p:Int) 1=decide (p+1<=b.length)from zay (n:=1)]at hu;obtain⟨h,hh⟩:∃h,nmV b (p:Int) 1=h:=⟨_,rfl⟩;have HH:Hid (nmV b (p:Int) 1=h):=hh;rw[hh]at hu hlt;have hlt:h<256:=hlt
  have HBD:Hid (¬(p+1<=b.length/\h%128+1<=N-ds.length/\p+1+(h%128+1)*szP (h/128)<=b.length)->rpO b=none):=fun hx=>HBZ.out (by
   rw[HOO.out,zfg (by omega) (by rw[hdB,HH.out];exact qB (fun hy=>hx ⟨hy.1,hy.2.2⟩))]
   rfl)
  have HST:Hid ((p+1<=b.length/\h%128+1<=N-ds.length/\p+1+(h%128+1)*szP (h/128)<=b.length)->rdF RPt b N A N=onto (ds++runV RPt b (h/128) (p+1) (h%128+1)) (rdF RPt b (N-ds.length-(h%128+1)) (p+1+(h%128+1)*szP (h/128)) (N-ds.length-(h%128+1)))):=fun hx=>by
   rw[HOO.out,zgi (c:=h%128+1) (kd:=h/128) (by rw[hdB,HH.out];exact qC ⟨hx.1,hlt,hx.2⟩) (by rw[HH.out];rfl) (by rw[HH.out];rfl),ze1];rfl
  obtain⟨m,hm⟩:∃m,h%128=m:=⟨_,rfl⟩;have hmi:(h:Int)%128=(m:Int):=by omega
  rw[hm]at HBD HST;have hm128:m<128:=by omega
  have g1:(ds.length:Int)<(N:Int):=by omega
  clear hh HOO;obtain⟨fb,hfb⟩:∃fb,decide (p+1<=b.length)=fb:=⟨_,rfl⟩;rw[hfb]at hu;go_wp2_with fail
  refine hu.mono ?_;rintro e w1 ⟨rfl,rfl⟩;clear hu;go_upto_region 14 with fail
  go_cut [6]from 37 to 99 (fun s6 wx=>s6=.bool (decide (p+1<=b.length/\m+1<=N-ds.length))/\wr=wx)
  case first =>
   cases fb with
   | false =>
    have HF:Hid (decide (p+1<=b.length/\m+1<=N-ds.length)=false):=qB (fun hx=>(of_decide_eq_false hfb) hx.1);clear hfb;go_wp2;go_meet;exact⟨by rw[HF.out],rfl⟩
   | true =>
    by_cases h3:m+1<=N-ds.length
    . have HF:Hid (decide (p+1<=b.length/\m+1<=N-ds.length)=true):=qC ⟨of_decide_eq_true hfb,h3⟩
      have g3:(m:Int)+1<=(N:Int)-(ds.length:Int):=(by omega);clear hfb;go_wp2;go_meet;exact⟨by rw[HF.out],rfl⟩
    . have HF:Hid (decide (p+1<=b.length/\m+1<=N-ds.length)=false):=qB (fun hx=>h3 hx.2)
      have g3:¬(m:Int)+1<=(N:Int)-(ds.length:Int):=(by omega);clear hfb;go_wp2;go_meet;exact⟨by rw[HF.out],rfl⟩
  case rest =>
  obtain⟨rfl,rfl⟩:=hcut;clear hfb;generalize hcc:decide (p+1<=b.length/\m+1<=N-ds.length)=cc at *;have HCC:Hid (decide (p+1<=b.length/\m+1<=N-ds.length)=cc):=hcc;clear hcc;go_wp2
  go_loopw [6,7,10,11,15] (fun okv pp v lv kk wr=>(∃(j q:Nat) (r:Int),j<=m+1/\q=p+1+j*szP (h/128)/\q<=b.length/\m+1<=N-ds.length/\okv=.bool true/\pp=.int .i64 (q:Int)/\lv=.int .i64 r/\r=lastS 0 (ds++runV RPt b (h/128) (p+1) j)/\0<=r/\r<=65535*((ds.length:Int)+(j:Int))/\kk=.int .i64 (j:Int)/\Io w.heap.size wr v (sums 0 (ds++runV RPt b (h/128) (p+1) j))/\Below w.heap.size w wr)\/(∃(ys:LI) (p r:Int) (j:Nat),okv=.bool false/\pp=.int .i64 p/\lv=.int .i64 r/\kk=.int .i64 (j:Int)/\rpO b=none/\Io w.heap.size wr v ys/\Below w.heap.size w wr)) (fun okv _ _ _ kk _=>mOk okv (m+1-(intOf kk).toNat))
  case atStart =>
   cases cc with
   | true =>
    have hcc:=of_decide_eq_true HCC.out;exact .inl ⟨0,p+1,r,qD _,by rw[Nat.zero_mul],hcc.1,hcc.2,rfl,by go_num,rfl,by rw[show runV RPt b (h/128) (p+1) 0=[]from rfl,List.append_nil];exact HR.out,hr0,by rw[show((0:Nat):Int)=0 from rfl,Int.add_zero];exact hr1,rfl,by rw[show runV RPt b (h/128) (p+1) 0=[]from rfl,List.append_nil];exact hIo,hbW⟩
   | false =>
    have hcc:=of_decide_eq_false HCC.out;exact .inr ⟨_,_,_,0,rfl,rfl,rfl,rfl,HBD.out (fun hx=>hcc ⟨hx.1,hx.2.1⟩),hIo,hbW⟩
  case round =>
   clear hIo hbW hr0 hr1 HR HCC;rcases hrel with ⟨j,q,r,hj,hq,hql,h3,rfl,rfl,rfl,hr,hr0,hr1,rfl,hIo,hbW⟩|⟨ys,p1,r,j,rfl,rfl,rfl,rfl,hno,hIo,hbW⟩;rotate_left
   . have HNO:Hid (rpO b=none):=hno
     clear hno;by_cases hjm:(j:Int)<(m:Int)+1
     . go_wp2
       go_roundw
       case rel=>exact .inr ⟨_,_,_,rfl,rfl,rfl,HNO.out,hIo,hbW⟩
       case measure=>simp[intOf,mOk]
     . go_wp2
       go_roundw
       case rel=>exact .inr ⟨_,_,_,rfl,rfl,rfl,HNO.out,hIo,hbW⟩
       case measure=>simp[intOf,mOk]
   have HQ:Hid (q=p+1+j*szP (h/128)):=hq;have HR:Hid (r=lastS 0 (ds++runV RPt b (h/128) (p+1) j)):=hr;clear hq hr;obtain⟨a4,c4,rfl,_⟩:=hIo.slice;have hlen:(ds++runV RPt b (h/128) (p+1) j).length=ds.length+j:=(by rw[qA,zaw]);have h1:p+1<=b.length:=(by rw[HQ.out]at hql;omega);by_cases hjm:j<=m;rotate_left
   . obtain rfl:j=m+1:=by omega
     have HS:Hid (_):=HST.out ⟨h1,h3,by rw[<-HQ.out];exact hql⟩;have hpq:p<q:=(by rw[HQ.out];omega);have g4:¬(((m+1:Nat):Nat):Int)<(m:Int)+1:=(by omega);have HRL:Hid (rdF RPt b N A N=onto (ds++runV RPt b (h/128) (p+1) (m+1)) (rdF RPt b (N-(ds++runV RPt b (h/128) (p+1) (m+1)).length) q (N-(ds++runV RPt b (h/128) (p+1) (m+1)).length))):=by
      show _=_;rw[HS.out,hlen,HQ.out,show N-(ds.length+(m+1))=N-ds.length-(m+1) by omega]
     go_wp2;go_roundw
     case rel=>exact .inl ⟨_,q,r,by first | trivial | rfl,by rw[hlen];omega,hql,rfl,rfl,rfl,HR.out,hr0,by rw[hlen];omega,HRL.out,hIo,hbW⟩
     case measure=>simp[intOf,mOk];omega
   have g4:(j:Int)<(m:Int)+1:=(by omega);have hrb:=HRB.out.below hbW;have HSC:Hid (ds++runV RPt b (h/128) (p+1) (j+1)=(ds++runV RPt b (h/128) (p+1) j)++[vlP b (h/128) q]):=by
    show _=_;rw[zb9,<-qI,HQ.out];rfl
   have HQ2:Hid (p+1+(j+1)*szP (h/128)=q+szP (h/128)):=(by show _=_;rw[HQ.out,Nat.add_mul,Nat.one_mul];omega)
   have zeq:Hid (b.length<q+szP (h/128)->rpO b=none):=fun hx=>HBD.out (fun hy=>by
    have h5:=hy.2.2;have h6:(j+1)*szP (h/128)<=(m+1)*szP (h/128):=Nat.mul_le_mul_right _ (by omega);have h7:=HQ2.out
    omega)
   have hsl:(sums 0 (ds++runV RPt b (h/128) (p+1) j)).length=ds.length+j:=(by rw[zgb,hlen]);have hll:(sums 0 (ds++runV RPt b (h/128) (p+1) j)).length+1<=1000000:=(by rw[hsl];omega);clear HBD HST hlen hsl;obtain⟨es,hes⟩:∃es,ds++runV RPt b (h/128) (p+1) j=es:=⟨_,rfl⟩;obtain⟨ys,hys⟩:∃ys,sums 0 es=ys:=⟨_,rfl⟩;have HYS:Hid (sums 0 es=ys):=hys;rw[hes]at HSC HR hIo hll ⊢;rw[hys]at hIo hll ⊢;clear hys hes;obtain⟨kd,hkd⟩:∃k,h/128=k:=⟨_,rfl⟩;have HKD:Hid (h/128=kd):=hkd;rw[hkd]at HQ2 zeq;rw[show vlP b (h/128) q=vlP b kd q by rw[hkd]]at HSC;rcases (by omega:kd=0\/kd=1)with h0|h0
   . have gk:(h:Int)/128=0:=by omega
     rw[h0,show szP 0=1 from rfl]at HQ2 zeq;rw[h0]at HKD;rw[h0,show vlP b 0 q=((nmV b (q:Int) 1:Nat):Int)from rfl]at HSC;clear hkd h0;have hu:=zc1 a cap b (q:Int) wr hrb ⟨by omega,by omega⟩;have zde:=zam hrb.lim (q:Int) 1;rw[show inB b.length (q:Int) 1=decide (q+1<=b.length)from zay (n:=1)]at hu;obtain⟨v,hv⟩:∃v,nmV b (q:Int) 1=v:=⟨_,rfl⟩;rw[hv]at hu zde HSC;have hlt3:v<=65535:=(by have:v<256:=zde;omega);clear hv zde;have hzi:I64 (r+(v:Int)):=⟨by omega,by omega⟩;by_cases h5:q+1<=b.length
     . rw[qC h5]at hu
       have zbv:=hIo.below (bl1 (.cells #[.int .i64 (r+(v:Int))] 3));have hN:=heap_alloc_new wr (.cells #[.int .i64 (r+(v:Int))] 3);have n0:=cell_of_row _ wr.heap.size 0 _ _ (0,0) hN;have hbs:w.heap.size<=(wr.alloc (.cells #[.int .i64 (r+(v:Int))] 3)).heap.size:=qF hbW.size (bl1 _).size;clear hN;go_wp2_with fail
       refine hu.mono ?_;rintro e w1 ⟨rfl,rfl⟩;clear hu;go_wp2_with (at_builtin;refine zad rfl _ _ rfl w.heap.size _ ys rfl zbv wr.heap.size (r+(v:Int)) rfl n0 hzi hll hbs ?_)
       intro v' w9 hI9 hgrow;have hB9:Below w.heap.size w w9:=(hbW.alloc hbW.size _).grown hgrow hbs (fun k hk=>hIo.lo hk);clear hgrow zbv n0 hbs hll hIo hbW;have HY2:Hid (ys++[r+(v:Int)]=sums 0 (ds++runV RPt b (h/128) (p+1) (j+1))):=(by show _=_;rw[HSC.out,zkl,HYS.out,HR.out]);have HR2:Hid (r+(v:Int)=lastS 0 (ds++runV RPt b (h/128) (p+1) (j+1))):=(by show _=_;rw[HSC.out,ziw,HR.out]);rw[HY2.out]at hI9;go_wp2;go_roundw
       case rel=>exact .inl ⟨j+1,q+1,_,by omega,by rw[HKD.out];exact HQ2.out.symm,by omega,h3,rfl,by go_num,rfl,HR2.out,by omega,by omega,by go_num,hI9,hB9⟩
       case measure=>simp[intOf,mOk];omega
     . rw[qB h5]at hu
       have HNO:Hid (rpO b=none):=zeq.out (by omega);have zbv:=hIo.below (bl1 (.cells #[.int .i64 (r+(v:Int))] 3));have hN:=heap_alloc_new wr (.cells #[.int .i64 (r+(v:Int))] 3);have n0:=cell_of_row _ wr.heap.size 0 _ _ (0,0) hN;have hbs:w.heap.size<=(wr.alloc (.cells #[.int .i64 (r+(v:Int))] 3)).heap.size:=qF hbW.size (bl1 _).size;clear hN;go_wp2_with fail
       refine hu.mono ?_;rintro e w1 ⟨rfl,rfl⟩;clear hu;go_wp2_with (at_builtin;refine zad rfl _ _ rfl w.heap.size _ ys rfl zbv wr.heap.size (r+(v:Int)) rfl n0 hzi hll hbs ?_)
       intro v' w9 hI9 hgrow;have hB9:Below w.heap.size w w9:=(hbW.alloc hbW.size _).grown hgrow hbs (fun k hk=>hIo.lo hk);clear hgrow zbv n0 hbs hll hIo hbW;go_wp2;go_roundw
       case rel=>exact .inr ⟨_,_,_,j+1,rfl,rfl,rfl,by go_num,HNO.out,hI9,hB9⟩
       case measure=>simp[intOf,mOk]
   . have gk:(h:Int)/128=1:=by omega
     rw[h0,show szP 1=2 from rfl]at HQ2 zeq;rw[h0]at HKD;rw[h0,show vlP b 1 q=((nmV b (q:Int) 2:Nat):Int)from rfl]at HSC;clear hkd h0;have hu:=zc1 a cap b (q:Int) wr hrb ⟨by omega,by omega⟩;have hu2:=zgc a cap b (q:Int) wr hrb ⟨by omega,by omega⟩;generalize nmV b (q:Int) 1=v1 at hu;generalize inB b.length (q:Int) 1=o1 at hu;have zde:=zam hrb.lim (q:Int) 2;rw[show inB b.length (q:Int) 2=decide (q+2<=b.length)from zay (n:=2)]at hu2;obtain⟨v,hv⟩:∃v,nmV b (q:Int) 2=v:=⟨_,rfl⟩;rw[hv]at hu2 zde HSC;have hlt3:v<=65535:=(by have:v<65536:=zde;omega);clear hv zde;have hzi:I64 (r+(v:Int)):=⟨by omega,by omega⟩;by_cases h5:q+2<=b.length
     . rw[qC h5]at hu2
       have zbv:=hIo.below (bl1 (.cells #[.int .i64 (r+(v:Int))] 3));have hN:=heap_alloc_new wr (.cells #[.int .i64 (r+(v:Int))] 3);have n0:=cell_of_row _ wr.heap.size 0 _ _ (0,0) hN;have hbs:w.heap.size<=(wr.alloc (.cells #[.int .i64 (r+(v:Int))] 3)).heap.size:=qF hbW.size (bl1 _).size;clear hN;go_wp2_with fail
       refine hu.mono ?_;rintro e w1 ⟨rfl,rfl⟩;clear hu;go_wp2_with fail
       refine hu2.mono ?_;rintro e w1 ⟨rfl,rfl⟩;clear hu2;go_wp2_with (at_builtin;refine zad rfl _ _ rfl w.heap.size _ ys rfl zbv wr.heap.size (r+(v:Int)) rfl n0 hzi hll hbs ?_)
       intro v' w9 hI9 hgrow;have hB9:Below w.heap.size w w9:=(hbW.alloc hbW.size _).grown hgrow hbs (fun k hk=>hIo.lo hk);clear hgrow zbv n0 hbs hll hIo hbW;have HY2:Hid (ys++[r+(v:Int)]=sums 0 (ds++runV RPt b (h/128) (p+1) (j+1))):=(by show _=_;rw[HSC.out,zkl,HYS.out,HR.out]);have HR2:Hid (r+(v:Int)=lastS 0 (ds++runV RPt b (h/128) (p+1) (j+1))):=(by show _=_;rw[HSC.out,ziw,HR.out]);rw[HY2.out]at hI9;go_wp2;go_roundw
       case rel=>exact .inl ⟨j+1,q+2,_,by omega,by rw[HKD.out];exact HQ2.out.symm,by omega,h3,rfl,by go_num,rfl,HR2.out,by omega,by omega,by go_num,hI9,hB9⟩
       case measure=>simp[intOf,mOk];omega
     . rw[qB h5]at hu2
       have HNO:Hid (rpO b=none):=zeq.out (by omega);have zbv:=hIo.below (bl1 (.cells #[.int .i64 (r+(v:Int))] 3));have hN:=heap_alloc_new wr (.cells #[.int .i64 (r+(v:Int))] 3);have n0:=cell_of_row _ wr.heap.size 0 _ _ (0,0) hN;have hbs:w.heap.size<=(wr.alloc (.cells #[.int .i64 (r+(v:Int))] 3)).heap.size:=qF hbW.size (bl1 _).size;clear hN;go_wp2_with fail
       refine hu.mono ?_;rintro e w1 ⟨rfl,rfl⟩;clear hu;go_wp2_with fail
       refine hu2.mono ?_;rintro e w1 ⟨rfl,rfl⟩;clear hu2;go_wp2_with (at_builtin;refine zad rfl _ _ rfl w.heap.size _ ys rfl zbv wr.heap.size (r+(v:Int)) rfl n0 hzi hll hbs ?_)
       intro v' w9 hI9 hgrow;have hB9:Below w.heap.size w w9:=(hbW.alloc hbW.size _).grown hgrow hbs (fun k hk=>hIo.lo hk);clear hgrow zbv n0 hbs hll hIo hbW;go_wp2;go_roundw
       case rel=>exact .inr ⟨_,_,_,j+1,rfl,rfl,rfl,by go_num,HNO.out,hI9,hB9⟩
       case measure=>simp[intOf,mOk]
