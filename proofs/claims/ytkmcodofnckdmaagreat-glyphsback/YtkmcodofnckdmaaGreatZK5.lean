import Derived.Test.YtkmcodofnckdmaaGreatZK4
import Derived.Laws.MakeOwn
set_option maxHeartbeats 4000000
set_option maxRecDepth 100000
set_option linter.unusedSimpArgs false
set_option linter.unusedVariables false
namespace Go.Proofs.YtkmcodofnckdmaaGreat
open Go.RowKit Go.Maps
theorem zjz(z:Int):IntKind.i16.wrap z=if 32768<=z%65536 then z%65536-65536 else z%65536:=by
 simp[IntKind.wrap,IntKind.bits,IntKind.signed]
theorem zew(z:Int):(IntKind.i16.wrap z != z)=!fdB z:=by
 rw[zjz,fdB,Bool.eq_iff_iff,bne_iff_ne,Bool.not_eq_true',decide_eq_false_iff_not]
 split <;> omega
theorem zf8(z:Int):IntKind.i64.wrap (IntKind.i16.wrap z)=IntKind.i16.wrap z:=by
 rw[zjz]
 simp only[IntKind.wrap,IntKind.bits,IntKind.signed]
 split <;> (simp;omega)
theorem zhf{α:Type}{p:α->Bool}{r:List α}{d:α}{k:Nat}(hk:k<r.length)(h:p (r.getD k d)=false):r.all p=false:=by
 rw[Bool.eq_false_iff]
 intro e
 have:=List.all_eq_true.1 e (r.getD k d) (zdi hk)
 rw[h]at this
 cases this
theorem zet{α:Type}{p:α->Bool}{r:List α}{d:α}(h:∀j,j<r.length->p (r.getD j d)=true):r.all p=true:=by
 rw[List.all_eq_true]
 exact znx h
theorem za4{p:Nat->Prop}{k:Nat}(h:∀j,j<k->p j)(h1:p k):∀j,j<k+1->p j:=fun j hj=>by
 rcases Nat.lt_or_ge j k with h2|h2
 . exact h j h2
 . rw[show j=k by omega];exact h1
theorem zc1(a:OA)(cap:Nat)(r:List Int)(w:World)(h:Ri w a cap r) :
 Calls Tryz.prog 130 #[.slice a r.length cap] w fun e w'=>e=.returned (.bool (r.all fdB))/\w=w':=by
 have k2:=h.lenB
 have HH:Hid (Ri w a cap r):=h
 clear h
 go_enter Tryz.func130,Tryz.ntmps130
 go_wp2
 go_loopw [7] (fun i wr=>∃k:Nat,k<=r.length/\i=.int .i64 k/\(∀j,j<k->fdB (r.getD j 0)=true)/\w=wr) (fun i _=>r.length-(intOf i).toNat)
 case atStart=>exact⟨0,Nat.zero_le _,rfl,(fun j hj=>by omega),rfl⟩
 case round =>
  obtain⟨k,hk,rfl,hok,rfl⟩:=hrel
  have HOK:Hid (∀j,j<k->fdB (r.getD j 0)=true):=hok
  clear hok
  by_cases hkn:k<r.length
  . obtain⟨b,off,ea,hb,d0⟩:=HH.out.at (Below.refl _ _) k hkn
    subst ea
    obtain⟨z,hzz⟩:∃z,r.getD k 0=z:=⟨_,rfl⟩
    have HZ:Hid (r.getD k 0=z):=hzz
    rw[hzz]at d0
    have i1:(0:Int)<=(k:Int):=by omega
    have i2:(k:Int)<(r.length:Int):=by omega
    have hw1:=zf8 z
    have hw2:=zew z
    clear hzz
    cases hf:fdB z with
    | false =>
     have HF:Hid (r.all fdB=false):=zhf hkn (by rw[HZ.out];exact hf)
     rw[hf]at hw2;clear hf HZ HOK;go_wp2
     go_ret
     exact⟨zaa HF.out.symm,rfl⟩
    | true =>
     have zea:Hid (∀j,j<k+1->fdB (r.getD j 0)=true):=za4 HOK.out (by rw[HZ.out];exact hf)
     rw[hf]at hw2;clear hf HZ HOK;go_wp2
     go_roundw
     case rel=>exact⟨k+1,by omega,by go_num,zea.out,trivial⟩
     case measure=>simp[intOf];omega
  . obtain rfl:k=r.length:=by omega
    have HF:Hid (r.all fdB=true):=zet HOK.out
    have g1:¬(r.length:Int)<(r.length:Int):=by omega
    clear HOK;go_wp2
    go_ret
    exact⟨zaa HF.out.symm,rfl⟩
theorem zyx(w:World)(x y:Int)(hx:I64 x)(hy:I64 y):Ri (w.alloc (.cells #[.int .i64 x,.int .i64 y] 3)) (some ⟨w.heap.size,0,none⟩) 2 [x,y]:=by
 have hN:=heap_alloc_new w (.cells #[.int .i64 x,.int .i64 y] 3)
 refine⟨fun z hz=>?_,Nat.le_refl _,by unfold maxLen;omega,.inr ⟨w.heap.size,0,rfl,by simp,fun i hi=>?_⟩⟩
 . simp at hz
   rcases hz with rfl|rfl
   . exact hx
   . exact hy
 . match i,hi with
   | 0,_=>exact cell_of_row _ w.heap.size 0 _ _ (0,0) hN
   | 1,_=>exact cell_of_row _ w.heap.size 1 _ _ (0,0) hN
theorem zqy(x y:Int):[x,y].all fdB=(fdB x&&fdB y):=by simp
theorem zml(S:Nat->Prop)(a:OA)(cap:Nat)(l:List Pa)(w:World)(h:Gr PaE S w a cap l) :
 Calls Tryz.prog 156 #[.slice a l.length cap] w fun e w'=>e=.returned (.bool (decide (l.length<=6)&&l.all paF))/\Below w.heap.size w w':=by
 have k2:=h.lenB
 have HH:Hid (Gr PaE S w a cap l):=h
 clear h
 by_cases h6:6<l.length
 . have HF:Hid ((decide (l.length<=6)&&l.all paF)=false):=by show _=_;rw[decide_eq_false (by omega),Bool.false_and]
   have g1:(6:Int)<(l.length:Int):=by omega
   go_enter Tryz.func156,Tryz.ntmps156
   go_wp2
   go_ret
   exact⟨zaa HF.out.symm,Below.refl _ _⟩
 have HL:Hid ((decide (l.length<=6)&&l.all paF)=l.all paF):=by show _=_;rw[decide_eq_true (by omega),Bool.true_and]
 have g1:¬(6:Int)<(l.length:Int):=by omega
 go_enter Tryz.func156,Tryz.ntmps156
 go_wp2
 go_loopw [10] (fun i wr=>∃k:Nat,k<=l.length/\i=.int .i64 k/\(∀j,j<k->paF (l.getD j Pa.none)=true)/\Below w.heap.size w wr) (fun i _=>l.length-(intOf i).toNat)
 case atStart=>exact⟨0,Nat.zero_le _,rfl,(fun j hj=>by omega),Below.refl _ _⟩
 case round =>
  obtain⟨k,hk,rfl,hok,hB⟩:=hrel
  have HOK:Hid (∀j,j<k->paF (l.getD j Pa.none)=true):=hok
  clear hok
  by_cases hkn:k<l.length
  . obtain⟨b,off,ea,hb,⟨w0,w1,w2⟩,d0,d1,d2⟩:=HH.out.pa hB k hkn
    subst ea
    have HN:Hid (paF (l.getD k Pa.none)=false->(decide (l.length<=6)&&l.all paF)=false):=fun hf=>by rw[HL.out];exact zhf hkn hf
    have HY:Hid (paF (l.getD k Pa.none)=true->∀j,j<k+1->paF (l.getD j Pa.none)=true):=fun hf=>za4 HOK.out hf
    generalize l.getD k Pa.none=p at *
    obtain⟨g,x,y⟩:=p;dsimp only at w0 w1 w2 d0 d1 d2
    have i1:(0:Int)<=(k:Int):=by omega
    have i2:(k:Int)<(l.length:Int):=by omega
    clear HOK
    by_cases hg0:g<0
    . have HF:Hid ((decide (l.length<=6)&&l.all paF)=false):=HN.out (by unfold paF;rw[decide_eq_false (by show ¬(0<=g/\g<=65535);omega),Bool.false_and])
      have g2:decide (g<0)=true:=decide_eq_true hg0
      clear HN HY;go_wp2
      go_ret
      exact⟨zaa HF.out.symm,hB.alloc hB.size _⟩
    have g2:decide (g<0)=false:=decide_eq_false hg0
    by_cases hg1:65535<g
    . have HF:Hid ((decide (l.length<=6)&&l.all paF)=false):=HN.out (by unfold paF;rw[decide_eq_false (by show ¬(0<=g/\g<=65535);omega),Bool.false_and])
      have g3:decide (65535<g)=true:=decide_eq_true hg1
      clear HN HY;go_wp2
      go_ret
      exact⟨zaa HF.out.symm,hB.alloc hB.size _⟩
    have g3:decide (65535<g)=false:=decide_eq_false hg1
    have hpf:paF ⟨g,x,y⟩=(fdB x&&fdB y):=by unfold paF;rw[decide_eq_true (by show 0<=g/\g<=65535;omega),Bool.true_and]
    rw[hpf]at HN HY
    obtain⟨W,hW⟩:∃W,W=(wr.alloc (.cells #[.int .i64 g,.int .i64 x,.int .i64 y] 54)).alloc (.cells #[.int .i64 x,.int .i64 y] 3):=⟨_,rfl⟩
    have hri:=zyx (wr.alloc (.cells #[.int .i64 g,.int .i64 x,.int .i64 y] 54)) x y w1 w2
    have hsz:(wr.alloc (.cells #[.int .i64 g,.int .i64 x,.int .i64 y] 54)).heap.size=wr.heap.size+1:=by simp
    rw[<-hW,hsz]at hri
    have hbW:Below w.heap.size w W:=by rw[hW];exact(hB.alloc hB.size _).alloc (by simp;have:=hB.size;omega) _
    have hfo:=zc1 _ _ _ _ hri
    rw[zqy]at hfo
    simp only[List.length_cons,List.length_nil,Nat.zero_add]at hfo
    clear hpf hri hsz
    cases hf:(fdB x&&fdB y) with
    | false =>
     have HF:Hid ((decide (l.length<=6)&&l.all paF)=false):=HN.out hf
     rw[hf]at hfo;clear hf HN HY
     go_wp2_with fail
     rw[<-hW];clear hW
     refine hfo.mono ?_
     rintro e u1 ⟨rfl,rfl⟩;clear hfo;go_wp2
     go_ret
     exact⟨zaa HF.out.symm,hbW⟩
    | true =>
     have zea:Hid (∀j,j<k+1->paF (l.getD j Pa.none)=true):=HY.out hf
     rw[hf]at hfo;clear hf HN HY
     go_wp2_with fail
     rw[<-hW];clear hW
     refine hfo.mono ?_
     rintro e u1 ⟨rfl,rfl⟩;clear hfo;go_wp2
     go_roundw
     case rel=>exact⟨k+1,by omega,by go_num,zea.out,hbW⟩
     case measure=>simp[intOf];omega
  . obtain rfl:k=l.length:=by omega
    have HF:Hid ((decide (l.length<=6)&&l.all paF)=true):=by show _=_;rw[HL.out];exact zet HOK.out
    have g1:¬(l.length:Int)<(l.length:Int):=by omega
    clear HOK;go_wp2
    go_ret
    exact⟨zaa HF.out.symm,hB⟩
theorem zan{cs:List (List Pn)}{k:Nat}(hk:k<cs.length):((cs.take (k+1)).flatten).length=((cs.take k).flatten).length+(cs.getD k []).length:=by
 rw[zaj (d:=[]) hk,List.flatten_append,List.length_append,List.flatten_singleton]
theorem zay(cs:List (List Pn))(k:Nat):((cs.take k).flatten).length<=cs.flatten.length:=by
 conv=>rhs;rw[<-List.take_append_drop k cs,List.flatten_append,List.length_append]
 omega
def coF(cs:List (List Pn)):Bool:=decide (cs.length<=10)&&(cs.all (fun c=>decide (0<c.length))&&(decide (cs.flatten.length<=80)&&cs.flatten.all pnF))
theorem z5n{cs:List (List Pn)}(h:¬(cs.length<=10/\(∀c∈cs,0<c.length)/\cs.flatten.length<=80/\∀c∈cs,c.all pnF=true)):coF cs=false:=by
 rw[Bool.eq_false_iff]
 intro e
 unfold coF at e
 simp only[Bool.and_eq_true,decide_eq_true_iff,List.all_eq_true]at e
 refine h ⟨e.1,e.2.1,e.2.2.1,fun c hc=>List.all_eq_true.2 fun p hp=>e.2.2.2 p (List.mem_flatten.2 ⟨c,hc,hp⟩)⟩
theorem z3c{cs:List (List Pn)}(h1:cs.length<=10)(h2:∀j,j<cs.length->0<(cs.getD j []).length/\(cs.getD j []).all pnF=true)(h3:cs.flatten.length<=80):coF cs=true:=by
 unfold coF
 simp only[Bool.and_eq_true,decide_eq_true_iff,List.all_eq_true]
 refine⟨h1,fun c hc=>(znx (p:=fun c=>0<c.length/\c.all pnF=true) h2 c hc).1,h3,fun p hp=>?_⟩
 obtain⟨c,hc,hpc⟩:=List.mem_flatten.1 hp
 exact List.all_eq_true.1 (znx (p:=fun c=>0<c.length/\c.all pnF=true) h2 c hc).2 p hpc
theorem zqe(S:Nat->Prop)(a:OA)(cap:Nat)(cs:List (List Pn))(w:World)(h:Gr PnE.row S w a cap cs) :
 Calls Tryz.prog 155 #[.slice a cs.length cap] w fun e w'=>e=.returned (.bool (coF cs))/\Below w.heap.size w w':=by
 have k2:=h.lenB
 have HH:Hid (Gr PnE.row S w a cap cs):=h
 have HNO:Hid (¬(cs.length<=10/\(∀c∈cs,0<c.length)/\cs.flatten.length<=80/\∀c∈cs,c.all pnF=true)->coF cs=false):=z5n
 clear h
 by_cases h10:10<cs.length
 . have HF:Hid (coF cs=false):=HNO.out (fun h=>by omega)
   have g1:(10:Int)<(cs.length:Int):=by omega
   go_enter Tryz.func155,Tryz.ntmps155
   go_wp2
   go_ret
   exact⟨zaa HF.out.symm,Below.refl _ _⟩
 have g1:¬(10:Int)<(cs.length:Int):=by omega
 go_enter Tryz.func155,Tryz.ntmps155
 go_wp2
 go_loopw [3,13] (fun n i wr=>∃k m:Nat,k<=cs.length/\i=.int .i64 k/\n=.int .i64 (m:Int)/\m=((cs.take k).flatten).length/\m<=80/\(∀j,j<k->0<(cs.getD j []).length/\(cs.getD j []).all pnF=true)/\Below w.heap.size w wr) (fun _ i _=>cs.length-(intOf i).toNat)
 case atStart=>exact⟨0,0,Nat.zero_le _,rfl,rfl,rfl,by omega,(fun j hj=>by omega),Below.refl _ _⟩
 case round =>
  obtain⟨k,m,hk,rfl,rfl,hm,hm80,hok,hB⟩:=hrel
  have HOK:Hid (∀j,j<k->0<(cs.getD j []).length/\(cs.getD j []).all pnF=true):=hok
  have HM:Hid (m=((cs.take k).flatten).length):=hm
  clear hok hm
  by_cases hkn:k<cs.length
  . obtain⟨b,off,a1,c1,ea,hb,d0,hrow,hlb,_⟩:=HH.out.rw hB k hkn
    subst ea
    have zi4:=zkz hkn
    have hst:=zan hkn
    have hle:=zay cs (k+1)
    rw[<-HM.out]at hst
    have HX:Hid (∀c,cs.getD k []=c->0<c.length->c.all pnF=true->∀j,j<k+1->0<(cs.getD j []).length/\(cs.getD j []).all pnF=true):=fun c hc h1 h2=>za4 HOK.out (by rw[hc];exact⟨h1,h2⟩)
    obtain⟨c,hc⟩:∃c,cs.getD k []=c:=⟨_,rfl⟩
    replace HX:=HX.out c hc
    rw[hc]at d0 hrow hlb zi4 hst
    have HM2:Hid (m+c.length=((cs.take (k+1)).flatten).length):=hst.symm
    have HLE:Hid (m+c.length<=cs.flatten.length):=by show _<=_;omega
    have HN:Hid (¬(0<c.length/\m+c.length<=80/\c.all pnF=true)->coF cs=false):=fun hn=>HNO.out (fun hy=>hn ⟨hy.2.1 c zi4,by have:=HLE.out;omega,hy.2.2.2 c zi4⟩)
    have HX:Hid (0<c.length->c.all pnF=true->∀j,j<k+1->0<(cs.getD j []).length/\(cs.getD j []).all pnF=true):=HX
    have i1:(0:Int)<=(k:Int):=by omega
    have i2:(k:Int)<(cs.length:Int):=by omega
    clear hc zi4 hst hle HOK HM HLE
    by_cases h0:c.length=0
    . have HF:Hid (coF cs=false):=HN.out (fun h=>by omega)
      have g2:((c.length:Int)==0)=true:=by simp[h0]
      clear HN HX HM2 hrow h0;go_wp2
      go_ret
      exact⟨zaa HF.out.symm,hB⟩
    have g2:((c.length:Int)==0)=false:=by simp;intro e;rw[e]at h0;exact h0 rfl
    by_cases h80:80<m+c.length
    . have HF:Hid (coF cs=false):=HN.out (fun h=>by omega)
      have g3:decide ((80:Int)<(m:Int)+(c.length:Int))=true:=decide_eq_true (by omega)
      clear HN HX HM2 hrow h0;go_wp2
      go_ret
      exact⟨zaa HF.out.symm,hB⟩
    have g3:decide ((80:Int)<(m:Int)+(c.length:Int))=false:=decide_eq_false (by omega)
    have HP:Hid (0<c.length):=by show _<_;omega
    have hcl:c.length<=80:=by omega
    have HRW:Hid (Gr PnE S wr a1 c1 c):=hrow
    have HBW:Hid (Below w.heap.size w wr):=hB
    clear hrow h0;go_wp2
    obtain⟨wo,rfl⟩:∃wo,wo=wr:=⟨_,rfl⟩
    clear d0 hB
    go_loopw [30] (fun i wr=>∃t:Nat,t<=c.length/\i=.int .i64 t/\(∀j,j<t->pnF (c.getD j Pn.none)=true)/\Below wo.heap.size wo wr) (fun i _=>c.length-(intOf i).toNat)
    case atStart=>exact⟨0,Nat.zero_le _,rfl,(fun j hj=>by omega),Below.refl _ _⟩
    case round =>
     obtain⟨t,ht,rfl,hok,hB⟩:=hrel
     have HOK:Hid (∀j,j<t->pnF (c.getD j Pn.none)=true):=hok
     have hBW:=HBW.out.trans (hB.mono HBW.out.size)
     clear hok
     by_cases htn:t<c.length
     . obtain⟨b2,o2,eb,hb2,⟨w0,w1⟩,q0,q1,q2⟩:=HRW.out.pn hB t htn
       subst eb
       have HN2:Hid (pnF (c.getD t Pn.none)=false->coF cs=false):=fun hf=>HN.out (fun h=>by have:=zhf htn hf;rw[h.2.2]at this;cases this)
       have HY2:Hid (pnF (c.getD t Pn.none)=true->∀j,j<t+1->pnF (c.getD j Pn.none)=true):=fun hf=>za4 HOK.out hf
       generalize c.getD t Pn.none=p at *
       obtain⟨x,y,on⟩:=p;dsimp only at w0 w1 q0 q1 q2
       have hpf:pnF ⟨x,y,on⟩=(fdB x&&fdB y):=rfl
       rw[hpf]at HN2 HY2
       have j1:(0:Int)<=(t:Int):=by omega
       have j2:(t:Int)<(c.length:Int):=by omega
       obtain⟨W,hW⟩:∃W,W=(wr.alloc (.cells #[.int .i64 x,.int .i64 y,.bool on] 65)).alloc (.cells #[.int .i64 x,.int .i64 y] 3):=⟨_,rfl⟩
       have hri:=zyx (wr.alloc (.cells #[.int .i64 x,.int .i64 y,.bool on] 65)) x y w0 w1
       have hsz:(wr.alloc (.cells #[.int .i64 x,.int .i64 y,.bool on] 65)).heap.size=wr.heap.size+1:=by simp
       rw[<-hW,hsz]at hri
       have hbX:Below w.heap.size w W:=by rw[hW];exact(hBW.alloc hBW.size _).alloc (by simp;have:=hBW.size;omega) _
       have hbY:Below wo.heap.size wo W:=by rw[hW];exact(hB.alloc hB.size _).alloc (by simp;have:=hB.size;omega) _
       have hfo:=zc1 _ _ _ _ hri
       rw[zqy]at hfo
       simp only[List.length_cons,List.length_nil,Nat.zero_add]at hfo
       clear hpf hri hsz HOK
       cases hf:(fdB x&&fdB y) with
       | false =>
        have HF:Hid (coF cs=false):=HN2.out hf
        rw[hf]at hfo;clear hf HN2 HY2
        go_wp2_with fail
        rw[<-hW];clear hW
        refine hfo.mono ?_
        rintro e u1 ⟨rfl,rfl⟩;clear hfo;go_wp2
        go_ret
        exact⟨zaa HF.out.symm,hbX⟩
       | true =>
        have zea:Hid (∀j,j<t+1->pnF (c.getD j Pn.none)=true):=HY2.out hf
        rw[hf]at hfo;clear hf HN2 HY2
        go_wp2_with fail
        rw[<-hW];clear hW
        refine hfo.mono ?_
        rintro e u1 ⟨rfl,rfl⟩;clear hfo;go_wp2
        go_roundw
        case rel=>exact⟨t+1,by omega,by go_num,zea.out,hbY⟩
        case measure=>simp[intOf];omega
     . obtain rfl:t=c.length:=by omega
       have zzx:Hid (∀j,j<k+1->0<(cs.getD j []).length/\(cs.getD j []).all pnF=true):=HX.out HP.out (zet HOK.out)
       have j2:¬(c.length:Int)<(c.length:Int):=by omega
       clear HOK HX;go_wp2
       go_roundw
       case rel=>exact⟨k+1,m+c.length,by omega,by go_num,by go_num,HM2.out,by omega,zzx.out,hBW⟩
       case measure=>simp[intOf];omega
  . obtain rfl:k=cs.length:=by omega
    have HF:Hid (coF cs=true):=z3c (by omega) HOK.out (by have:=HM.out;rw[List.take_length]at this;omega)
    have g4:¬(cs.length:Int)<(cs.length:Int):=by omega
    clear HOK HM;go_wp2
    go_ret
    exact⟨zaa HF.out.symm,hB⟩
def cntO(o:Ol):Nat:=o.ps.length+o.cs.flatten.length
def lastI(pts:List Int)(k:Nat):Int:=if k=0 then -1 else pts.getD (k-1) 0
def risP(pts:List Int)(n k:Nat):Prop:=lastI pts k<pts.getD k 0/\pts.getD k 0<(n:Int)
def risB(pts:List Int)(n:Nat):Bool:=(List.range pts.length).all (fun k=>decide (lastI pts k<pts.getD k 0/\pts.getD k 0<(n:Int)))
theorem zii{pts:List Int}{n k:Nat}(hk:k<pts.length)(h:¬risP pts n k):risB pts n=false:=by
 unfold risB
 exact List.all_eq_false.2 ⟨k,List.mem_range.2 hk,by rw[decide_eq_true_iff];exact h⟩
theorem zih{pts:List Int}{n:Nat}(h:∀k,k<pts.length->risP pts n k):risB pts n=true:=by
 unfold risB
 exact List.all_eq_true.2 (fun k hk=>by rw[decide_eq_true_iff];exact h k (List.mem_range.1 hk))
theorem zcu{pts:List Int}{n:Nat}:risB pts n=true ↔ ∀k,k<pts.length->risP pts n k:=by
 unfold risB
 rw[List.all_eq_true]
 exact⟨fun h k hk=>by have:=h k (List.mem_range.2 hk);rw[decide_eq_true_iff]at this;exact this,fun h k hk=>by rw[decide_eq_true_iff];exact h k (List.mem_range.1 hk)⟩
theorem zct{pts:List Int}{n:Nat}:∀k,(∀j,j<k+1->risP pts n j)->0<=pts.getD k 0/\pts.getD k 0<(n:Int):=by
 intro k
 induction k with
 | zero=>intro h;have:=h 0 (by omega);unfold risP lastI at this;rw[if_pos rfl]at this;omega
 | succ k ih =>
  intro h
  have h1:=ih (fun j hj=>h j (by omega))
  have h2:=h (k+1) (by omega)
  unfold risP lastI at h2
  rw[if_neg (by omega),Nat.add_sub_cancel]at h2
  omega
def layI(pts told:List Int)(n:Nat):Nat->List Int
 | 0=>List.replicate n 0
 | k+1=>(layI pts told n k).set (pts.getD k 0).toNat (told.getD k 0)
def tchI(pts:List Int)(n:Nat):Nat->List Bool
 | 0=>List.replicate n false
 | k+1=>(tchI pts n k).set (pts.getD k 0).toNat true
theorem za8(pts told:List Int)(n k:Nat):(layI pts told n k).length=n:=by
 induction k with
 | zero=>simp[layI]
 | succ k ih=>rw[layI,List.length_set,ih]
theorem zcs(pts:List Int)(n k:Nat):(tchI pts n k).length=n:=by
 induction k with
 | zero=>simp[tchI]
 | succ k ih=>rw[tchI,List.length_set,ih]
theorem z1w{pts told:List Int}{n:Nat}(h:∀z∈told,-32768<=z/\z<=32767)(k:Nat):∀z∈layI pts told n k,-32768<=z/\z<=32767:=by
 induction k with
 | zero=>intro z hz;rw[layI]at hz;rw[List.eq_of_mem_replicate hz];omega
 | succ k ih =>
  intro z hz
  rw[layI]at hz
  rcases List.mem_or_eq_of_mem_set hz with hz|hz
  . exact ih z hz
  . rw[hz];exact zd8 h k
def spB(o:Ol)(pts dx dy:List Int):Bool:=foB o&&(risB pts (cntO o)&&(decide (dx.length=pts.length)&&(decide (dy.length=pts.length)&&(dx.all fdB&&dy.all fdB))))
def ofC(cs:List (List Pn))(k:Nat):Nat:=((cs.take k).flatten).length
theorem zdp{cs:List (List Pn)}{k:Nat}(hk:k<cs.length):ofC cs (k+1)=ofC cs k+(cs.getD k []).length:=zan hk
theorem zny(cs:List (List Pn))(k:Nat):ofC cs k<=cs.flatten.length:=zay cs k
theorem zlt(cs:List (List Pn)):ofC cs cs.length=cs.flatten.length:=by unfold ofC;rw[List.take_length]
theorem zoh:∀(cs:List (List Pn)) (k:Nat),k<cs.length->(cs.flatten.drop (ofC cs k)).take (cs.getD k []).length=cs.getD k []:=by
 intro cs
 induction cs with
 | nil=>intro k hk;simp at hk
 | cons c t ih =>
  intro k hk
  cases k with
  | zero=>simp[ofC]
  | succ k =>
   have h1:ofC (c::t) (k+1)=c.length+ofC t k:=by simp[ofC]
   rw[h1,List.flatten_cons,List.drop_append,List.drop_eq_nil_of_le (show c.length<=c.length+ofC t k by omega),List.nil_append,show c.length+ofC t k-c.length=ofC t k by omega,List.getD_cons_succ]
   exact ih k (by simpa using hk)
def segF(f:Pn->Int)(cs:List (List Pn))(lay:List Int)(tch:List Bool)(i:Nat):List Rat :=
 fillQ ((cs.getD i []).map f) ((tch.drop (ofC cs i)).take (cs.getD i []).length) ((lay.drop (ofC cs i)).take (cs.getD i []).length)
def conQ(f:Pn->Int)(cs:List (List Pn))(lay:List Int)(tch:List Bool)(k:Nat):List Rat:=((List.range k).map (segF f cs lay tch)).flatten
theorem zg8(f:Pn->Int)(cs:List (List Pn))(lay:List Int)(tch:List Bool)(k:Nat):conQ f cs lay tch (k+1)=conQ f cs lay tch k++segF f cs lay tch k:=by
 unfold conQ
 rw[List.range_succ,List.map_append,List.flatten_append]
 simp
theorem zgn(f:Pn->Int)(cs:List (List Pn))(lay:List Int)(tch:List Bool)(i:Nat):(segF f cs lay tch i).length<=(cs.getD i []).length:=by
 unfold segF
 cases h:fitB ((cs.getD i []).map f) ((tch.drop (ofC cs i)).take (cs.getD i []).length) ((lay.drop (ofC cs i)).take (cs.getD i []).length) with
 | false=>rw[zol h];exact Nat.zero_le _
 | true=>rw[zg3 h,List.length_map];exact Nat.le_refl _
theorem zmn(f:Pn->Int)(cs:List (List Pn))(lay:List Int)(tch:List Bool)(k:Nat)(hk:k<=cs.length):(conQ f cs lay tch k).length<=ofC cs k:=by
 induction k with
 | zero=>exact Nat.zero_le _
 | succ k ih =>
  rw[zg8,List.length_append,zdp (by omega)]
  have:=ih (by omega)
  have:=zgn f cs lay tch k
  omega
def spQ(f:Pn->Int)(o:Ol)(pts told:List Int):List Rat :=
 if 0<o.ps.length then (layI pts told (cntO o) pts.length).map (fun z:Int=>(z:Rat))else conQ f o.cs (layI pts told (cntO o) pts.length) (tchI pts (cntO o) pts.length) o.cs.length
theorem zgm{f:Pn->Int}{o:Ol}{pts told:List Int}(h:0<o.ps.length):spQ f o pts told=(layI pts told (cntO o) pts.length).map (fun z:Int=>(z:Rat)):=if_pos h
theorem zic{f:Pn->Int}{o:Ol}{pts told:List Int}(h:¬0<o.ps.length):spQ f o pts told=conQ f o.cs (layI pts told (cntO o) pts.length) (tchI pts (cntO o) pts.length) o.cs.length:=if_neg h
def allI(n:Nat):List Int:=(List.range n).map (fun j:Nat=>(j:Int))
theorem zjt(n:Nat):(allI n).length=n:=by simp[allI]
theorem zo0{n k:Nat}(hk:k<n):(allI n).getD k 0=(k:Int):=by simp[allI,List.getD,hk]
theorem zuq(n:Nat):allI (n+1)=allI n++[(n:Int)]:=rg_succ' n
where rg_succ' (n:Nat):(List.range (n+1)).map (fun j:Nat=>(j:Int))=(List.range n).map (fun j:Nat=>(j:Int))++[(n:Int)]:=by rw[List.range_succ,List.map_append];rfl
theorem zyh(n:Nat):risB (allI n) n=true:=by
 refine zih (fun k hk=>?_)
 rw[zjt]at hk
 unfold risP lastI
 rw[zo0 hk]
 by_cases h0:k=0
 . rw[if_pos h0];omega
 . rw[if_neg h0,zo0 (by omega)];omega
theorem zbb{z:Int}(h1:-9223372036854775808<=z)(h2:z<=9223372036854775807):IntKind.i64.wrap z=z:=by
 simp only[IntKind.wrap,IntKind.bits,IntKind.signed]
 simp
 omega
structure Te where
 st:Int
 pk:Int
 en:Int
def Te.none:Te:=⟨0,0,0⟩
theorem crdT{z:Int}:crd z=true ↔ -16384<=z/\z<=16384:=by simp[crd]
def TfT(t:Te):Prop:=(-16384<=t.st/\t.st<=16384)/\(-16384<=t.pk/\t.pk<=16384)/\(-16384<=t.en/\t.en<=16384) /\
 ((0<t.pk/\0<=t.st/\t.st<t.pk/\(t.pk<t.en\/(t.pk=16384/\t.en=16384)))\/(t.pk<0/\t.en<=0/\t.pk<t.en/\(t.st<t.pk\/(t.pk=-16384/\t.st=-16384)))\/(t.pk=0/\t.st=0/\t.en=0))
def tfB(t:Te):Bool:=decide ((-16384<=t.st/\t.st<=16384)/\(-16384<=t.pk/\t.pk<=16384)/\(-16384<=t.en/\t.en<=16384) /\
 ((0<t.pk/\0<=t.st/\t.st<t.pk/\(t.pk<t.en\/(t.pk=16384/\t.en=16384)))\/(t.pk<0/\t.en<=0/\t.pk<t.en/\(t.st<t.pk\/(t.pk=-16384/\t.st=-16384)))\/(t.pk=0/\t.st=0/\t.en=0)))
theorem zd3{t:Te}:tfB t=true↔TfT t:=by unfold tfB TfT;exact decide_eq_true_iff
theorem zq8{t:Te}(h:¬TfT t):tfB t=false:=by
 rw[Bool.eq_false_iff]
 exact fun e=>h (zd3.1 e)
def paQ(t:Te)(c:Int):Rat :=
 if tfB t&&crd c then
  (if t.pk=0\/c=t.pk then 1 else if c<=t.st\/t.en<=c then 0 else if c<t.pk then ((c-t.st:Int):Rat)/((t.pk-t.st:Int):Rat)else ((t.en-c:Int):Rat)/((t.en-t.pk:Int):Rat))
 else 0
theorem zy2{t:Te}{c:Int}(h:¬(tfB t=true/\crd c=true)):paQ t c=0:=by
 rw[paQ,if_neg];rw[Bool.and_eq_true]
 exact h
theorem zix{t:Te}{c:Int}(h1:tfB t=true)(h2:crd c=true):paQ t c=if t.pk=0\/c=t.pk then 1 else if c<=t.st\/t.en<=c then 0 else if c<t.pk then ((c-t.st:Int):Rat)/((t.pk-t.st:Int):Rat)else ((t.en-c:Int):Rat)/((t.en-t.pk:Int):Rat):=by
 rw[paQ,if_pos (by rw[h1,h2];rfl)]
theorem getT{l:List Te}{k:Nat}(hk:k<l.length):l.getD k Te.none=l[k]:=by simp[List.getD,hk]
theorem zoc{l:List Te}{k:Nat}(hk:k<l.length):l.getD k Te.none∈l:=by rw[getT hk];exact List.getElem_mem hk
def alK(l:List Te)(cs:List Int):Nat->Rat
 | 0=>1
 | k+1=>alK l cs k*paQ (l.getD k Te.none) (cs.getD k 0)
def alQ(l:List Te)(cs:List Int):Rat:=alK l cs l.length
theorem zo1(l:List Te)(cs:List Int)(k:Nat):alK l cs (k+1)=alK l cs k*paQ (l.getD k Te.none) (cs.getD k 0):=rfl
def rgB(l:List Te)(n:Int):Bool:=l.all tfB&&decide ((l.length:Int)=n)
theorem allT{l:List Te}{p:Te->Bool}:l.all p=true ↔ ∀j,j<l.length->p (l.getD j Te.none)=true:=by
 rw[List.all_eq_true]
 constructor
 . exact fun h j hj=>h _ (zoc hj)
 . intro h x hx
   obtain⟨j,hj,e⟩:=List.getElem_of_mem hx
   have:=h j hj
   rw[getT hj,e]at this
   exact this
theorem Ri.take{w:World}{a:OA}{cap:Nat}{zs:List Int}(h:Ri w a cap zs)(n:Nat):Ri w a cap (zs.take n):=by
 refine⟨fun z hz=>h.1 z (List.mem_of_mem_take hz),Nat.le_trans (by simp;omega) h.2.1,h.2.2.1,?_⟩
 rcases h.2.2.2 with h4|⟨b,off,e,h5,h6⟩
 . exact .inl (by rw[h4];simp)
 . refine .inr ⟨b,off,e,h5,fun i hi=>?_⟩
   have hi':i<n/\i<zs.length:=by simp at hi;omega
   rw[h6 i hi'.2]
   simp[List.getD,List.getElem?_take,hi'.1]
theorem Ri.drop{w:World}{b off cap:Nat}{zs:List Int}(h:Ri w (some ⟨b,off,none⟩) cap zs)(n:Nat)(hn:n<=zs.length):Ri w (some ⟨b,off+n,none⟩) (cap-n) (zs.drop n):=by
 refine⟨fun z hz=>h.1 z (List.mem_of_mem_drop hz),?_,Nat.le_trans (Nat.sub_le _ _) h.2.2.1,?_⟩
 . have:=h.2.1
   simp
   omega
 . rcases h.2.2.2 with h4|⟨b',off',e,h5,h6⟩
   . exact .inl (by rw[h4];simp)
   . cases e
     refine .inr ⟨b,off+n,rfl,h5,fun i hi=>?_⟩
     have hi':n+i<zs.length:=by simp at hi;omega
     rw[Nat.add_assoc,h6 (n+i) hi']
     simp[List.getD]
theorem Ri.from{w:World}{a:OA}{cap:Nat}{zs:List Int}(h:Ri w a cap zs)(n:Nat)(hn:n<=zs.length):Ri w (if cap=n then a else a.map (fun x=>x.add n)) (cap-n) (zs.drop n):=by
 by_cases h0:n<zs.length
 . rcases h.2.2.2 with h4|⟨b,off,rfl,h5,h6⟩
   . rw[h4]at h0;simp at h0
   . have:=h.2.1
     rw[if_neg (by omega)]
     have zb1:(⟨b,off,none⟩:Addr).add n=⟨b,off+n,none⟩:=by unfold Addr.add;split <;> simp_all
     show Ri w (some ((⟨b,off,none⟩:Addr).add n)) _ _
     rw[zb1]
     exact h.drop n hn
 . have e:zs.drop n=[]:=List.drop_eq_nil_of_le (by omega)
   rw[e]
   exact Ri.nil _ _ _ (Nat.le_trans (Nat.sub_le _ _) h.2.2.1)
def Tw(t:Te):Prop:=I64 t.st/\I64 t.pk/\I64 t.en
def Tz(w:World)(a:OA)(cap:Nat)(l:List Te):Prop :=
 l.length<=cap/\cap<=maxLen/\(∀t∈l,Tw t)/\(a=none->cap=0) /\
 ∀i,i<l.length->∃b off,a=some ⟨b,off,none⟩/\b<w.heap.size/\w.cell? ⟨b,off+i*3,none⟩=some (.int .i64 (l.getD i Te.none).st) /\
  w.cell? ⟨b,off+i*3+1,none⟩=some (.int .i64 (l.getD i Te.none).pk)/\w.cell? ⟨b,off+i*3+2,none⟩=some (.int .i64 (l.getD i Te.none).en)
theorem Tz.keep{w w':World}{a:OA}{cap:Nat}{l:List Te}(h:Tz w a cap l)(hs:w.heap.size<=w'.heap.size)
    (hb:∀b,b<w.heap.size->(∃o,a=some ⟨b,o,none⟩)->l≠[]->w'.heap[b]?=w.heap[b]?):Tz w' a cap l:=by
 refine⟨h.1,h.2.1,h.2.2.1,h.2.2.2.1,fun i hi=>?_⟩
 obtain⟨b,off,h1,h2,h3,h4,h5⟩:=h.2.2.2.2 i hi
 have e:=hb b h2 ⟨off,h1⟩ (fun e=>by rw[e]at hi;simp at hi)
 exact⟨b,off,h1,Nat.lt_of_lt_of_le h2 hs,(World.cell?_of_block (w:=w) (a:=⟨b,off+i*3,none⟩) e).trans h3,(World.cell?_of_block (w:=w) (a:=⟨b,off+i*3+1,none⟩) e).trans h4,(World.cell?_of_block (w:=w) (a:=⟨b,off+i*3+2,none⟩) e).trans h5⟩
theorem Tz.below{w w':World}{a:OA}{cap:Nat}{l:List Te}(h:Tz w a cap l)(hb:Below w.heap.size w w'):Tz w' a cap l :=
 h.keep hb.size fun b hb1 _ _=>hb.block b hb1
theorem Tz.at{w wr:World}{a:OA}{cap:Nat}{l:List Te}(h:Tz w a cap l)(hb:Below w.heap.size w wr)(k:Nat)(hk:k<l.length) :
 ∃b off,a=some ⟨b,off,none⟩/\b<w.heap.size/\wr.cell? ⟨b,off+k*3,none⟩=some (.int .i64 (l.getD k Te.none).st) /\
    wr.cell? ⟨b,off+k*3+1,none⟩=some (.int .i64 (l.getD k Te.none).pk)/\wr.cell? ⟨b,off+k*3+2,none⟩=some (.int .i64 (l.getD k Te.none).en):=by
 obtain⟨b,off,h1,h2,h3,h4,h5⟩:=h.2.2.2.2 k hk
 exact⟨b,off,h1,h2,(hb.cell (p:=⟨b,off+k*3,none⟩) h2).trans h3,(hb.cell (p:=⟨b,off+k*3+1,none⟩) h2).trans h4,(hb.cell (p:=⟨b,off+k*3+2,none⟩) h2).trans h5⟩
theorem Tz.lenB{w:World}{a:OA}{cap:Nat}{l:List Te}(h:Tz w a cap l):l.length<=9223372036854775807:=by
 have h1:=h.1
 have h2:=h.2.1
 unfold maxLen at h2
 omega
theorem zlz:(Tryz.prog.info? 146).map (fun i=>(i.zero,i.size,i.bytes))=some (some (.agg #[.int .i64 0,.int .i64 0,.int .i64 0]),3,24):=by kernel_rfl
theorem zyi{l:List Te}{cs:List Int}{j:Nat}(hj:j<l.length)(h:paQ (l.getD j Te.none) (cs.getD j 0)=0):alQ l cs=0:=by
 have:∀k,j<k->alK l cs k=0:=by
  intro k
  induction k with
  | zero=>intro h1;omega
  | succ k ih =>
   intro h1
   rw[zo1]
   by_cases e:j=k
   . subst e
     rw[h,Rat.mul_zero]
   . rw[ih (by omega),Rat.zero_mul]
 exact this _ hj
structure Sr where
 rg:List (List Te)
 rw:List (List Int)
def roB(k:Nat)(r:List Int):Bool:=decide (r.length=k)&&r.all fdB
def stB(s:Sr)(n:Int):Bool:=decide (0<=n/\n<=4)&&(decide (s.rg.length<=40)&&(decide (s.rw.length<=400)&&(s.rg.all (fun l=>rgB l n)&&s.rw.all (roB s.rg.length))))
theorem stB_iff{s:Sr}{n:Int}:stB s n=true↔(0<=n/\n<=4)/\s.rg.length<=40/\s.rw.length<=400/\(∀l∈s.rg,rgB l n=true)/\(∀r∈s.rw,r.length=s.rg.length/\∀z∈r,-32768<=z/\z<=32767):=by
 unfold stB roB
 simp only[Bool.and_eq_true,decide_eq_true_iff,List.all_eq_true,zce]
def fiS(s:Sr)(b r:Int):Bool:=fdB b&&(decide (r=-1)||(decide (0<=r)&&(decide (r<(s.rw.length:Int))&&decide (r<400))))
theorem ztv{s:Sr}{b r:Int}:fiS s b r=true↔(-32768<=b/\b<=32767)/\(r=-1\/(0<=r/\r<(s.rw.length:Int)/\r<400)):=by
 unfold fiS
 simp only[Bool.and_eq_true,Bool.or_eq_true,decide_eq_true_iff,zce]
theorem getL{α:Type}{m:List (List α)}{k:Nat}(hk:k<m.length):m.getD k []=m[k]:=by simp[List.getD,hk]
theorem zod{α:Type}{m:List (List α)}{k:Nat}(hk:k<m.length):m.getD k []∈m:=by rw[getL hk];exact List.getElem_mem hk
def isI:Value->Bool
 | .int _ _=>true
 | _=>false
def NoI(w:World)(g:Nat):Prop:=∀j v,w.cell? ⟨g,j,none⟩=some v->isI v=false
theorem NoI.of{w:World}{g:Nat}{cur:Array Value}{e:TypeId}(h:w.heap[g]?=some (.cells cur e (0,0)))(hc:∀c∈cur.toList,isI c=false):NoI w g:=by
 intro j v hv
 rw[cell_of_row w g j cur e (0,0) h]at hv
 obtain⟨hj,e⟩:=Array.getElem?_eq_some_iff.1 hv
 exact hc v (by rw[<-e];simp)
theorem NoI.mem{w:World}{g:Nat}{cur:Array Value}{e:TypeId}(hn:NoI w g)(h:w.heap[g]?=some (.cells cur e (0,0))):∀c∈cur.toList,isI c=false:=by
 intro c hc
 obtain⟨j,hj,e⟩:=List.getElem_of_mem hc
 refine hn j c ?_
 rw[cell_of_row w g j cur _ (0,0) h,Array.getElem?_eq_getElem (by simpa using hj)]
 simpa using e
theorem NoI.below{w w':World}{g:Nat}(h:NoI w g)(hg:g<w.heap.size)(hb:Below w.heap.size w w'):NoI w' g:=by
 intro j v hv
 rw[hb.cell (p:=⟨g,j,none⟩) hg]at hv
 exact h j v hv
theorem Rd.grown{w w':World}{a:OA}{cap:Nat}{xs:LN}{row:Option Nat}(h:Rd w a cap xs)(hg:w.grownBy w' row)(hn:∀g,row=some g->NoI w g):Rd w' a cap xs:=by
 obtain⟨h1,h2,h3,h5,h4⟩:=h
 refine⟨h1,h2,h3,h5,?_⟩
 rcases h4 with h4|⟨b,off,e,hb1,hc⟩
 . exact .inl h4
 . by_cases h0:xs=[]
   . exact .inl h0
   . have hl:0<xs.length:=List.length_pos_iff.2 h0
     have hne:some b≠row:=by
      intro e2
      have:=hn b e2.symm _ _ (hc 0 hl)
      cases this
     exact .inr ⟨b,off,e,Nat.lt_of_lt_of_le hb1 hg.size,fun i hi=>(World.cell?_of_block (w:=w) (a:=⟨b,off+i,none⟩) (hg.block b hb1 hne)).trans (hc i hi)⟩
theorem Fr.grown{w w':World}{v:Value}{k:Nat}{q:Rat}{row:Option Nat}(h:Fr w v k q)(hg:w.grownBy w' row)(hn:∀g,row=some g->NoI w g):Fr w' v k q:=by
 obtain⟨n,xs,ys,⟨a,c,a',c',rfl,h1,h2⟩,h3⟩:=h
 exact⟨n,xs,ys,⟨a,c,a',c',rfl,h1.grown hg hn,h2.grown hg hn⟩,h3⟩
def Rz(w:World)(a:OA)(cap k:Nat)(qs:List Rat):Prop :=
 qs.length<=cap/\cap<=maxLen /\
 ∀i,i<qs.length->∃b off x y z,a=some ⟨b,off,none⟩/\b<w.heap.size/\w.cell? ⟨b,off+i*3,none⟩=some x/\w.cell? ⟨b,off+i*3+1,none⟩=some y/\w.cell? ⟨b,off+i*3+2,none⟩=some z/\Fr w (.agg #[x,y,z]) k (qs.getD i 0)
theorem Rz.at{w wr:World}{a:OA}{cap k:Nat}{qs:List Rat}(h:Rz w a cap k qs)(hb:Below w.heap.size w wr)(i:Nat)(hi:i<qs.length) :
 ∃b off x y z,a=some ⟨b,off,none⟩/\b<w.heap.size/\wr.cell? ⟨b,off+i*3,none⟩=some x/\wr.cell? ⟨b,off+i*3+1,none⟩=some y/\wr.cell? ⟨b,off+i*3+2,none⟩=some z/\Fr wr (.agg #[x,y,z]) k (qs.getD i 0):=by
 obtain⟨b,off,x,y,z,h1,h2,h3,h4,h5,h6⟩:=h.2.2 i hi
 exact⟨b,off,x,y,z,h1,h2,(hb.cell (p:=⟨b,off+i*3,none⟩) h2).trans h3,(hb.cell (p:=⟨b,off+i*3+1,none⟩) h2).trans h4,(hb.cell (p:=⟨b,off+i*3+2,none⟩) h2).trans h5,h6.below hb⟩
theorem Rz.below{w w':World}{a:OA}{cap k:Nat}{qs:List Rat}(h:Rz w a cap k qs)(hb:Below w.heap.size w w'):Rz w' a cap k qs:=by
 refine⟨h.1,h.2.1,fun i hi=>?_⟩
 obtain⟨b,off,x,y,z,h1,h2,h3⟩:=h.at hb i hi
 exact⟨b,off,x,y,z,h1,Nat.lt_of_lt_of_le h2 hb.size,h3⟩
theorem Rz.nil(w:World)(a:OA)(cap k:Nat)(h:cap<=maxLen):Rz w a cap k []:=⟨Nat.zero_le _,h,fun i hi=>by simp at hi⟩
def Ro(T:TypeId)(base:Nat)(w:World)(v:Value)(k:Nat)(qs:List Rat):Prop :=
 ∃vs:List Value,w.ownsRow base T 3 v qs.length vs/\(∀g,v.ownBlock=some g->NoI w g) /\
  ∀i,i<qs.length->∃x y z,vs[i*3]?=some x/\vs[i*3+1]?=some y/\vs[i*3+2]?=some z/\Fr w (.agg #[x,y,z]) k (qs.getD i 0)
theorem Ro.nil(T:TypeId)(base:Nat)(w:World)(k:Nat):Ro T base w (.slice none 0 0) k []:=⟨[],World.ownsRow_nil w base _ 3,(fun g hg=>by cases hg),fun i hi=>by simp at hi⟩
theorem Ro.slice{T:TypeId}{base:Nat}{w:World}{v:Value}{k:Nat}{qs:List Rat}(h:Ro T base w v k qs):∃a cap,v=.slice a qs.length cap/\Rz w a cap k qs:=by
 obtain⟨vs,h3,_,h4⟩:=h
 rcases h3.2 with ⟨rfl,h0⟩|⟨g,cap,cur,rfl,hb,hg,hc1,hc2,hc3,ht⟩
 . have:qs=[]:=List.length_eq_zero_iff.1 h0
   subst this
   exact⟨none,0,rfl,Rz.nil _ _ _ _ (Nat.zero_le _)⟩
 . refine⟨_,cap,rfl,hc1,hc2,fun i hi=>?_⟩
   obtain⟨x,y,z,k0,k1,k2,k3⟩:=h4 i hi
   have zb1:∀j,(⟨g,0,none⟩:Addr).add j=⟨g,0+j,none⟩:=by intro j;unfold Addr.add;split <;> simp_all
   have d0:=h3.cells (g:=g) rfl (i*3) _ k0
   have d1:=h3.cells (g:=g) rfl (i*3+1) _ k1
   have d2:=h3.cells (g:=g) rfl (i*3+2) _ k2
   rw[zb1]at d0 d1 d2
   exact⟨g,0,x,y,z,rfl,(Array.getElem?_eq_some_iff.1 hg).1,d0,d1,d2,k3⟩
theorem Ro.lo{T:TypeId}{base:Nat}{w:World}{v:Value}{k:Nat}{qs:List Rat}(h:Ro T base w v k qs){g:Nat}(hg:v.ownBlock=some g):base<=g/\g<w.heap.size:=by
 obtain⟨vs,h3,_⟩:=h
 exact World.ownsRow.lt h3 g hg
theorem Ro.below{T:TypeId}{base:Nat}{w w':World}{v:Value}{k:Nat}{qs:List Rat}(h:Ro T base w v k qs)(hb:Below w.heap.size w w'):Ro T base w' v k qs:=by
 have hlo:=fun g hg=>(h.lo (g:=g) hg).2
 obtain⟨vs,h3,hn,h4⟩:=h
 refine⟨vs,⟨h3.1,?_⟩,fun g hg=>(hn g hg).below (hlo g hg) hb,fun i hi=>?_⟩
 . rcases h3.2 with h0|⟨g,cap',cur,k1,k2,k3,k4⟩
   . exact .inl h0
   . exact .inr ⟨g,cap',cur,k1,k2,(hb.block g (Array.getElem?_eq_some_iff.1 k3).1).trans k3,k4⟩
 . obtain⟨x,y,z,k0,k1,k2,k3⟩:=h4 i hi
   exact⟨x,y,z,k0,k1,k2,k3.below hb⟩
def rtZ:Value:=.agg #[.bool false,.slice none 0 0,.slice none 0 0]
theorem zie(n:Nat):∀c∈(madeCells rtZ.cells n).toList,isI c=false:=by
 intro c hc
 simp only[madeCells,rtZ,Value.cells,Array.toList_map,List.mem_map]at hc
 obtain⟨j,_,rfl⟩:=hc
 have h3:j%3=0\/j%3=1\/j%3=2:=by omega
 show isI ((#[Value.bool false,.slice none 0 0,.slice none 0 0])[j%3]!)=false
 rcases h3 with h|h|h <;> rw[h] <;> rfl
theorem zne(n:Nat):∀c∈(Builtin.zeroCells rtZ.cells n).toList,isI c=false:=by
 intro c hc
 simp only[Builtin.zeroCells,rtZ,Value.cells,Array.toList_map,List.mem_map]at hc
 obtain⟨j,_,rfl⟩:=hc
 have h3:j%3=0\/j%3=1\/j%3=2:=by omega
 show isI ((#[Value.bool false,.slice none 0 0,.slice none 0 0])[j%3]!)=false
 rcases h3 with h|h|h <;> rw[h] <;> rfl
theorem Fr.noI{w:World}{x y z:Value}{k:Nat}{q:Rat}(h:Fr w (.agg #[x,y,z]) k q):∀c ∈ [x,y,z],isI c=false/\c.oneCell'=true:=by
 obtain⟨n,xs,ys,⟨a,c,a',c',e,h1,h2⟩,h3⟩:=h
 simp at e
 obtain⟨rfl,rfl,rfl⟩:=e
 intro c hc
 simp at hc
 rcases hc with rfl|rfl|rfl <;> exact⟨rfl,rfl⟩
theorem zch:(Tryz.prog.info? 125).map (fun i=>(i.zero,i.size,i.bytes))=some (some rtZ,3,56):=by kernel_rfl
def suQ:List Rat->Rat
 | []=>0
 | q::l=>q+suQ l
theorem zez(l m:List Rat):suQ (l++m)=suQ l+suQ m:=by
 induction l with
 | nil=>rw[List.nil_append,suQ];grind
 | cons q l ih=>rw[List.cons_append,suQ,suQ,ih];grind
theorem zib(q:Rat):suQ [q]=q:=by rw[suQ,suQ];grind
theorem zvm(l:List Rat)(n:Nat):suQ (l.take n)+suQ (l.drop n)=suQ l:=by rw[<-zez,List.take_append_drop]
theorem Rz.take{w:World}{a:OA}{cap k:Nat}{qs:List Rat}(h:Rz w a cap k qs)(n:Nat):Rz w a cap k (qs.take n):=by
 refine⟨Nat.le_trans (by simp;omega) h.1,h.2.1,fun i hi=>?_⟩
 have hi':i<n/\i<qs.length:=by simp at hi;omega
 have e:(qs.take n).getD i 0=qs.getD i 0:=by simp[List.getD,List.getElem?_take,hi'.1]
 rw[e]
 exact h.2.2 i hi'.2
theorem Rz.from{w:World}{a:OA}{cap k:Nat}{qs:List Rat}(h:Rz w a cap k qs)(n:Nat)(hn:n<qs.length):Rz w (a.map (fun x=>x.add (n*3))) (cap-n) k (qs.drop n):=by
 have h1:=h.1
 refine⟨by simp;omega,Nat.le_trans (Nat.sub_le _ _) h.2.1,fun i hi=>?_⟩
 have hi':n+i<qs.length:=by simp at hi;omega
 obtain⟨b,off,x,y,z,rfl,hb,c0,c1,c2,hF⟩:=h.2.2 (n+i) hi'
 have zb1:(⟨b,off,none⟩:Addr).add (n*3)=⟨b,off+n*3,none⟩:=by unfold Addr.add;split <;> simp_all
 have e:(qs.drop n).getD i 0=qs.getD (n+i) 0:=by simp[List.getD]
 rw[e]
 refine⟨b,off+n*3,x,y,z,congrArg some zb1,hb,?_,?_,?_,hF⟩
 . rw[show off+n*3+i*3=off+(n+i)*3 by omega];exact c0
 . rw[show off+n*3+i*3=off+(n+i)*3 by omega];exact c1
 . rw[show off+n*3+i*3=off+(n+i)*3 by omega];exact c2
structure Tu where
 rg:List Te
 al:Bool
 pts:List Int
 dx:List Int
 dy:List Int
def Tu.none:Tu:=⟨[],false,[],[],[]⟩
def nmB(t:Tu)(n:Nat):Bool:=if t.al then decide (t.pts.length=0/\t.dx.length=n/\t.dy.length=n)else (decide (0<t.pts.length)&&(risB t.pts n&&decide (t.dx.length=t.pts.length/\t.dy.length=t.pts.length)))
def tuB(t:Tu)(n:Nat)(ax:Int):Bool:=rgB t.rg ax&&(nmB t n&&(t.dx.all fdB&&t.dy.all fdB))
def foT(o:Ol)(l:List Tu)(ax:Int):Bool:=foB o&&(decide (0<=ax/\ax<=4)&&(decide (l.length<=40)&&l.all (fun t=>tuB t (cntO o) ax)))
def nmd(t:Tu):List Int:=if t.al then allI t.dx.length else t.pts
theorem zd2{t:Tu}{n:Nat}{ax:Int}:tuB t n ax=true↔rgB t.rg ax=true/\nmB t n=true/\t.dx.all fdB=true/\t.dy.all fdB=true:=by
 unfold tuB
 simp only[Bool.and_eq_true]
theorem zbc{o:Ol}{l:List Tu}{ax:Int}:foT o l ax=true↔foB o=true/\(0<=ax/\ax<=4)/\l.length<=40/\∀k,k<l.length->tuB (l.getD k Tu.none) (cntO o) ax=true:=by
 unfold foT
 simp only[Bool.and_eq_true,decide_eq_true_iff,List.all_eq_true]
 constructor
 . rintro ⟨h1,h2,h3,h4⟩
   exact⟨h1,h2,h3,fun k hk=>h4 _ (by rw[List.getD_eq_getElem?_getD,List.getElem?_eq_getElem hk];exact List.getElem_mem hk)⟩
 . rintro ⟨h1,h2,h3,h4⟩
   refine⟨h1,h2,h3,fun t ht=>?_⟩
   obtain⟨k,hk,e⟩:=List.getElem_of_mem ht
   have:=h4 k hk
   rw[List.getD_eq_getElem?_getD,List.getElem?_eq_getElem hk,Option.getD_some,e]at this
   exact this
theorem z5e{o:Ol}{l:List Tu}{ax:Int}(h:¬(foB o=true/\(0<=ax/\ax<=4)/\l.length<=40/\∀k,k<l.length->tuB (l.getD k Tu.none) (cntO o) ax=true)):foT o l ax=false:=by
 cases hf:foT o l ax with
 | false=>rfl
 | true=>exact absurd (zbc.1 hf) h
theorem zi1{t:Tu}{n:Nat}(ha:t.al=true):nmB t n=true↔t.pts=[]/\t.dx.length=n/\t.dy.length=n:=by
 unfold nmB
 rw[if_pos ha,decide_eq_true_iff,List.length_eq_zero_iff]
theorem zfx{t:Tu}{n:Nat}(ha:t.al=false):nmB t n=true↔0<t.pts.length/\risB t.pts n=true/\t.dx.length=t.pts.length/\t.dy.length=t.pts.length:=by
 unfold nmB
 rw[if_neg (by rw[ha];decide)]
 simp only[Bool.and_eq_true,decide_eq_true_iff]
theorem zlu{t:Tu}{n:Nat}(h:nmB t n=true):t.dx.length=(nmd t).length/\t.dy.length=(nmd t).length:=by
 cases ha:t.al with
 | true =>
  obtain⟨_,h2,h3⟩:=(zi1 ha).1 h
  unfold nmd
  rw[if_pos ha,zjt]
  exact⟨rfl,by omega⟩
 | false =>
  obtain⟨_,_,h2,h3⟩:=(zfx ha).1 h
  unfold nmd
  rw[if_neg (by rw[ha];decide)]
  exact⟨h2,h3⟩
theorem zst{t:Tu}{n:Nat}(h:nmB t n=true):risB (nmd t) n=true:=by
 cases ha:t.al with
 | true =>
  obtain⟨_,h2,h3⟩:=(zi1 ha).1 h
  unfold nmd
  rw[if_pos ha,h2]
  exact zyh n
 | false =>
  obtain⟨_,h1,_,_⟩:=(zfx ha).1 h
  unfold nmd
  rw[if_neg (by rw[ha];decide)]
  exact h1
theorem zz6{o:Ol}{t:Tu}{ax:Int}(hf:foB o=true)(h:tuB t (cntO o) ax=true):spB o (nmd t) t.dx t.dy=true:=by
 obtain⟨h1,h2,h3,h4⟩:=zd2.1 h
 unfold spB
 rw[hf,zst h2,decide_eq_true (zlu h2).1,decide_eq_true (zlu h2).2,h3,h4]
 rfl
theorem zig{pts:List Int}{n:Nat}(h:risB pts n=true):pts.length<=n:=by
 have hk:∀k,k<pts.length->(k:Int)<=pts.getD k 0:=by
  intro k
  induction k with
  | zero=>intro hk;exact(zct 0 (fun j hj=>zcu.1 h j (by omega))).1
  | succ k ih =>
   intro hk
   have h1:=ih (by omega)
   have h2:=zcu.1 h (k+1) hk
   unfold risP lastI at h2
   rw[if_neg (by omega),Nat.add_sub_cancel]at h2
   omega
 by_cases h0:pts.length=0
 . omega
 . have h1:=hk (pts.length-1) (by omega)
   have h2:=(zcu.1 h (pts.length-1) (by omega)).2
   omega
theorem zfl{o:Ol}(h:foB o=true):cntO o<=86:=by
 have hf:=za1.1 h
 have h1:=hf.2.2.1
 have h2:=hf.2.2.2.2.1
 unfold cntO
 omega
theorem zx6{f:Pn->Int}{cs:List (List Pn)}{lay:List Int}{tch:List Bool}(hl:lay.length=cs.flatten.length)(ht:tch.length=cs.flatten.length)(h80:cs.flatten.length<=80)(hf:∀p∈cs.flatten,-32768<=f p/\f p<=32767)(hd:∀z∈lay,-32768<=z/\z<=32767):∀k,k<=cs.length->(conQ f cs lay tch k).length=ofC cs k:=by
 intro k
 induction k with
 | zero=>intro _;simp[conQ,ofC]
 | succ k ih =>
  intro hk
  have hs:=zdp (cs:=cs) (k:=k) (by omega)
  have hle:=zny cs (k+1)
  rw[zg8,List.length_append,ih (by omega),hs]
  congr 1
  obtain⟨c,hc⟩:∃c,cs.getD k []=c:=⟨_,rfl⟩
  have hcm:∀p∈c,p∈cs.flatten:=fun p hp=>by
   have h9:=zoh cs k (by omega)
   rw[hc]at h9;rw[<-h9]at hp
   exact List.mem_of_mem_drop (List.mem_of_mem_take hp)
  rw[hc]at hs ⊢
  have e1:((lay.drop (ofC cs k)).take c.length).length=c.length:=by rw[List.length_take,List.length_drop];omega
  have e2:((tch.drop (ofC cs k)).take c.length).length=c.length:=by rw[List.length_take,List.length_drop];omega
  have hF:fitB (c.map f) ((tch.drop (ofC cs k)).take c.length) ((lay.drop (ofC cs k)).take c.length)=true:=zjd.2 ⟨⟨by rw[e2,List.length_map],by rw[e1,List.length_map],by rw[List.length_map];omega⟩,fun z hz=>by
   obtain⟨p,hp,rfl⟩:=List.mem_map.1 hz
   exact hf p (hcm p hp),fun z hz=>hd z (List.mem_of_mem_drop (List.mem_of_mem_take hz))⟩
  unfold segF
  rw[hc,zg3 hF,List.length_map]
theorem zrf{f:Pn->Int}{o:Ol}{pts told:List Int}(hfo:FoP o)(hf:∀p∈o.cs.flatten,-32768<=f p/\f p<=32767)(hd:∀z∈told,-32768<=z/\z<=32767):(spQ f o pts told).length=cntO o:=by
 by_cases hp:0<o.ps.length
 . rw[zgm hp,List.length_map,za8]
 . have hc:cntO o=o.cs.flatten.length:=by unfold cntO;omega
   rw[zic hp,zx6 (by rw[za8,hc]) (by rw[zcs,hc]) hfo.2.2.2.2.1 hf (z1w hd _) _ (Nat.le_refl _),zlt,hc]
def baQ(f:Pn->Int)(g:Pa->Int)(o:Ol):List Int:=o.cs.flatten.map f++o.ps.map g
theorem zum(f:Pn->Int)(g:Pa->Int)(o:Ol):(baQ f g o).length=cntO o:=by unfold baQ cntO;rw[List.length_append,List.length_map,List.length_map];omega
def tqC(f:Pn->Int)(tl:Tu->List Int)(o:Ol)(cs:List Int)(i:Nat)(t:Tu):Rat:=(spQ f o (nmd t) (tl t)).getD i 0*alQ t.rg cs
def exN(f:Pn->Int)(g:Pa->Int)(tl:Tu->List Int)(o:Ol)(l:List Tu)(cs:List Int)(i:Nat):Rat:=(((baQ f g o).getD i 0:Int):Rat)+suQ (l.map (tqC f tl o cs i))
def exL(f:Pn->Int)(g:Pa->Int)(tl:Tu->List Int)(o:Ol)(l:List Tu)(cs:List Int):List Rat:=(List.range (cntO o)).map (exN f g tl o l cs)
theorem zjf(f:Pn->Int)(g:Pa->Int)(tl:Tu->List Int)(o:Ol)(l:List Tu)(cs:List Int):(exL f g tl o l cs).length=cntO o:=by unfold exL;rw[List.length_map,List.length_range]
theorem z26{f:Pn->Int}{g:Pa->Int}{tl:Tu->List Int}{o:Ol}{l:List Tu}{cs:List Int}{i:Nat}(hi:i<cntO o):(exL f g tl o l cs).getD i 0=exN f g tl o l cs i:=by unfold exL;simp[List.getD,hi]
theorem z25(f:Pn->Int)(g:Pa->Int)(tl:Tu->List Int)(o:Ol)(cs:List Int)(i:Nat):exN f g tl o [] cs i=(((baQ f g o).getD i 0:Int):Rat):=by
 unfold exN
 rw[List.map_nil,suQ,Rat.add_zero]
theorem zom(f:Pn->Int)(g:Pa->Int)(tl:Tu->List Int)(o:Ol)(l:List Tu)(t:Tu)(cs:List Int)(i:Nat):exN f g tl o (l++[t]) cs i=exN f g tl o l cs i+(spQ f o (nmd t) (tl t)).getD i 0*alQ t.rg cs:=by
 unfold exN
 rw[List.map_append,List.map_cons,List.map_nil,zez,zib,Rat.add_assoc]
 rfl
def trm(ds:List Rat)(p:Rat)(j:Nat):List Rat:=if ds.getD j 0=0 then []else [ds.getD j 0*p]
def adK(T:List (List Rat))(ds:List Rat)(p:Rat):Nat->List (List Rat)
 | 0=>T
 | j+1=>(adK T ds p j).set j ((adK T ds p j).getD j []++trm ds p j)
theorem zmz(T:List (List Rat))(ds:List Rat)(p:Rat)(j:Nat):(adK T ds p j).length=T.length:=by
 induction j with
 | zero=>rfl
 | succ j ih=>rw[adK,List.length_set,ih]
theorem zuu(T:List (List Rat))(ds:List Rat)(p:Rat)(j i:Nat)(hi:i<T.length):(adK T ds p j).getD i []=if i<j then T.getD i []++trm ds p i else T.getD i []:=by
 induction j with
 | zero=>rw[if_neg (by omega)];rfl
 | succ j ih =>
  rw[adK]
  by_cases e:i=j
  . subst e
    rw[if_pos (by omega)]
    have h1:((adK T ds p i).set i ((adK T ds p i).getD i []++trm ds p i)).getD i []=(adK T ds p i).getD i []++trm ds p i:=by simp[List.getD,zmz,hi]
    rw[h1,ih,if_neg (by omega)]
  . have h1:((adK T ds p j).set j ((adK T ds p j).getD j []++trm ds p j)).getD i []=(adK T ds p j).getD i []:=by simp[List.getD,List.getElem?_set_ne (fun x=>e x.symm)]
    rw[h1,ih]
    by_cases h:i<j
    . rw[if_pos h,if_pos (by omega)]
    . rw[if_neg h,if_neg (by omega)]
theorem zz7(ds:List Rat)(p:Rat)(j:Nat):suQ (trm ds p j)=ds.getD j 0*p:=by
 unfold trm
 by_cases h:ds.getD j 0=0
 . rw[if_pos h,h,suQ,Rat.zero_mul]
 . rw[if_neg h,zib]
theorem zz8(ds:List Rat)(p:Rat)(j:Nat):(trm ds p j).length<=1:=by unfold trm;split <;> simp
def TmI(f:Pn->Int)(g:Pa->Int)(tl:Tu->List Int)(o:Ol)(l:List Tu)(cs:List Int)(k:Nat)(T:List (List Rat)):Prop :=
 T.length=cntO o/\∀i,i<cntO o->1<=(T.getD i []).length/\(T.getD i []).length<=k+1/\suQ (T.getD i [])=exN f g tl o (l.take k) cs i
theorem TmI.start(f:Pn->Int)(g:Pa->Int)(tl:Tu->List Int)(o:Ol)(l:List Tu)(cs:List Int):TmI f g tl o l cs 0 ((baQ f g o).map (fun z:Int=>[(z:Rat)])):=by
 refine⟨by rw[List.length_map,zum],fun i hi=>?_⟩
 have hi':i<(baQ f g o).length:=by rw[zum];exact hi
 have e:((baQ f g o).map (fun z:Int=>[(z:Rat)])).getD i []=[(((baQ f g o).getD i 0:Int):Rat)]:=by simp[List.getD,hi']
 rw[e,List.take_zero,z25,zib]
 exact⟨by simp,by simp,rfl⟩
theorem TmI.skip{f:Pn->Int}{g:Pa->Int}{tl:Tu->List Int}{o:Ol}{l:List Tu}{cs:List Int}{k:Nat}{T:List (List Rat)}(h:TmI f g tl o l cs k T)(hk:k<l.length)(h0:alQ (l.getD k Tu.none).rg cs=0):TmI f g tl o l cs (k+1) T:=by
 refine⟨h.1,fun i hi=>?_⟩
 obtain⟨h1,h2,h3⟩:=h.2 i hi
 refine⟨h1,by omega,?_⟩
 rw[zaj (d:=Tu.none) hk,zom,h0,Rat.mul_zero,Rat.add_zero]
 exact h3
theorem TmI.step{f:Pn->Int}{g:Pa->Int}{tl:Tu->List Int}{o:Ol}{l:List Tu}{cs:List Int}{k:Nat}{T:List (List Rat)}(h:TmI f g tl o l cs k T)(hk:k<l.length)(hl:(spQ f o (nmd (l.getD k Tu.none)) (tl (l.getD k Tu.none))).length=cntO o):TmI f g tl o l cs (k+1) (adK T (spQ f o (nmd (l.getD k Tu.none)) (tl (l.getD k Tu.none))) (alQ (l.getD k Tu.none).rg cs) (spQ f o (nmd (l.getD k Tu.none)) (tl (l.getD k Tu.none))).length):=by
 refine⟨by rw[zmz];exact h.1,fun i hi=>?_⟩
 obtain⟨h1,h2,h3⟩:=h.2 i hi
 rw[zuu _ _ _ _ _ (by rw[h.1];exact hi),if_pos (by rw[hl];exact hi),List.length_append,zez,zz7,h3,zaj (d:=Tu.none) hk,zom]
 have:=zz8 (spQ f o (nmd (l.getD k Tu.none)) (tl (l.getD k Tu.none))) (alQ (l.getD k Tu.none).rg cs) i
 exact⟨by omega,by omega,rfl⟩
theorem TmI.end{f:Pn->Int}{g:Pa->Int}{tl:Tu->List Int}{o:Ol}{l:List Tu}{cs:List Int}{T:List (List Rat)}(h:TmI f g tl o l cs l.length T):T.map suQ=exL f g tl o l cs:=by
 refine List.ext_getElem (by rw[List.length_map,zjf,h.1]) (fun i h1 h2=>?_)
 have hi:i<cntO o:=by rw[zjf]at h2;exact h2
 have h3:=(h.2 i hi).2.2
 rw[List.take_length]at h3
 have e1:(T.map suQ)[i]=suQ (T.getD i []):=by rw[List.getElem_map];simp[List.getD,show i<T.length by rw[h.1];exact hi]
 have e2:=z26 (f:=f) (g:=g) (tl:=tl) (l:=l) (cs:=cs) hi
 rw[List.getD_eq_getElem?_getD,List.getElem?_eq_getElem h2,Option.getD_some]at e2
 rw[e1,h3,e2]
def rnB(qs:List Rat):Bool:=qs.all (fun q=>decide (fldE (q+1/2).floor=0))
def rnN(q:Rat):Int:=fldN (q+1/2).floor
def rnL(qs:List Rat):List Int:=if rnB qs=true then qs.map rnN else []
def rnE(qs:List Rat):Int:=if rnB qs=true then 0 else 4
theorem zxs(z:Int):fldE z=0\/fldE z=4:=by unfold fldE;split <;> simp
theorem z39{qs:List Rat}{k:Nat}(hk:k<qs.length)(h:fldE (qs.getD k 0+1/2).floor≠0):rnB qs=false:=by
 unfold rnB
 refine List.all_eq_false.2 ⟨qs.getD k 0,by rw[List.getD_eq_getElem?_getD,List.getElem?_eq_getElem hk];exact List.getElem_mem hk,by rw[decide_eq_true_iff];exact h⟩
theorem z0t{qs:List Rat}(h:∀k,k<qs.length->fldE (qs.getD k 0+1/2).floor=0):rnB qs=true:=by
 unfold rnB
 refine List.all_eq_true.2 (fun q hq=>?_)
 obtain⟨k,hk,e⟩:=List.getElem_of_mem hq
 have:=h k hk
 rw[List.getD_eq_getElem?_getD,List.getElem?_eq_getElem hk,Option.getD_some,e]at this
 rw[decide_eq_true_iff]
 exact this
theorem zrq(q:Rat):-32768<=rnN q/\rnN q<=32767:=by unfold rnN fldN;split <;> omega
def reP(cs:List (List Pn))(nx ny:List Int)(i j:Nat):Pn:=⟨nx.getD (ofC cs i+j) 0,ny.getD (ofC cs i+j) 0,((cs.getD i []).getD j Pn.none).on⟩
def reC(cs:List (List Pn))(nx ny:List Int)(i:Nat):List Pn:=(List.range (cs.getD i []).length).map (reP cs nx ny i)
def reA(n:Nat)(ps:List Pa)(nx ny:List Int)(j:Nat):Pa:=⟨(ps.getD j Pa.none).g,nx.getD (n+j) 0,ny.getD (n+j) 0⟩
def reO(o:Ol)(nx ny:List Int):Ol:=⟨(List.range o.cs.length).map (reC o.cs nx ny),(List.range o.ps.length).map (reA o.cs.flatten.length o.ps nx ny)⟩
def atOk(o:Ol)(l:List Tu)(cs:List Int):Bool:=foT o l (cs.length:Int)&&(rnB (exL Pn.x Pa.dx Tu.dx o l cs)&&rnB (exL Pn.y Pa.dy Tu.dy o l cs))
def atO(o:Ol)(l:List Tu)(cs:List Int):Ol:=if atOk o l cs=true then reO o ((exL Pn.x Pa.dx Tu.dx o l cs).map rnN) ((exL Pn.y Pa.dy Tu.dy o l cs).map rnN)else Ol.none
def atE(o:Ol)(l:List Tu)(cs:List Int):Int:=if foT o l (cs.length:Int)=true then (if atOk o l cs=true then 0 else 4)else 1
structure Gl where
 o:Ol
 ts:List Tu
 ab:Int
 ar:Int
 mr:Bool
def Gl.none:Gl:=⟨Ol.none,[],0,0,false⟩
def gAt(l:List Gl)(g:Int):Option Gl:=if 0<=g then l[g.toNat]? else none
theorem z2m{l:List Gl}{g:Int}(h:g<0):gAt l g=none:=if_neg (by omega)
theorem z2o{l:List Gl}{g:Int}(h:(l.length:Int)<=g):gAt l g=none:=by
 unfold gAt
 rw[if_pos (by omega),List.getElem?_eq_none (by omega)]
theorem z2n{l:List Gl}{k:Nat}(h:k<l.length):gAt l (k:Int)=some (l.getD k Gl.none):=by
 unfold gAt
 rw[if_pos (by omega),Int.toNat_natCast,List.getElem?_eq_getElem h]
 simp[List.getD,h]
theorem zxq{l:List Gl}{g:Int}{x:Gl}(h:gAt l g=some x):0<=g/\g<(l.length:Int)/\x=l.getD g.toNat Gl.none:=by
 unfold gAt at h
 split at h
 . rename_i h0
   obtain⟨h1,h2⟩:=List.getElem?_eq_some_iff.1 h
   refine⟨h0,by omega,?_⟩
   rw[List.getD_eq_getElem?_getD,h,Option.getD_some]
 . cases h
def dqs(f:Int->Option Nat):List Pa->Option Nat
 | []=>some 0
 | p::ps=>(f p.g).bind fun d=>(dqs f ps).bind fun e=>some (max (d+1) e)
def dq(l:List Gl):Nat->Int->Option Nat
 | 0,g=>(gAt l g).bind fun x=>dqs (fun _=>none) x.o.ps
 | n+1,g=>(gAt l g).bind fun x=>dqs (dq l n) x.o.ps
theorem zer{f:Int->Option Nat}{p:Pa}{ps:List Pa}{d:Nat}:dqs f (p::ps)=some d ↔ ∃a b,f p.g=some a/\dqs f ps=some b/\d=max (a+1) b:=by
 rw[dqs]
 constructor
 . intro h
   cases h1:f p.g with
   | none=>rw[h1]at h;cases h
   | some a =>
    cases h2:dqs f ps with
    | none=>rw[h1,h2]at h;cases h
    | some b =>
     rw[h1,h2]at h;injection h with h
     exact⟨a,b,rfl,rfl,h.symm⟩
 . rintro ⟨a,b,h1,h2,rfl⟩
   rw[h1,h2]
   rfl
theorem zop{f f':Int->Option Nat}:∀ {ps:List Pa} {d:Nat},(∀p∈ps,∀e,f p.g=some e->f' p.g=some e)->dqs f ps=some d->dqs f' ps=some d:=by
 intro ps
 induction ps with
 | nil=>intro d _ h;exact h
 | cons p ps ih =>
  intro d hm h
  obtain⟨a,b,h1,h2,rfl⟩:=zer.1 h
  exact zer.2 ⟨a,b,hm p (by simp) a h1,ih (fun q hq=>hm q (by simp[hq])) h2,rfl⟩
theorem zt5{f:Int->Option Nat}:∀ {ps:List Pa} {d:Nat},dqs f ps=some d->∀p∈ps,∃e,f p.g=some e/\e<d:=by
 intro ps
 induction ps with
 | nil=>intro d _ p hp;cases hp
 | cons q ps ih =>
  intro d h p hp
  obtain⟨a,b,h1,h2,rfl⟩:=zer.1 h
  rcases List.mem_cons.1 hp with rfl|hp
  . exact⟨a,h1,by omega⟩
  . obtain⟨e,h3,h4⟩:=ih h2 p hp
    exact⟨e,h3,by omega⟩
theorem zzn{f:Int->Option Nat}{n:Nat}:∀ {ps:List Pa} {d:Nat},(∀p∈ps,∀e,f p.g=some e->e<=n)->dqs f ps=some d->d<=n+1:=by
 intro ps
 induction ps with
 | nil=>intro d _ h;injection h with h;omega
 | cons p ps ih =>
  intro d hm h
  obtain⟨a,b,h1,h2,rfl⟩:=zer.1 h
  have:=hm p (by simp) a h1
  have:=ih (fun q hq=>hm q (by simp[hq])) h2
  omega
theorem zoo{ps:List Pa}{d:Nat}(h:dqs (fun _=>none) ps=some d):ps=[]/\d=0:=by
 cases ps with
 | nil=>injection h with h;exact⟨rfl,h.symm⟩
 | cons p ps =>
  obtain⟨a,b,h1,_⟩:=zer.1 h
  cases h1
theorem zxz(f:Int->Option Nat)(p:Pa):∀ps:List Pa,dqs f (ps++[p])=(dqs f ps).bind fun e=>(f p.g).bind fun d=>some (max e (d+1)):=by
 intro ps
 induction ps with
 | nil =>
  rw[List.nil_append,dqs,dqs]
  cases f p.g with
  | none=>rfl
  | some d=>simp[dqs]
 | cons q ps ih =>
  rw[List.cons_append,dqs,ih,dqs]
  cases f q.g with
  | none=>rfl
  | some a =>
   cases dqs f ps with
   | none=>rfl
   | some b =>
    cases f p.g with
    | none=>rfl
    | some c =>
     simp only[Option.bind_some]
     congr 1
     omega
def dqf(l:List Gl):Nat->Int->Option Nat
 | 0=>fun _=>none
 | n+1=>dq l n
theorem dq_eq(l:List Gl)(n:Nat)(g:Int):dq l n g=(gAt l g).bind fun x=>dqs (dqf l n) x.o.ps:=by cases n <;> rfl
theorem zbg{l:List Gl}{n:Nat}{g:Int}{d:Nat}:dq l n g=some d ↔ ∃x,gAt l g=some x/\dqs (dqf l n) x.o.ps=some d:=by
 rw[dq_eq]
 constructor
 . intro h
   cases hx:gAt l g with
   | none=>rw[hx]at h;cases h
   | some x=>rw[hx]at h;exact⟨x,rfl,h⟩
 . rintro ⟨x,h1,h2⟩
   rw[h1]
   exact h2
theorem z29{l:List Gl}:∀ {n:Nat} {g:Int} {d:Nat},dq l n g=some d->dq l (n+1) g=some d:=by
 intro n
 induction n with
 | zero =>
  intro g d h
  obtain⟨x,h1,h2⟩:=zbg.1 h
  obtain⟨h3,rfl⟩:=zoo h2
  exact zbg.2 ⟨x,h1,by rw[h3];rfl⟩
 | succ n ih =>
  intro g d h
  obtain⟨x,h1,h2⟩:=zbg.1 h
  exact zbg.2 ⟨x,h1,zop (fun p _ e h=>ih h) h2⟩
theorem ze9{l:List Gl}{n m:Nat}{g:Int}{d:Nat}(h:dq l n g=some d)(hm:n<=m):dq l m g=some d:=by
 induction m with
 | zero=>rw[show n=0 by omega]at h;exact h
 | succ m ih =>
  by_cases e:n=m+1
  . rw[<-e];exact h
  . exact z29 (ih (by omega))
theorem dq_le{l:List Gl}:∀ {n:Nat} {g:Int} {d:Nat},dq l n g=some d->d<=n:=by
 intro n
 induction n with
 | zero =>
  intro g d h
  obtain⟨x,h1,h2⟩:=zbg.1 h
  rw[(zoo h2).2]
  exact Nat.le_refl _
 | succ n ih =>
  intro g d h
  obtain⟨x,h1,h2⟩:=zbg.1 h
  exact zzn (fun p _ e h=>ih h) h2
theorem zt6{l:List Gl}:∀ {d n:Nat} {g:Int},dq l n g=some d->dq l d g=some d:=by
 intro d
 induction d using Nat.strongRecOn with
 | ind d ih =>
  intro n g h
  obtain⟨x,h1,h2⟩:=zbg.1 h
  refine zbg.2 ⟨x,h1,zop (fun p hp e he=>?_) h2⟩
  obtain⟨e2,h3,h4⟩:=zt5 h2 p hp
  have hee:e=e2:=by rw[h3]at he;injection he with he;exact he.symm
  subst hee
  obtain⟨n',rfl⟩:∃m,n=m+1:=by
   cases n with
   | zero=>cases h3
   | succ m=>exact⟨m,rfl⟩
  obtain⟨d',rfl⟩:∃m,d=m+1:=⟨d-1,by omega⟩
  exact ze9 (ih e h4 h3) (by omega)
theorem z28{l:List Gl}{n m:Nat}{g:Int}{d e:Nat}(h:dq l n g=some d)(k:dq l m g=some e):d=e:=by
 have h1:=ze9 h (Nat.le_max_left n m)
 have h2:=ze9 k (Nat.le_max_right n m)
 rw[h1]at h2
 injection h2
theorem dq_at{l:List Gl}{n m:Nat}{g:Int}{d:Nat}(h:dq l n g=some d):dq l m g=if d<=m then some d else none:=by
 split
 . rename_i h1;exact ze9 (zt6 h) h1
 . rename_i h1
   cases hm:dq l m g with
   | none=>rfl
   | some e =>
    have h2:=z28 h hm
    have h3:=dq_le hm
    omega
theorem ze8{l:List Gl}{n:Nat}{g:Int}{d:Nat}{x:Gl}(h:dq l n g=some d)(hx:gAt l g=some x):∀p∈x.o.ps,∃e,dq l e p.g=some e/\e<d:=by
 obtain⟨y,h1,h2⟩:=zbg.1 h
 rw[hx]at h1;injection h1 with h1;subst h1
 intro p hp
 obtain⟨e,h3,h4⟩:=zt5 h2 p hp
 cases n with
 | zero=>cases h3
 | succ n=>exact⟨e,zt6 h3,h4⟩
def dI:Option Nat->Int
 | some d=>(d:Int)
 | none=>-1
def dpG(l:List Gl)(g:Int):Int:=dI (dq l 6 g)
def ptn(x:Gl):Nat:=x.o.cs.flatten.length
def sqs(f:Int->Nat):List Pa->Nat
 | []=>0
 | p::ps=>f p.g+sqs f ps
theorem zvp(f:Int->Nat)(p:Pa):∀ps:List Pa,sqs f (ps++[p])=sqs f ps+f p.g:=by
 intro ps
 induction ps with
 | nil=>simp[sqs]
 | cons q ps ih=>rw[List.cons_append,sqs,ih,sqs];omega
theorem zj6{f f':Int->Nat}:∀ {ps:List Pa},(∀p∈ps,f p.g=f' p.g)->sqs f ps=sqs f' ps:=by
 intro ps
 induction ps with
 | nil=>intro _;rfl
 | cons q ps ih=>intro h;rw[sqs,sqs,h q (by simp),ih (fun p hp=>h p (by simp[hp]))]
theorem z0l{f:Int->Nat}:∀ {ps:List Pa} {p:Pa},p∈ps->f p.g<=sqs f ps:=by
 intro ps
 induction ps with
 | nil=>intro p hp;cases hp
 | cons q ps ih =>
  intro p hp
  rw[sqs]
  rcases List.mem_cons.1 hp with rfl|hp
  . omega
  . have:=ih hp;omega
def sq(l:List Gl):Nat->Int->Nat
 | 0,g=>match gAt l g with | none=>0 | some x=>ptn x+sqs (fun _=>0) x.o.ps
 | n+1,g=>match gAt l g with | none=>0 | some x=>ptn x+sqs (sq l n) x.o.ps
def sqf(l:List Gl):Nat->Int->Nat
 | 0=>fun _=>0
 | n+1=>sq l n
theorem sq_at{l:List Gl}{n:Nat}{g:Int}{x:Gl}(h:gAt l g=some x):sq l n g=ptn x+sqs (sqf l n) x.o.ps:=by
 cases n with
 | zero=>rw[sq,h];rfl
 | succ n=>rw[sq,h];rfl
theorem zgl{l:List Gl}:∀ {d m:Nat} {g:Int},dq l d g=some d->d<=m->sq l m g=sq l d g:=by
 intro d
 induction d using Nat.strongRecOn with
 | ind d ih =>
  intro m g h hm
  obtain⟨x,h1,h2⟩:=zbg.1 h
  rw[sq_at h1,sq_at h1]
  congr 1
  refine zj6 (fun p hp=>?_)
  obtain⟨e,h3,h4⟩:=ze8 h h1 p hp
  obtain⟨d',rfl⟩:∃k,d=k+1:=⟨d-1,by omega⟩
  obtain⟨m',rfl⟩:∃k,m=k+1:=⟨m-1,by omega⟩
  show sq l m' p.g=sq l d' p.g
  have k1:sq l m' p.g=sq l e p.g:=ih e h4 h3 (by omega)
  have k2:sq l d' p.g=sq l e p.g:=ih e h4 h3 (by omega)
  rw[k1,k2]
def szG(l:List Gl)(g:Int):Nat:=match dq l 6 g with | none=>0 | some d=>min (sq l d g) 2001
theorem zm8{l:List Gl}{g:Int}{d:Nat}(h:dq l 6 g=some d):szG l g=min (sq l 6 g) 2001:=by
 unfold szG
 rw[h]
 show min (sq l d g) 2001=_
 rw[zgl (zt6 h) (dq_le h)]
def cap(n:Nat):Nat:=min n 2001
theorem z0m{l:List Gl}{n:Nat}{g:Int}{x:Gl}(hx:gAt l g=some x){p:Pa}(hp:p∈x.o.ps):sq l n p.g<=sq l (n+1) g:=by
 rw[sq_at (n:=n+1) hx]
 have:=z0l (f:=sq l n) hp
 show sq l n p.g<=ptn x+sqs (sq l n) x.o.ps
 omega
def Gi(base:Nat)(w:World)(v:Value)(l:List Int):Prop:=Gw El.int 3 base (fun _=>False) w v l
theorem Gi.nil(base:Nat)(w:World):Gi base w (.slice none 0 0) []:=Gw.nil _ _ _ _ _
theorem Gi.lo{base:Nat}{w:World}{v:Value}{l:List Int}(h:Gi base w v l){g:Nat}(hg:v.ownBlock=some g):base<=g/\g<w.heap.size:=Gw.lo h hg
theorem Gr.ri{S:Nat->Prop}{w:World}{a:OA}{cap:Nat}{l:List Int}(h:Gr El.int S w a cap l):Ri w a cap l:=by
 have hz:∀i,i<l.length->I64 (l.getD i 0):=fun i hi=>by
  obtain⟨b,off,vs,e,hb,hr,hc⟩:=h.2.2.2 i hi
  exact hr.2
 refine⟨fun z hz1=>?_,h.1,h.2.1,?_⟩
 . obtain⟨i,hi,e⟩:=List.getElem_of_mem hz1
   have:=hz i hi
   rw[List.getD_eq_getElem?_getD,List.getElem?_eq_getElem hi,Option.getD_some,e]at this
   exact this
 . by_cases h0:l=[]
   . exact .inl h0
   . obtain⟨b,off,e,hb⟩:=h.blk h0
     refine .inr ⟨b,off,e,hb,fun i hi=>?_⟩
     obtain⟨b',off',vs,e',hb',hr,hc⟩:=h.2.2.2 i hi
     rw[e]at e'
     cases e'
     have:=hc 0 Nat.one_pos
     rw[hr.1,show i*El.int.sz=i from Nat.mul_one i]at this
     exact this
theorem Gi.slice{base:Nat}{w:World}{v:Value}{l:List Int}(h:Gi base w v l):∃a cap,v=.slice a l.length cap/\Ri w a cap l/\∀b o,a=some ⟨b,o,none⟩->base<=b/\b<w.heap.size:=by
 obtain⟨a,cap,e,hg,hb⟩:=Gw.slice h
 exact⟨a,cap,e,hg.ri,hb⟩
theorem Gi.stay{base:Nat}{w w':World}{v:Value}{l:List Int}(h:Gi base w v l)(hs:w.heap.size<=w'.heap.size)(ho:∀k,v.ownBlock=some k->w'.heap[k]?=w.heap[k]?):Gi base w' v l :=
 Gw.stay h hs (fun k hk=>hk.elim) ho
theorem Gi.below{base:Nat}{w w':World}{v:Value}{l:List Int}(h:Gi base w v l)(hb:Below w.heap.size w w'):Gi base w' v l:=Gw.below h hb
theorem Gi.grown{base:Nat}{w w':World}{v:Value}{l:List Int}{r:Option Nat}(h:Gi base w v l)(hg:w.grownBy w' r)(hr:∀k,v.ownBlock=some k->r≠some k):Gi base w' v l :=
 h.stay hg.size (fun k hk=>hg.block k (h.lo hk).2 (fun e=>hr k hk e.symm))
theorem Gi.ne{base:Nat}{w:World}{v:Value}{l:List Int}{t:TypeId}{g:Nat}{cs:List Value}(h:Gi base w v l)(hb:Bk t w g cs)(ht:t≠3):v.ownBlock≠some g:=by
 intro e
 obtain⟨cur,k⟩:=Gw.ty h e
 rw[hb]at k
 simp at k
 exact ht k.2
theorem Gi.set{base:Nat}{w:World}{v:Value}{l:List Int}{t:TypeId}{g:Nat}{cs:List Value}(h:Gi base w v l)(hb:Bk t w g cs)(ht:t≠3)(j:Nat)(z:Value):Gi base (w.setCell ⟨g,j,none⟩ z) v l :=
 h.stay (by simp[World.setCell]) (fun k hk=>Below.heap_setCell _ _ _ _ (fun e=>h.ne hb ht (by rw[hk,e])))
theorem zaf{w:World}{ops:Array Oper}{rest:List Oper}{o:Oper}{a:Act}{Q:Exit->Act->World->Prop}
    (hgd:o.guard=none) (s x:Operand) (ho:o.op=.call { callee:=.builtin .append,args:=#[s,x],argTypes:=#[29,29] })
    (base:Nat) (v:Value) (l:List Int) (hs:a.eval s=v) (hown:Gi base w v l) (g:Nat) (z:Int) (hx:a.eval x=.slice (some ⟨g,0,none⟩) 1 1)
    (hg:g<w.heap.size) (c0:w.cell? ⟨g,0,none⟩=some (.int .i64 z)) (hz:I64 z) (hlen:l.length+1<=1000000) (hbase:base<=w.heap.size)
    (h:∀v' w',Gi base w' v' (l++[z])->w.grownBy w' v.ownBlock->(v'.ownBlock=v.ownBlock\/v'.ownBlock=some w.heap.size)->wpList Tryz.prog ops Q rest (a.put o.dst v') w'):wpList Tryz.prog ops Q (o::rest) a w:=by
 refine zad 29 3 Tryz.underlying29 zcc rfl Nat.one_pos (by decide) hgd s x ho base (fun _=>False) v l hs hown (some ⟨g,0,none⟩) 1 1 [z] rfl hx ?_ hlen hbase (fun v' w' k1 k2 k3=>h v' w' k1 k2 k3)
 refine Gr.one (vs:=[.int .i64 z]) ⟨rfl,hz⟩ hg (fun j hj=>?_)
 obtain rfl:j=0:=by simp[El.int,El.num]at hj;exact hj
 exact c0
def TeE:El Te:=(El.int.cat (El.int.cat El.int)).via (fun t=>(t.st,t.pk,t.en)) Te.none
def teV(t:Te):List Value:=[.int .i64 t.st,.int .i64 t.pk,.int .i64 t.en]
theorem zhg{S:Nat->Prop}{w:World}{vs:List Value}{p:Te}:TeE.rep S w vs p↔vs=teV p/\Tw p:=by
 constructor
 . rintro ⟨us,ts,rfl,⟨rfl,h1⟩,us2,ts2,rfl,⟨rfl,h2⟩,⟨rfl,h3⟩⟩
   exact⟨rfl,h1,h2,h3⟩
 . rintro ⟨rfl,h1,h2,h3⟩
   exact⟨[_],_,rfl,⟨rfl,h1⟩,[_],[_],rfl,⟨rfl,h2⟩,⟨rfl,h3⟩⟩
theorem Gr.tz{S:Nat->Prop}{w:World}{a:OA}{cap:Nat}{l:List Te}(h:Gr TeE S w a cap l):Tz w a cap l:=by
 refine⟨h.1,h.2.1,fun t ht=>?_,h.2.2.1,fun i hi=>?_⟩
 . obtain⟨i,hi,e⟩:=List.getElem_of_mem ht
   obtain⟨b,off,vs,e1,hb,hr,hc⟩:=h.2.2.2 i hi
   have h2:=(zhg.1 hr).2
   rw[List.getD_eq_getElem?_getD,List.getElem?_eq_getElem hi,Option.getD_some,e]at h2
   exact h2
 . obtain⟨b,off,vs,e1,hb,hr,hc⟩:=h.2.2.2 i hi
   obtain⟨rfl,h2⟩:=zhg.1 hr
   exact⟨b,off,e1,hb,hc 0 (by decide),hc 1 (by decide),hc 2 (by decide)⟩
def TuE:El Tu:=(TeE.row.cat (El.bool.cat (El.int.row.cat (El.int.row.cat El.int.row)))).via (fun t=>(t.rg,t.al,t.pts,t.dx,t.dy)) Tu.none
def TuC(S:Nat->Prop)(w:World)(ra:OA)(rc:Nat)(pa:OA)(pc:Nat)(xa:OA)(xc:Nat)(ya:OA)(yc:Nat)(t:Tu):Prop :=
 TeE.row.rep S w [.slice ra t.rg.length rc] t.rg/\El.int.row.rep S w [.slice pa t.pts.length pc] t.pts/\El.int.row.rep S w [.slice xa t.dx.length xc] t.dx/\El.int.row.rep S w [.slice ya t.dy.length yc] t.dy
theorem zux{S:Nat->Prop}{w:World}{vs:List Value}{t:Tu}:TuE.rep S w vs t ↔ ∃ra rc pa pc xa xc ya yc,vs=[.slice ra t.rg.length rc,.bool t.al,.slice pa t.pts.length pc,.slice xa t.dx.length xc,.slice ya t.dy.length yc]/\TuC S w ra rc pa pc xa xc ya yc t:=by
 constructor
 . rintro ⟨us,ts,rfl,h1,us2,ts2,rfl,h2,us3,ts3,rfl,h3,us4,ts4,rfl,h4,h5⟩
   have h2:us2=[.bool t.al]:=h2
   subst h2
   have r1:=h1
   obtain⟨ra,rc,e1,_⟩:=h1
   have r3:=h3
   obtain⟨pa,pc,e3,_⟩:=h3
   have r4:=h4
   obtain⟨xa,xc,e4,_⟩:=h4
   have r5:=h5
   obtain⟨ya,yc,e5,_⟩:=h5;subst e1 e3 e4 e5
   exact⟨ra,rc,pa,pc,xa,xc,ya,yc,rfl,r1,r3,r4,r5⟩
 . rintro ⟨ra,rc,pa,pc,xa,xc,ya,yc,rfl,h1,h2,h3,h4⟩
   exact⟨_,_,rfl,h1,[.bool t.al],_,rfl,rfl,_,_,rfl,h2,_,_,rfl,h3,h4⟩
theorem zbq{α:Type}{E:El α}{S:Nat->Prop}{w:World}{a:OA}{c:Nat}{l:List α}(h:E.row.rep S w [.slice a l.length c] l):Gr E S w a c l/\l.length<=140737488351232:=by
 obtain⟨a',c',e,_,h1,h2⟩:=h;injection e with e;injection e with e1 e2 e3;subst e1 e3
 exact⟨h1,h2⟩
theorem TuC.tz{S:Nat->Prop}{w:World}{ra:OA}{rc:Nat}{pa:OA}{pc:Nat}{xa:OA}{xc:Nat}{ya:OA}{yc:Nat}{t:Tu}(h:TuC S w ra rc pa pc xa xc ya yc t):Tz w ra rc t.rg:=(zbq h.1).1.tz
theorem TuC.pts{S:Nat->Prop}{w:World}{ra:OA}{rc:Nat}{pa:OA}{pc:Nat}{xa:OA}{xc:Nat}{ya:OA}{yc:Nat}{t:Tu}(h:TuC S w ra rc pa pc xa xc ya yc t):Ri w pa pc t.pts:=(zbq h.2.1).1.ri
theorem TuC.dx{S:Nat->Prop}{w:World}{ra:OA}{rc:Nat}{pa:OA}{pc:Nat}{xa:OA}{xc:Nat}{ya:OA}{yc:Nat}{t:Tu}(h:TuC S w ra rc pa pc xa xc ya yc t):Ri w xa xc t.dx:=(zbq h.2.2.1).1.ri
theorem TuC.dy{S:Nat->Prop}{w:World}{ra:OA}{rc:Nat}{pa:OA}{pc:Nat}{xa:OA}{xc:Nat}{ya:OA}{yc:Nat}{t:Tu}(h:TuC S w ra rc pa pc xa xc ya yc t):Ri w ya yc t.dy:=(zbq h.2.2.2).1.ri
theorem TuC.below{S:Nat->Prop}{w w':World}{ra:OA}{rc:Nat}{pa:OA}{pc:Nat}{xa:OA}{xc:Nat}{ya:OA}{yc:Nat}{t:Tu}(h:TuC S w ra rc pa pc xa xc ya yc t)(hb:Below w.heap.size w w'):TuC S w' ra rc pa pc xa xc ya yc t :=
 ⟨TeE.row.stay h.1 hb.size (fun k hk hl=>⟨hk,hb.block k hl⟩),El.int.row.stay h.2.1 hb.size (fun k hk hl=>⟨hk,hb.block k hl⟩),El.int.row.stay h.2.2.1 hb.size (fun k hk hl=>⟨hk,hb.block k hl⟩),El.int.row.stay h.2.2.2 hb.size (fun k hk hl=>⟨hk,hb.block k hl⟩)⟩
theorem TuC.len{S:Nat->Prop}{w:World}{ra:OA}{rc:Nat}{pa:OA}{pc:Nat}{xa:OA}{xc:Nat}{ya:OA}{yc:Nat}{t:Tu}(h:TuC S w ra rc pa pc xa xc ya yc t):t.rg.length<=140737488351232/\t.pts.length<=140737488351232/\t.dx.length<=140737488351232/\t.dy.length<=140737488351232:=⟨(zbq h.1).2,(zbq h.2.1).2,(zbq h.2.2.1).2,(zbq h.2.2.2).2⟩
theorem Gr.tu{S:Nat->Prop}{w wr:World}{a:OA}{cap:Nat}{l:List Tu}(h:Gr TuE S w a cap l)(hb:Below w.heap.size w wr)(k:Nat)(hk:k<l.length) :
 ∃b off ra rc pa pc xa xc ya yc,a=some ⟨b,off,none⟩/\b<w.heap.size/\TuC S wr ra rc pa pc xa xc ya yc (l.getD k Tu.none) /\
     wr.cell? ⟨b,off+k*5,none⟩=some (.slice ra (l.getD k Tu.none).rg.length rc)/\wr.cell? ⟨b,off+k*5+1,none⟩=some (.bool (l.getD k Tu.none).al)/\wr.cell? ⟨b,off+k*5+2,none⟩=some (.slice pa (l.getD k Tu.none).pts.length pc)/\wr.cell? ⟨b,off+k*5+3,none⟩=some (.slice xa (l.getD k Tu.none).dx.length xc)/\wr.cell? ⟨b,off+k*5+4,none⟩=some (.slice ya (l.getD k Tu.none).dy.length yc):=by
 obtain⟨b,off,vs,e,h1,hr,hc⟩:=h.at hb k hk
 obtain⟨ra,rc,pa,pc,xa,xc,ya,yc,rfl,ht⟩:=zux.1 hr
 exact⟨b,off,ra,rc,pa,pc,xa,xc,ya,yc,e,h1,ht,hc 0 (by decide),hc 1 (by decide),hc 2 (by decide),hc 3 (by decide),hc 4 (by decide)⟩
theorem Bk.five{t:TypeId}{w:World}{g:Nat}{x y z u v:Value}(h:Bk t w g [x,y,z,u,v]):w.cell? ⟨g,0,none⟩=some x/\w.cell? ⟨g,1,none⟩=some y/\w.cell? ⟨g,2,none⟩=some z/\w.cell? ⟨g,3,none⟩=some u/\w.cell? ⟨g,4,none⟩=some v/\w.frozen? ⟨g,0,none⟩=false/\w.frozen? ⟨g,1,none⟩=false/\w.frozen? ⟨g,2,none⟩=false/\w.frozen? ⟨g,3,none⟩=false/\w.frozen? ⟨g,4,none⟩=false :=
 ⟨h.cell 0 (by simp),h.cell 1 (by simp),h.cell 2 (by simp),h.cell 3 (by simp),h.cell 4 (by simp),h.fz 0,h.fz 1,h.fz 2,h.fz 3,h.fz 4⟩
