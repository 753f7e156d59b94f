import Derived.Test.YtkmcodofnckdmaaGreatZK17
set_option maxHeartbeats 4000000
set_option maxRecDepth 100000
set_option linter.unusedSimpArgs false
set_option linter.unusedVariables false
namespace Go.Proofs.YtkmcodofnckdmaaGreat
open Go.RowKit Go.Maps
def spL(f:Pn->Int)(o:Ol)(pts told dx dy:LI):List Rat:=if spB o pts dx dy=true then spQ f o pts told else []
def spE(o:Ol)(pts dx dy:LI):Int:=if spB o pts dx dy=true then 0 else 1
theorem zyp{f:Pn->Int}{o:Ol}{pts told dx dy:LI}(h:spB o pts dx dy=false):spL f o pts told dx dy=[]:=by unfold spL;rw[h];rfl
theorem z3z{o:Ol}{pts dx dy:LI}(h:spB o pts dx dy=false):spE o pts dx dy=1:=by unfold spE;rw[h];rfl
theorem zic{f:Pn->Int}{o:Ol}{pts told dx dy:LI}(h:spB o pts dx dy=true):spL f o pts told dx dy=spQ f o pts told:=if_pos h
theorem zrd{o:Ol}{pts dx dy:LI}(h:spB o pts dx dy=true):spE o pts dx dy=0:=if_pos h
theorem spB_1{o:Ol}{pts dx dy:LI}(h:foB o=false):spB o pts dx dy=false:=by unfold spB;rw[h];rfl
theorem spB_2{o:Ol}{pts dx dy:LI}(h:risB pts (cntO o)=false):spB o pts dx dy=false:=by unfold spB;rw[h];simp
theorem spB_3{o:Ol}{pts dx dy:LI}(h:¬dx.length=pts.length):spB o pts dx dy=false:=by unfold spB;rw[decide_eq_false h];simp
theorem spB_4{o:Ol}{pts dx dy:LI}(h:¬dy.length=pts.length):spB o pts dx dy=false:=by unfold spB;rw[decide_eq_false h];simp
theorem spB_5{o:Ol}{pts dx dy:LI}(h:dx.all fdB=false):spB o pts dx dy=false:=by unfold spB;rw[h];simp
theorem spB_6{o:Ol}{pts dx dy:LI}(h:dy.all fdB=false):spB o pts dx dy=false:=by unfold spB;rw[h];simp
theorem zk3(S:Nat->Prop)(a:OA)(ca:Nat)(b:OA)(cb:Nat)(o:Ol)(pa:OA)(pc:Nat)(pts:LI)(xa:OA)(xc:Nat)(dx:LI)(ya:OA)(yc:Nat)(dy:LI)(w:World)(hc:Gr PnE.row S w a ca o.cs)(hp:Gr PaE S w b cb o.ps)(hP:Ri w pa pc pts)(hX:Ri w xa xc dx)(hY:Ri w ya yc dy)(hl:o.cs.flatten.length<=100000)(hl1:o.cs.length<=100000)(hl2:o.ps.length<=100000) :
 Calls Tryz.prog 179 #[.agg #[.slice a o.cs.length ca,.slice b o.ps.length cb],.slice pa pts.length pc,.slice xa dx.length xc,.slice ya dy.length yc] w fun e w'=>∃a1 c1 a2 c2,e=.returned (.tuple #[.slice a1 (spL Pn.x o pts dx dx dy).length c1,.slice a2 (spL Pn.y o pts dy dx dy).length c2,.int .i64 (spE o pts dx dy)])/\Rg w.heap.size w' a1 c1 7 (spL Pn.x o pts dx dx dy)/\Rg w.heap.size w' a2 c2 7 (spL Pn.y o pts dy dx dy)/\Below w.heap.size w w':=by
 have b1:=hP.lenB
 have b2:=hX.lenB
 have b3:=hY.lenB
 obtain⟨W,hW,X1,hbW⟩:∃W,W=w.alloc (.cells #[.slice a o.cs.length ca,.slice b o.ps.length cb] 57)/\Bk 57 W w.heap.size [.slice a o.cs.length ca,.slice b o.ps.length cb]/\Below w.heap.size w W:=⟨_,rfl,Bk.new _ _ _,bl1 _⟩
 have hcn:cntO o<=200000:=by unfold cntO;omega
 replace hc:=hc.below hbW;replace hp:=hp.below hbW;replace hP:=hP.below hbW;replace hX:=hX.below hbW;replace hY:=hY.below hbW;obtain⟨p0,p1,_⟩:=X1.two
 have HNO:Hid (spB o pts dx dy=false->∀W',Below w.heap.size w W'->∃a1 c1 a2 c2,(Ending.returned (.tuple #[.slice none 0 0,.slice none 0 0,.int .i64 1]))=.returned (.tuple #[.slice a1 (spL Pn.x o pts dx dx dy).length c1,.slice a2 (spL Pn.y o pts dy dx dy).length c2,.int .i64 (spE o pts dx dy)])/\Rg w.heap.size W' a1 c1 7 (spL Pn.x o pts dx dx dy)/\Rg w.heap.size W' a2 c2 7 (spL Pn.y o pts dy dx dy)/\Below w.heap.size w W'):=fun h W' hb=>by
  rw[zyp h,zyp h,z3z h]
  exact⟨none,0,none,0,rfl,Rg.nil _ _ _,Rg.nil _ _ _,hb⟩
 go_enter Tryz.func179,Tryz.ntmps179
 go_upto_region 1 with fail
 rw[<-hW];clear hW
 go_wp2_with fail
 refine(zfb S a ca b cb o _ hc hp hl hl2).mono ?_
 rintro e m1 ⟨rfl,hb1⟩;replace hc:=hc.below hb1;replace hp:=hp.below hb1;replace hP:=hP.below hb1;replace hX:=hX.below hb1;replace hY:=hY.below hb1;replace X1:=X1.below hb1
 replace hbW:=hbW.trans (hb1.mono hbW.size)
 clear hb1 p0 p1;obtain⟨p0,p1,_⟩:=X1.two
 have hf1:=zfa S a ca b cb o m1 hc hp
 cases hfo:foB o with
 | false =>
  have hno:=HNO.out (spB_1 hfo)
  rw[hfo]at hf1;clear hfo
  go_wp2_with fail
  refine hf1.mono ?_
  rintro e m2 ⟨rfl,hb1⟩
  have zau:=hno m2 (hbW.trans (hb1.mono hbW.size))
  clear hb1 hf1 hno;go_wp2
  exact bodyPost_ret (v:=.tuple #[.slice none 0 0,.slice none 0 0,.int .i64 1]) (by simp[results,Tryz.results179,go_sem]) rfl zau
 | true =>
 have hFO:=za1.1 hfo
 rw[hfo]at hf1
 go_wp2_with fail
 refine hf1.mono ?_
 rintro e m2 ⟨rfl,hb1⟩;replace hc:=hc.below hb1;replace hp:=hp.below hb1;replace hP:=hP.below hb1;replace hX:=hX.below hb1;replace hY:=hY.below hb1;replace X1:=X1.below hb1
 replace hbW:=hbW.trans (hb1.mono hbW.size)
 clear hb1 p0 p1;obtain⟨p0,p1,_⟩:=X1.two;clear hf1
 have hr1:=zpg pa pc pts (cntO o) m2 hP (by omega)
 cases hri:risB pts (cntO o) with
 | false =>
  have zau:=HNO.out (spB_2 hri) m2 hbW
  rw[hri]at hr1;clear hri
  go_wp2_with fail
  refine hr1.mono ?_
  rintro e m3 ⟨rfl,rfl⟩;clear hr1;go_wp2
  exact bodyPost_ret (v:=.tuple #[.slice none 0 0,.slice none 0 0,.int .i64 1]) (by simp[results,Tryz.results179,go_sem]) rfl zau
 | true =>
 rw[hri]at hr1
 go_wp2_with fail
 refine hr1.mono ?_
 rintro e m3 ⟨rfl,rfl⟩;clear hr1
 by_cases hx:dx.length=pts.length
 rotate_left
 . have zau:=HNO.out (spB_3 hx) m2 hbW
   have g2:((dx.length:Int) != (pts.length:Int))=true:=by simp;omega
   go_wp2
   exact bodyPost_ret (v:=.tuple #[.slice none 0 0,.slice none 0 0,.int .i64 1]) (by simp[results,Tryz.results179,go_sem]) rfl zau
 by_cases hy:dy.length=pts.length
 rotate_left
 . have zau:=HNO.out (spB_4 hy) m2 hbW
   have g2:((dy.length:Int) != (pts.length:Int))=true:=by simp;omega
   rw[hx];go_wp2
   exact bodyPost_ret (v:=.tuple #[.slice none 0 0,.slice none 0 0,.int .i64 1]) (by simp[results,Tryz.results179,go_sem]) rfl zau
 have hq1:=zbr xa xc dx m2 hX
 have hq2:=zbr ya yc dy m2 hY
 cases hfx:dx.all fdB with
 | false =>
  have zau:=HNO.out (spB_5 hfx) m2 hbW
  rw[hfx]at hq1;rw[hx]at hq1 ⊢;rw[hy];clear hfx
  go_wp2_with fail
  refine hq1.mono ?_
  rintro e m3 ⟨rfl,rfl⟩;go_wp2
  exact bodyPost_ret (v:=.tuple #[.slice none 0 0,.slice none 0 0,.int .i64 1]) (by simp[results,Tryz.results179,go_sem]) rfl zau
 | true =>
 cases hfy:dy.all fdB with
 | false =>
  have zau:=HNO.out (spB_6 hfy) m2 hbW
  rw[hfx]at hq1;rw[hfy]at hq2;rw[hx]at hq1 ⊢;rw[hy]at hq2 ⊢;clear hfx hfy
  go_wp2_with fail
  refine hq1.mono ?_
  rintro e m3 ⟨rfl,rfl⟩
  go_wp2_with fail
  refine hq2.mono ?_
  rintro e m3 ⟨rfl,rfl⟩;go_wp2
  exact bodyPost_ret (v:=.tuple #[.slice none 0 0,.slice none 0 0,.int .i64 1]) (by simp[results,Tryz.results179,go_sem]) rfl zau
 | true =>
 have hsp:spB o pts dx dy=true:=by unfold spB;rw[hfo,hri,decide_eq_true hx,decide_eq_true hy,hfx,hfy];rfl
 rw[hfx]at hq1;rw[hfy]at hq2
 have HE1:Hid (spL Pn.x o pts dx dx dy=spQ Pn.x o pts dx):=zic hsp
 have HE2:Hid (spL Pn.y o pts dy dx dy=spQ Pn.y o pts dy):=zic hsp
 have HE3:Hid (spE o pts dx dy=0):=zrd hsp
 have hcs:cntO o<=86:=by have h1:=hFO.2.2.1;have h2:=hFO.2.2.2.2.1;unfold cntO;omega
 have hla:=fun U (h1:Ri U pa pc pts) (h2:Ri U xa xc dx)=>zgv pa pc pts xa xc dx (cntO o) U h1 h2 hx hri (by omega)
 have hlb:=fun U (h1:Ri U pa pc pts) (h2:Ri U ya yc dy)=>zgv pa pc pts ya yc dy (cntO o) U h1 h2 hy hri (by omega)
 have HRI:Hid (∀k,k<pts.length->risP pts (cntO o) k):=zcu.1 hri
 simp only[za8]at hla hlb
 rw[hx]at hq1 hla ⊢;rw[hy]at hq2 hlb ⊢;clear hfx hfy hfo hri hsp HNO
 go_wp2_with fail
 refine hq1.mono ?_
 rintro e m3 ⟨rfl,rfl⟩
 go_wp2_with fail
 refine hq2.mono ?_
 rintro e m3 ⟨rfl,rfl⟩;clear hq1 hq2
 go_wp2_with fail
 refine(hla _ hP hX).mono ?_
 rintro e m3 ⟨qa,qc,rfl,hR1,hb1⟩;replace hc:=hc.below hb1;replace hp:=hp.below hb1;replace hP:=hP.below hb1;replace hX:=hX.below hb1;replace hY:=hY.below hb1;replace X1:=X1.below hb1
 replace hbW:=hbW.trans (hb1.mono hbW.size)
 clear hb1 p0 p1;obtain⟨p0,p1,_⟩:=X1.two;clear hla
 go_wp2_with fail
 refine(hlb _ hP hY).mono ?_
 rintro e m4 ⟨ra,rc,rfl,hR2,hb1⟩;replace hc:=hc.below hb1;replace hp:=hp.below hb1;replace hP:=hP.below hb1;replace hX:=hX.below hb1;replace hY:=hY.below hb1;replace X1:=X1.below hb1;replace hR1:=hR1.below hb1
 replace hbW:=hbW.trans (hb1.mono hbW.size)
 clear hb1 p0 p1;obtain⟨p0,p1,_⟩:=X1.two;clear hlb
 by_cases hps:0<o.ps.length
 . have gp:(o.ps.length:Int) > 0:=by omega
   have HQ1:Hid (spQ Pn.x o pts dx=(layI pts dx (cntO o) pts.length).map (fun z:Int=>(z:Rat))):=zgm hps
   have HQ2:Hid (spQ Pn.y o pts dy=(layI pts dy (cntO o) pts.length).map (fun z:Int=>(z:Rat))):=zgm hps
   have hw1:=fun U (h:Ri U qa qc (layI pts dx (cntO o) pts.length))=>zhn qa qc _ U h (by rw[za8];omega)
   have hw2:=fun U (h:Ri U ra rc (layI pts dy (cntO o) pts.length))=>zhn ra rc _ U h (by rw[za8];omega)
   rw[<-HQ1.out,<-HE1.out,za8]at hw1;rw[<-HQ2.out,<-HE2.out,za8]at hw2
   go_wp2_with fail
   refine(hw1 _ hR1).mono ?_
   rintro e m5 ⟨s1,t1,rfl,hZ1,hb1⟩
   replace hZ1:=hZ1.lower hbW.size
   replace hR2:=hR2.below hb1
   replace hbW:=hbW.trans (hb1.mono hbW.size)
   clear hb1 hw1
   go_wp2_with fail
   refine(hw2 _ hR2).mono ?_
   rintro e m6 ⟨s2,t2,rfl,hZ2,hb1⟩
   replace hZ2:=hZ2.lower hbW.size
   replace hZ1:=hZ1.below hb1
   replace hbW:=hbW.trans (hb1.mono hbW.size)
   clear hb1 hw2;go_wp2
   exact bodyPost_ret (v:=.tuple #[.slice s1 (spL Pn.x o pts dx dx dy).length t1,.slice s2 (spL Pn.y o pts dy dx dy).length t2,.int .i64 0]) (by simp[results,Tryz.results179,go_sem]) rfl ⟨s1,t1,s2,t2,by rw[HE3.out],hZ1,hZ2,hbW⟩
 . have gp:¬(o.ps.length:Int) > 0:=by omega
   have hco:cntO o=o.cs.flatten.length:=by unfold cntO;omega
   have HQ1:Hid (spQ Pn.x o pts dx=conQ Pn.x o.cs (layI pts dx (cntO o) pts.length) (tchI pts (cntO o) pts.length) o.cs.length):=zib hps
   have HQ2:Hid (spQ Pn.y o pts dy=conQ Pn.y o.cs (layI pts dy (cntO o) pts.length) (tchI pts (cntO o) pts.length) o.cs.length):=zib hps
   obtain⟨n,hnn⟩:∃n,cntO o=n:=⟨_,rfl⟩
   rw[hnn]at HQ1 HQ2 HRI hR1 hR2 hco hcs hcn ⊢
   have HX1:Hid (Bk 57 m4 w.heap.size [.slice a o.cs.length ca,.slice b o.ps.length cb]):=X1
   have HP:Hid (Ri m4 pa pc pts):=hP
   have HC:Hid (Gr PnE.row S m4 a ca o.cs):=hc
   have HR1:Hid (Ri m4 qa qc (layI pts dx n pts.length)):=hR1
   have HR2:Hid (Ri m4 ra rc (layI pts dy n pts.length)):=hR2
   have HBW:Hid (Below w.heap.size w m4):=hbW
   have HFO:Hid ((∀c∈o.cs,0<c.length)/\o.cs.flatten.length<=80):=⟨hFO.2.2.2.1,hFO.2.2.2.2.1⟩
   have HCO:Hid (n=o.cs.flatten.length):=hco
   clear hnn hco hP hc hR1 hR2 hbW hX hY hp hFO hx hy
   obtain⟨i0,hi0,hz0,hz1,hz2⟩:=info_parts zpn
   have hmk:=run_make (P:=Tryz.prog) m4 238 4 i0 (.bool false) Tryz.underlying238 hi0 hz0 .i64 .i64 (n:Int) (n:Int) (by omega) (by omega) (by rw[hz2];omega) (by omega)
   rw[hz1]at hmk
   simp only[Int.toNat_natCast,Nat.mul_one]at hmk
   have hI0:Gw El.bool 4 m4.heap.size (fun _=>False) (m4.alloc (.cells (madeCells #[.bool false] n) 4)) (.slice (some ⟨m4.heap.size,0,none⟩) n n) (tchI pts n 0):=Gw.mk1 m4 n false (.bool false) rfl rfl (fun S w=>rfl) (by omega)
   have hB0:Below m4.heap.size m4 (m4.alloc (.cells (madeCells #[.bool false] n) 4)):=bl1 _
   replace hmk:(Instr.makeSlice 238 (.int .i64 (n:Int)) (.int .i64 (n:Int))).run Tryz.prog m4=.ok (.slice (some ⟨m4.heap.size,0,none⟩) n n) (m4.alloc (.cells (madeCells #[.bool false] n) 4)):=hmk
   generalize m4.alloc (.cells (madeCells #[.bool false] n) 4)=w1 at *
   clear hi0 hz0 hz1 hz2 X1;go_wp2;clear p0 p1
   go_loopw [73] (fun i wr=>∃k:Nat,k<=pts.length/\i=.int .i64 k/\Gw El.bool 4 m4.heap.size (fun _=>False) wr (.slice (some ⟨m4.heap.size,0,none⟩) n n) (tchI pts n k)/\Below m4.heap.size m4 wr) (fun i _=>pts.length-(intOf i).toNat)
   case atStart=>exact⟨0,Nat.zero_le _,rfl,hI0,hB0⟩
   case round =>
    clear hI0 hB0 hmk;obtain⟨k,hk,rfl,hG,hB⟩:=hrel
    by_cases hkn:k<pts.length
    . obtain⟨b0,off,ea,hb,d0⟩:=HP.out.at hB k hkn
      subst ea
      have hpn:=zct k (fun j hj=>HRI.out j (by omega))
      have HS:Hid (tchI pts n (k+1)=(tchI pts n k).set (pts.getD k 0).toNat true):=rfl
      obtain⟨p,hpp⟩:∃p:Nat,pts.getD k 0=(p:Int):=⟨(pts.getD k 0).toNat,by omega⟩
      rw[hpp]at d0 hpn HS;rw[Int.toNat_natCast]at HS
      have hne:tchI pts n k≠[]:=fun e=>by have:=zcs pts n k;rw[e]at this;simp at this;omega
      obtain⟨g,cap,e5,h5,h6,h7,hfz,hrd,zkq⟩:=hG.own hne
      injection e5 with e5 e6 e7;injection e5 with e5;injection e5 with e5;subst e5
      have hfp:=hfz p
      have hsw:=zkq p 0 (.bool true) true (by rw[zcs];omega) Nat.one_pos (fun S' vs hv=>by rw[show vs=_ from hv];rfl)
      rw[show p*El.bool.sz+0=p from Nat.mul_one p,<-HS.out]at hsw
      obtain⟨vs,hrx,hcx⟩:=hrd p (by rw[zcs];omega)
      have hc0:=hcx 0 Nat.one_pos
      rw[show vs=_ from hrx,show p*El.bool.sz+0=p from Nat.mul_one p]at hc0
      have hBs:Below m4.heap.size m4 (wr.setCell ⟨m4.heap.size,p,none⟩ (.bool true)):=hB.setCell (p:=⟨m4.heap.size,p,none⟩) (Nat.le_refl _) _
      have i1:(0:Int)<=(k:Int):=by omega
      have i2:(k:Int)<(pts.length:Int):=by omega
      have i3:(0:Int)<=(p:Int):=by omega
      have i4:(p:Int)<(n:Int):=by omega
      have HSW:Hid (Gw El.bool 4 m4.heap.size (fun _=>False) (wr.setCell ⟨m4.heap.size,p,none⟩ (.bool true)) (.slice (some ⟨m4.heap.size,0,none⟩) n n) (tchI pts n (k+1))):=hsw
      have HBS:Hid (Below m4.heap.size m4 (wr.setCell ⟨m4.heap.size,p,none⟩ (.bool true))):=hBs
      clear zkq hfz hrd hsw hBs hpp hcx hrx hG hne e6 e7 h7;go_wp2
      go_roundw
      case rel=>exact⟨k+1,by omega,by go_num,HSW.out,HBS.out⟩
      case measure=>simp[intOf];omega
    . obtain rfl:k=pts.length:=by omega
      have g1:¬(pts.length:Int)<(pts.length:Int):=by omega
      obtain⟨a9,c9,e9,hg9,-⟩:=hG.slice
      have HLL:Hid ((tchI pts n pts.length).length=n):=zcs _ _ _
      rw[HLL.out]at e9;injection e9 with e1 e2 e3;subst e1 e3
      have hTT:Rl wr (some ⟨m4.heap.size,0,none⟩) n (tchI pts n pts.length):=Rl.of hg9
      have hX1:=HX1.out.below hB
      obtain⟨p0,p1,_⟩:=hX1.two
      have hno:=ziz S a ca (.slice b o.ps.length cb) o.cs wr (HC.out.below hB) (by omega) rfl
      rw[<-HCO.out]at hno;clear hg9 hG
      go_wp2_with fail
      refine hno.mono ?_
      rintro e m5 ⟨na,nc,ya',yc',rfl,hN1,hN2,hb1⟩;replace hTT:=hTT.below hb1;replace hX1:=hX1.below hb1
      replace hB:=hB.trans (hb1.mono hB.size)
      clear hb1 hno p0 p1;obtain⟨p0,p1,_⟩:=hX1.two
      have hen:=zk7 S a ca (.slice b o.ps.length cb) o.cs m5 (HC.out.below hB) (by omega) hl1 rfl
      rw[zbo]at hen
      go_wp2_with fail
      refine hen.mono ?_
      rintro e m6 ⟨ea,ec,rfl,hE,-,hb1⟩;replace hTT:=hTT.below hb1;replace hN1:=hN1.below hb1;replace hN2:=hN2.below hb1
      replace hB:=hB.trans (hb1.mono hB.size)
      clear hb1 hen p0 p1 hX1
      have hby1:=zd0 Pn.x o.cs ea ec na nc (some ⟨m4.heap.size,0,none⟩) n (tchI pts n pts.length) qa qc (layI pts dx n pts.length) m6 hE hN1 hTT (HR1.out.below hB) HFO.out.1 HFO.out.2 (by rw[zcs];exact HCO.out) (by rw[za8];exact HCO.out)
      have hby2:=fun U (hb:Below m6.heap.size m6 U)=>zd0 Pn.y o.cs ea ec ya' yc' (some ⟨m4.heap.size,0,none⟩) n (tchI pts n pts.length) ra rc (layI pts dy n pts.length) U (hE.below hb) (hN2.below hb) (hTT.below hb) ((HR2.out.below hB).below hb) HFO.out.1 HFO.out.2 (by rw[zcs];exact HCO.out) (by rw[za8];exact HCO.out)
      rw[<-HQ1.out,<-HE1.out,<-HCO.out]at hby1;rw[<-HQ2.out,<-HE2.out,<-HCO.out]at hby2
      have hBF:=HBW.out.trans (hB.mono HBW.out.size)
      clear hE hN1 hN2 hTT
      go_wp2_with fail
      refine hby1.mono ?_
      rintro e m7 ⟨s1,t1,rfl,hZ1,hb1⟩
      replace hZ1:=hZ1.lower hBF.size
      clear hby1
      go_wp2_with fail
      refine(hby2 _ hb1).mono ?_
      rintro e m8 ⟨s2,t2,rfl,hZ2,hb2⟩
      replace hZ2:=hZ2.lower (Nat.le_trans hBF.size hb1.size)
      replace hZ1:=hZ1.below hb2
      have hBG:=(hBF.trans (hb1.mono hBF.size)).trans (hb2.mono (Nat.le_trans hBF.size hb1.size))
      clear hby2 hb1 hb2;go_wp2
      exact bodyPost_ret (v:=.tuple #[.slice s1 (spL Pn.x o pts dx dx dy).length t1,.slice s2 (spL Pn.y o pts dy dx dy).length t2,.int .i64 0]) (by simp[results,Tryz.results179,go_sem]) rfl ⟨s1,t1,s2,t2,by rw[HE3.out],hZ1,hZ2,hBG⟩
theorem zsf{t:Te}{c:Int}(h1:tfB t=true)(h2:crd c=true)(h:t.pk=0\/c=t.pk):((1:Int):Rat)=paQ t c:=by
 rw[ziw h1 h2,if_pos h]
 rfl
theorem zsg{t:Te}{c:Int}(h1:tfB t=true)(h2:crd c=true)(h:¬(t.pk=0\/c=t.pk))(h3:c<=t.st\/t.en<=c):((0:Int):Rat)=paQ t c:=by
 rw[ziw h1 h2,if_neg h,if_pos h3]
 rfl
theorem z4e{t:Te}{c:Int}(h1:tfB t=true)(h2:crd c=true)(h:¬(t.pk=0\/c=t.pk))(h3:¬(c<=t.st\/t.en<=c))(h4:c<t.pk):((c-t.st:Int):Rat)/((t.pk-t.st:Int):Rat)=paQ t c:=by
 rw[ziw h1 h2,if_neg h,if_neg h3,if_pos h4]
theorem zwd{t:Te}{c:Int}(h1:tfB t=true)(h2:crd c=true)(h:¬(t.pk=0\/c=t.pk))(h3:¬(c<=t.st\/t.en<=c))(h4:¬c<t.pk):((t.en-c:Int):Rat)/((t.en-t.pk:Int):Rat)=paQ t c:=by
 rw[ziw h1 h2,if_neg h,if_neg h3,if_neg h4]
theorem zua(t:Te)(c:Int)(w:World)(hc:I64 c) :
 Calls Tryz.prog 210 #[.agg #[.int .i64 t.st,.int .i64 t.pk,.int .i64 t.en],.int .i64 c] w fun e w'=>∃v',e=.returned v'/\Fr w' v' 2 (paQ t c)/\Below w.heap.size w w':=by
 have hfo:=fun U=>zhx t U
 obtain⟨W,hW,X1,B1,hbW⟩:=z5n 146 125 w (.int .i64 t.st) (.int .i64 t.pk) (.int .i64 t.en) (.bool false) (.slice none 0 0) (.slice none 0 0)
 cases hf:tfB t with
 | false =>
  have HP:Hid (((0:Int):Rat)=paQ t c):=(zyx (fun h=>by rw[hf]at h;cases h.1)).symm
  simp only[hf]at hfo
  clear hf;obtain⟨st,pk,en⟩:=t
  dsimp only at *
  go_enter Tryz.func210,Tryz.ntmps210
  go_wp2_with fail
  rw[<-hW];clear hW
  refine(hfo _).mono ?_
  rintro e u1 ⟨rfl,hb1⟩;replace X1:=X1.below hb1;replace B1:=B1.below hb1
  replace hbW:=hbW.trans (hb1.mono hbW.size)
  clear hb1 hfo;obtain⟨p0,p1,p2,_⟩:=X1.cells
  go_wp2_with fail
  refine(zae 0 _ (by decide) (by decide)).mono ?_
  rintro e u3 ⟨v3,rfl,hF3,hb3⟩;replace B1:=B1.below hb3
  replace hbW:=hbW.trans (hb3.mono hbW.size)
  rw[HP.out]at hF3;clear hb3 X1;obtain⟨n3,xs,ys,⟨a3,c3,b3,d3,rfl,hx3,hy3⟩,f1,f2,f3,f4⟩:=hF3;obtain⟨q1,q2,q3,q4,q5,q6⟩:=B1.cells
  have hs:=B1.lt
  go_wp2
  refine ret3 (v:=.agg #[.bool n3,.slice a3 xs.length c3,.slice b3 ys.length d3]) B1 rfl (fun U hU=>by obtain⟨r1,r2,r3,_⟩:=hU.cells;simp[results,Tryz.results210,go_sem,r1,r2,r3]) (fun U hU hK=>⟨_,rfl,⟨_,_,_,⟨_,_,_,_,rfl,hK _ _ _ hx3,hK _ _ _ hy3⟩,f1,f2,f3,f4⟩,hU _ _ hbW (by omega)⟩)
 | true =>
  have hbd:=zd3.1 hf
  unfold TfT at hbd
  simp only[hf]at hfo
  cases hcc:crd c with
  | false =>
   have HP:Hid (((0:Int):Rat)=paQ t c):=(zyx (fun h=>by rw[hcc]at h;cases h.2)).symm
   clear hf hbd;obtain⟨st,pk,en⟩:=t
   dsimp only at *
   go_enter Tryz.func210,Tryz.ntmps210
   go_wp2_with fail
   rw[<-hW];clear hW
   refine(hfo _).mono ?_
   rintro e u1 ⟨rfl,hb1⟩;replace X1:=X1.below hb1;replace B1:=B1.below hb1
   replace hbW:=hbW.trans (hb1.mono hbW.size)
   clear hb1 hfo;obtain⟨p0,p1,p2,_⟩:=X1.cells
   go_wp2_with fail
   refine(zak c _).mono ?_
   rintro e u2 ⟨rfl,rfl⟩;rw[hcc];clear hcc
   go_wp2_with fail
   refine(zae 0 _ (by decide) (by decide)).mono ?_
   rintro e u3 ⟨v3,rfl,hF3,hb3⟩;replace B1:=B1.below hb3
   replace hbW:=hbW.trans (hb3.mono hbW.size)
   rw[HP.out]at hF3;clear hb3 X1;obtain⟨n3,xs,ys,⟨a3,c3,b3,d3,rfl,hx3,hy3⟩,f1,f2,f3,f4⟩:=hF3;obtain⟨q1,q2,q3,q4,q5,q6⟩:=B1.cells
   have hs:=B1.lt
   go_wp2
   refine ret3 (v:=.agg #[.bool n3,.slice a3 xs.length c3,.slice b3 ys.length d3]) B1 rfl (fun U hU=>by obtain⟨r1,r2,r3,_⟩:=hU.cells;simp[results,Tryz.results210,go_sem,r1,r2,r3]) (fun U hU hK=>⟨_,rfl,⟨_,_,_,⟨_,_,_,_,rfl,hK _ _ _ hx3,hK _ _ _ hy3⟩,f1,f2,f3,f4⟩,hU _ _ hbW (by omega)⟩)
  | true =>
   have hcd:=crdT.1 hcc
   by_cases h1:t.pk=0
   . have HP:Hid (((1:Int):Rat)=paQ t c):=zsf hf hcc (.inl h1)
     have g1:(t.pk==0)=true:=by simp[h1]
     clear hf hbd hcd h1;obtain⟨st,pk,en⟩:=t
     dsimp only at *
     go_enter Tryz.func210,Tryz.ntmps210
     go_wp2_with fail
     rw[<-hW];clear hW
     refine(hfo _).mono ?_
     rintro e u1 ⟨rfl,hb1⟩;replace X1:=X1.below hb1;replace B1:=B1.below hb1
     replace hbW:=hbW.trans (hb1.mono hbW.size)
     clear hb1 hfo;obtain⟨p0,p1,p2,_⟩:=X1.cells
     go_wp2_with fail
     refine(zak c _).mono ?_
     rintro e u2 ⟨rfl,rfl⟩;rw[hcc];clear hcc
     go_wp2_with fail
     refine(zae 1 _ (by decide) (by decide)).mono ?_
     rintro e u3 ⟨v3,rfl,hF3,hb3⟩;replace B1:=B1.below hb3
     replace hbW:=hbW.trans (hb3.mono hbW.size)
     rw[HP.out]at hF3;clear hb3 X1;obtain⟨n3,xs,ys,⟨a3,c3,b3,d3,rfl,hx3,hy3⟩,f1,f2,f3,f4⟩:=hF3;obtain⟨q1,q2,q3,q4,q5,q6⟩:=B1.cells
     have hs:=B1.lt
     go_wp2
     refine ret3 (v:=.agg #[.bool n3,.slice a3 xs.length c3,.slice b3 ys.length d3]) B1 rfl (fun U hU=>by obtain⟨r1,r2,r3,_⟩:=hU.cells;simp[results,Tryz.results210,go_sem,r1,r2,r3]) (fun U hU hK=>⟨_,rfl,⟨_,_,_,⟨_,_,_,_,rfl,hK _ _ _ hx3,hK _ _ _ hy3⟩,f1,f2,f3,f4⟩,hU _ _ hbW (by omega)⟩)
   . by_cases h2:c=t.pk
     . have HP:Hid (((1:Int):Rat)=paQ t c):=zsf hf hcc (.inr h2)
       have g1:(t.pk==0)=false:=by simp[h1]
       have g2:(c==t.pk)=true:=by simp[h2]
       clear h1 h2 hf hbd hcd;obtain⟨st,pk,en⟩:=t
       dsimp only at *
       go_enter Tryz.func210,Tryz.ntmps210
       go_wp2_with fail
       rw[<-hW];clear hW
       refine(hfo _).mono ?_
       rintro e u1 ⟨rfl,hb1⟩;replace X1:=X1.below hb1;replace B1:=B1.below hb1
       replace hbW:=hbW.trans (hb1.mono hbW.size)
       clear hb1 hfo;obtain⟨p0,p1,p2,_⟩:=X1.cells
       go_wp2_with fail
       refine(zak c _).mono ?_
       rintro e u2 ⟨rfl,rfl⟩;rw[hcc];clear hcc
       go_wp2_with fail
       refine(zae 1 _ (by decide) (by decide)).mono ?_
       rintro e u3 ⟨v3,rfl,hF3,hb3⟩;replace B1:=B1.below hb3
       replace hbW:=hbW.trans (hb3.mono hbW.size)
       rw[HP.out]at hF3;clear hb3 X1;obtain⟨n3,xs,ys,⟨a3,c3,b3,d3,rfl,hx3,hy3⟩,f1,f2,f3,f4⟩:=hF3;obtain⟨q1,q2,q3,q4,q5,q6⟩:=B1.cells
       have hs:=B1.lt
       go_wp2
       refine ret3 (v:=.agg #[.bool n3,.slice a3 xs.length c3,.slice b3 ys.length d3]) B1 rfl (fun U hU=>by obtain⟨r1,r2,r3,_⟩:=hU.cells;simp[results,Tryz.results210,go_sem,r1,r2,r3]) (fun U hU hK=>⟨_,rfl,⟨_,_,_,⟨_,_,_,_,rfl,hK _ _ _ hx3,hK _ _ _ hy3⟩,f1,f2,f3,f4⟩,hU _ _ hbW (by omega)⟩)
     . have h12:¬(t.pk=0\/c=t.pk):=by omega
       by_cases h3:c<=t.st
       . have HP:Hid (((0:Int):Rat)=paQ t c):=zsg hf hcc h12 (.inl h3)
         have g1:(t.pk==0)=false:=by simp[h1]
         have g2:(c==t.pk)=false:=by simp[h2]
         have g3:decide (c<=t.st)=true:=decide_eq_true h3
         clear h1 h2 hf hbd hcd h12;obtain⟨st,pk,en⟩:=t
         dsimp only at *
         go_enter Tryz.func210,Tryz.ntmps210
         go_wp2_with fail
         rw[<-hW];clear hW
         refine(hfo _).mono ?_
         rintro e u1 ⟨rfl,hb1⟩;replace X1:=X1.below hb1;replace B1:=B1.below hb1
         replace hbW:=hbW.trans (hb1.mono hbW.size)
         clear hb1 hfo;obtain⟨p0,p1,p2,_⟩:=X1.cells
         go_wp2_with fail
         refine(zak c _).mono ?_
         rintro e u2 ⟨rfl,rfl⟩;rw[hcc];clear hcc
         go_wp2_with fail
         refine(zae 0 _ (by decide) (by decide)).mono ?_
         rintro e u3 ⟨v3,rfl,hF3,hb3⟩;replace B1:=B1.below hb3
         replace hbW:=hbW.trans (hb3.mono hbW.size)
         rw[HP.out]at hF3;clear hb3 X1;obtain⟨n3,xs,ys,⟨a3,c3,b3,d3,rfl,hx3,hy3⟩,f1,f2,f3,f4⟩:=hF3;obtain⟨q1,q2,q3,q4,q5,q6⟩:=B1.cells
         have hs:=B1.lt
         go_wp2
         refine ret3 (v:=.agg #[.bool n3,.slice a3 xs.length c3,.slice b3 ys.length d3]) B1 rfl (fun U hU=>by obtain⟨r1,r2,r3,_⟩:=hU.cells;simp[results,Tryz.results210,go_sem,r1,r2,r3]) (fun U hU hK=>⟨_,rfl,⟨_,_,_,⟨_,_,_,_,rfl,hK _ _ _ hx3,hK _ _ _ hy3⟩,f1,f2,f3,f4⟩,hU _ _ hbW (by omega)⟩)
       . by_cases h4:t.en<=c
         . have HP:Hid (((0:Int):Rat)=paQ t c):=zsg hf hcc h12 (.inr h4)
           have g1:(t.pk==0)=false:=by simp[h1]
           have g2:(c==t.pk)=false:=by simp[h2]
           have g3:decide (c<=t.st)=false:=decide_eq_false h3
           have g4:decide (t.en<=c)=true:=decide_eq_true h4
           clear h1 h2 hf hbd hcd h12;obtain⟨st,pk,en⟩:=t
           dsimp only at *
           go_enter Tryz.func210,Tryz.ntmps210
           go_wp2_with fail
           rw[<-hW];clear hW
           refine(hfo _).mono ?_
           rintro e u1 ⟨rfl,hb1⟩;replace X1:=X1.below hb1;replace B1:=B1.below hb1
           replace hbW:=hbW.trans (hb1.mono hbW.size)
           clear hb1 hfo;obtain⟨p0,p1,p2,_⟩:=X1.cells
           go_wp2_with fail
           refine(zak c _).mono ?_
           rintro e u2 ⟨rfl,rfl⟩;rw[hcc];clear hcc
           go_wp2_with fail
           refine(zae 0 _ (by decide) (by decide)).mono ?_
           rintro e u3 ⟨v3,rfl,hF3,hb3⟩;replace B1:=B1.below hb3
           replace hbW:=hbW.trans (hb3.mono hbW.size)
           rw[HP.out]at hF3;clear hb3 X1;obtain⟨n3,xs,ys,⟨a3,c3,b3,d3,rfl,hx3,hy3⟩,f1,f2,f3,f4⟩:=hF3;obtain⟨q1,q2,q3,q4,q5,q6⟩:=B1.cells
           have hs:=B1.lt
           go_wp2
           refine ret3 (v:=.agg #[.bool n3,.slice a3 xs.length c3,.slice b3 ys.length d3]) B1 rfl (fun U hU=>by obtain⟨r1,r2,r3,_⟩:=hU.cells;simp[results,Tryz.results210,go_sem,r1,r2,r3]) (fun U hU hK=>⟨_,rfl,⟨_,_,_,⟨_,_,_,_,rfl,hK _ _ _ hx3,hK _ _ _ hy3⟩,f1,f2,f3,f4⟩,hU _ _ hbW (by omega)⟩)
         . have h34:¬(c<=t.st\/t.en<=c):=by omega
           by_cases h5:c<t.pk
           . have HP:Hid (((c-t.st:Int):Rat)/((t.pk-t.st:Int):Rat)=paQ t c):=z4e hf hcc h12 h34 h5
             have g1:(t.pk==0)=false:=by simp[h1]
             have g2:(c==t.pk)=false:=by simp[h2]
             have g3:decide (c<=t.st)=false:=decide_eq_false h3
             have g4:decide (t.en<=c)=false:=decide_eq_false h4
             clear hf h12 h34
             have k1:IntKind.i64.wrap (c-t.st)=c-t.st:=zbb (by omega) (by omega)
             have k2:IntKind.i64.wrap (t.pk-t.st)=t.pk-t.st:=zbb (by omega) (by omega)
             have hm:=fun U=>zi2 (c-t.st) (t.pk-t.st) U (by omega) (by omega) (by omega) (by omega)
             clear h1 h2 hbd hcd;obtain⟨st,pk,en⟩:=t
             dsimp only at *
             go_enter Tryz.func210,Tryz.ntmps210
             go_wp2_with fail
             rw[<-hW];clear hW
             refine(hfo _).mono ?_
             rintro e u1 ⟨rfl,hb1⟩;replace X1:=X1.below hb1;replace B1:=B1.below hb1
             replace hbW:=hbW.trans (hb1.mono hbW.size)
             clear hb1 hfo;obtain⟨p0,p1,p2,_⟩:=X1.cells
             go_wp2_with fail
             refine(zak c _).mono ?_
             rintro e u2 ⟨rfl,rfl⟩;rw[hcc];clear hcc
             go_wp2_with fail
             refine(hm _).mono ?_
             rintro e u3 ⟨v3,rfl,hF3,hb3⟩;replace B1:=B1.below hb3
             replace hbW:=hbW.trans (hb3.mono hbW.size)
             rw[HP.out]at hF3;clear hb3 X1;obtain⟨n3,xs,ys,⟨a3,c3,b3,d3,rfl,hx3,hy3⟩,f1,f2,f3,f4⟩:=hF3;obtain⟨q1,q2,q3,q4,q5,q6⟩:=B1.cells
             have hs:=B1.lt
             go_wp2
             refine ret3 (v:=.agg #[.bool n3,.slice a3 xs.length c3,.slice b3 ys.length d3]) B1 rfl (fun U hU=>by obtain⟨r1,r2,r3,_⟩:=hU.cells;simp[results,Tryz.results210,go_sem,r1,r2,r3]) (fun U hU hK=>⟨_,rfl,⟨_,_,_,⟨_,_,_,_,rfl,hK _ _ _ hx3,hK _ _ _ hy3⟩,f1,f2,f3,f4⟩,hU _ _ hbW (by omega)⟩)
           . have HP:Hid (((t.en-c:Int):Rat)/((t.en-t.pk:Int):Rat)=paQ t c):=zwd hf hcc h12 h34 h5
             have g1:(t.pk==0)=false:=by simp[h1]
             have g2:(c==t.pk)=false:=by simp[h2]
             have g3:decide (c<=t.st)=false:=decide_eq_false h3
             have g4:decide (t.en<=c)=false:=decide_eq_false h4
             clear hf h12 h34
             have k1:IntKind.i64.wrap (t.en-c)=t.en-c:=zbb (by omega) (by omega)
             have k2:IntKind.i64.wrap (t.en-t.pk)=t.en-t.pk:=zbb (by omega) (by omega)
             have hm:=fun U=>zi2 (t.en-c) (t.en-t.pk) U (by omega) (by omega) (by omega) (by omega)
             clear h1 h2 hbd hcd;obtain⟨st,pk,en⟩:=t
             dsimp only at *
             go_enter Tryz.func210,Tryz.ntmps210
             go_wp2_with fail
             rw[<-hW];clear hW
             refine(hfo _).mono ?_
             rintro e u1 ⟨rfl,hb1⟩;replace X1:=X1.below hb1;replace B1:=B1.below hb1
             replace hbW:=hbW.trans (hb1.mono hbW.size)
             clear hb1 hfo;obtain⟨p0,p1,p2,_⟩:=X1.cells
             go_wp2_with fail
             refine(zak c _).mono ?_
             rintro e u2 ⟨rfl,rfl⟩;rw[hcc];clear hcc
             go_wp2_with fail
             refine(hm _).mono ?_
             rintro e u3 ⟨v3,rfl,hF3,hb3⟩;replace B1:=B1.below hb3
             replace hbW:=hbW.trans (hb3.mono hbW.size)
             rw[HP.out]at hF3;clear hb3 X1;obtain⟨n3,xs,ys,⟨a3,c3,b3,d3,rfl,hx3,hy3⟩,f1,f2,f3,f4⟩:=hF3;obtain⟨q1,q2,q3,q4,q5,q6⟩:=B1.cells
             have hs:=B1.lt
             go_wp2
             refine ret3 (v:=.agg #[.bool n3,.slice a3 xs.length c3,.slice b3 ys.length d3]) B1 rfl (fun U hU=>by obtain⟨r1,r2,r3,_⟩:=hU.cells;simp[results,Tryz.results210,go_sem,r1,r2,r3]) (fun U hU hK=>⟨_,rfl,⟨_,_,_,⟨_,_,_,_,rfl,hK _ _ _ hx3,hK _ _ _ hy3⟩,f1,f2,f3,f4⟩,hU _ _ hbW (by omega)⟩)
theorem zuh(a:OA)(cap:Nat)(l:List Te)(pa:OA)(pc:Nat)(cs:LI)(w:World)(h:Tz w a cap l)(hp:Ri w pa pc cs)(hl:l.length<=1000) :
 Calls Tryz.prog 165 #[.slice a l.length cap,.slice pa cs.length pc] w fun e w'=>∃v',e=.returned v'/\Fr w' v' (2+2*l.length) (alQ l cs)/\Below w.heap.size w w':=by
 have k2:=h.lenB
 have k3:=hp.lenB
 have HH:Hid (Tz w a cap l):=h
 have HP:Hid (Ri w pa pc cs):=hp
 obtain⟨W0,hW0,B0,hbW⟩:∃W,W=w.alloc (.cells #[.bool false,.slice none 0 0,.slice none 0 0] 125)/\Box 125 W w.heap.size (.bool false) (.slice none 0 0) (.slice none 0 0)/\Below w.heap.size w W:=⟨_,rfl,Box.new _ _ _ _ _,al1 _⟩
 clear h hp
 go_enter Tryz.func165,Tryz.ntmps165
 go_wp2_with fail
 rw[<-hW0];clear hW0
 refine(zae 1 _ (by decide) (by decide)).mono ?_
 rintro e U1 ⟨v5,rfl,hF5,hb5⟩;replace B0:=B0.below hb5
 replace hbW:=hbW.trans (hb5.mono hbW.size)
 clear hb5;obtain⟨n5,x5,y5,⟨a5,c5,b5,d5,rfl,hx5,hy5⟩,hF5⟩:=hF5
 have hlt:=B0.lt
 have P5:=Box.new 125 U1 (.bool n5) (.slice a5 x5.length c5) (.slice b5 y5.length d5)
 have hF5:Fr (U1.alloc (.cells #[.bool n5,.slice a5 x5.length c5,.slice b5 y5.length d5] 125)) (.agg #[.bool n5,.slice a5 x5.length c5,.slice b5 y5.length d5]) (2+2*0) (alK l cs 0):=Fr.below ⟨_,_,_,⟨_,_,_,_,rfl,hx5,hy5⟩,hF5⟩ (al1 _)
 replace B0:=B0.alloc (.cells #[.bool n5,.slice a5 x5.length c5,.slice b5 y5.length d5] 125)
 replace hbW:=hbW.alloc hbW.size (.cells #[.bool n5,.slice a5 x5.length c5,.slice b5 y5.length d5] 125)
 clear hx5 hy5;go_wp2
 go_loopw [12] (fun i wr=>∃(k:Nat) (n5:Bool) (a5:OA) (x5 c5:Nat) (b5:OA) (y5 d5:Nat),k<=l.length/\i=.int .i64 (k:Int)/\Box 125 wr U1.heap.size (.bool n5) (.slice a5 x5 c5) (.slice b5 y5 d5)/\Fr wr (.agg #[.bool n5,.slice a5 x5 c5,.slice b5 y5 d5]) (2+2*k) (alK l cs k)/\Box 125 wr w.heap.size (.bool false) (.slice none 0 0) (.slice none 0 0)/\Below w.heap.size w wr) (fun i _=>l.length-(intOf i).toNat)
 case atStart=>exact⟨0,_,_,_,_,_,_,_,Nat.zero_le _,rfl,P5,hF5,B0,hbW⟩
 case round =>
  clear P5 hF5 B0 hbW;obtain⟨k,n5,a5,x5,c5,b5,y5,d5,hk,rfl,P5,hF5,B0,hbW⟩:=hrel
  by_cases hkn:k<l.length
  . obtain⟨b0,off,ea,hb0,e0,e1,e2⟩:=HH.out.at hbW k hkn
    subst ea
    obtain⟨z,hz⟩:∃z,cs.getD k 0=z:=⟨_,rfl⟩
    have hzi:I64 z:=by
     by_cases h1:k<cs.length
     . rw[<-hz];exact HP.out.i64 h1
     . rw[<-hz,List.getD_eq_getElem?_getD,List.getElem?_eq_none (by omega)];exact⟨by decide,by decide⟩
    have hco:=fun U hU=>zmk pa pc cs k U hU (by omega)
    simp only[hz]at hco
    obtain⟨t,ht⟩:∃t,l.getD k Te.none=t:=⟨_,rfl⟩
    have HK:Hid (alK l cs (k+1)=alK l cs k*paQ t z):=by show _=_;rw[zoy,ht,hz]
    have HZ:Hid (paQ t z=0->alQ l cs=paQ t z):=fun e=>by rw[e];exact zyd hkn (by rw[ht,hz];exact e)
    rw[ht]at e0 e1 e2;clear ht hz
    have hpa:=fun U=>zua t z U hzi
    obtain⟨q,hq⟩:∃q,paQ t z=q:=⟨_,rfl⟩
    simp only[hq]at hpa HK HZ
    clear hq hzi;obtain⟨st,pk,en⟩:=t
    dsimp only at *
    obtain⟨V,hV,X1,hb1⟩:∃V,V=wr.alloc (.cells #[.int .i64 st,.int .i64 pk,.int .i64 en] 146)/\Box 146 V wr.heap.size (.int .i64 st) (.int .i64 pk) (.int .i64 en)/\Below wr.heap.size wr V:=⟨_,rfl,Box.new _ _ _ _ _,al1 _⟩
    have HP5:Hid (Box 125 V U1.heap.size (.bool n5) (.slice a5 x5 c5) (.slice b5 y5 d5)):=P5.below hb1
    have HF5:Hid (Fr V (.agg #[.bool n5,.slice a5 x5 c5,.slice b5 y5 d5]) (2+2*k) (alK l cs k)):=hF5.below hb1
    have HB0:Hid (Box 125 V w.heap.size (.bool false) (.slice none 0 0) (.slice none 0 0)):=B0.below hb1
    replace hbW:=hbW.trans (hb1.mono hbW.size)
    have HBW:Hid (Below w.heap.size w V):=hbW
    have HX1:Hid (Box 146 V wr.heap.size (.int .i64 st) (.int .i64 pk) (.int .i64 en)):=X1
    have hp:=HP.out.below hbW
    clear P5 hF5 B0 hb1
    have hwr:IntKind.i64.wrap (k:Int)=k:=zbb (by omega) (by omega)
    go_upto_region 5 with fail
    rw[<-hV];clear hV e0 e1 e2
    go_cut [8]from 13 to 29 (fun s8 wx=>∃(g8:Nat) (n8:Bool) (a8:OA) (x8 c8:Nat) (b8:OA) (y8 d8:Nat),s8=.pointer (some ⟨g8,0,none⟩)/\Box 125 wx g8 (.bool n8) (.slice a8 x8 c8) (.slice b8 y8 d8)/\Fr wx (.agg #[.bool n8,.slice a8 x8 c8,.slice b8 y8 d8]) 2 q/\V.heap.size<=g8/\Below V.heap.size V wx)
    case first =>
     have hbR:Below V.heap.size V V:=Below.refl _ _
     obtain⟨p00,p01,p02,_⟩:=X1.cells
     refine wp_region_held_drew (S:=(fun u=>u.cell? ⟨wr.heap.size,0,none⟩=some (.int .i64 st)/\u.cell? ⟨wr.heap.size,1,none⟩=some (.int .i64 pk)/\u.cell? ⟨wr.heap.size,2,none⟩=some (.int .i64 en))) (by kernel_rfl) ?_ (fun hH=>?_)
     . (try dsimp only)
       go_keep
     have hdr:Below V.heap.size V V.drew:=Below.drew1
     generalize V.drew=ud1 at hdr hH ⊢
     replace hp:=hp.below hdr;replace X1:=X1.below hdr
     replace hbW:Below w.heap.size w ud1:=hbW.trans (hdr.mono hbW.size)
     replace hbR:Below V.heap.size V ud1:=hbR.trans (hdr.mono hbR.size)
     clear hdr;clear p00 p01 p02;obtain⟨p00,p01,p02,_⟩:=X1.cells;refine hT 0 hH ?_;refine hT 1 hH ?_;refine hT 2 hH ?_
     refine wpAnyH_ready (rs:=[3,5]) (by kernel_rfl) (by simp) (hCons (i:=3) rfl (by rfl) (fun K hK=>?_) (hCons (i:=5) rfl (by rfl) (fun K hK=>?_) AllReadyH.nil))
     . go_simp
       refine(hco _ hp).mono ?_
       rintro e u1 ⟨rfl,hb1⟩;replace hp:=hp.below hb1;replace X1:=X1.below hb1
       replace hbW:Below w.heap.size w u1:=hbW.trans (hb1.mono hbW.size)
       replace hbR:Below V.heap.size V u1:=hbR.trans (hb1.mono hbR.size)
       clear hb1;clear p00 p01 p02;obtain⟨p00,p01,p02,_⟩:=X1.cells
       go_wp2_with fail
       refine hK.out _ _ ?_ (fun hH=>?_)
       . (try dsimp only)
         exact⟨p00,p01,p02⟩
       clear hK K
       try simp only[Act.put,pZ]
       refine wpAnyH_ready (rs:=[4,5]) (by kernel_rfl) (by simp) (hCons (i:=4) rfl (by rfl) (fun K hK=>?_) (hCons (i:=5) rfl (by rfl) (fun K hK=>?_) AllReadyH.nil))
       . go_simp
         refine(hpa _).mono ?_
         rintro e u2 ⟨v8,rfl,hF8,hb2⟩;replace hp:=hp.below hb2;replace X1:=X1.below hb2
         replace hbW:Below w.heap.size w u2:=hbW.trans (hb2.mono hbW.size)
         replace hbR:Below V.heap.size V u2:=hbR.trans (hb2.mono hbR.size)
         clear hb2;obtain⟨n8,x8,y8,⟨a8,c8,b8,d8,rfl,hx8,hy8⟩,hF8⟩:=hF8;clear p00 p01 p02;obtain⟨p00,p01,p02,_⟩:=X1.cells
         go_wp2_with fail
         refine hK.out _ _ ?_ (fun hH=>?_)
         . (try dsimp only)
           exact⟨p00,p01,p02⟩
         clear hK K
         try simp only[Act.put,pZ]
         refine hCall (i:=5) rfl (by kernel_rfl) (by rfl) (fun K hK=>?_)
         go_simp
         obtain⟨u63,hU,B8,hb9⟩:∃U,U=u2.alloc (.cells #[.bool false,.slice none 0 0,.slice none 0 0] 125)/\Box 125 U u2.heap.size (.bool false) (.slice none 0 0) (.slice none 0 0)/\Below u2.heap.size u2 U:=⟨_,rfl,Box.new _ _ _ _ _,al1 _⟩
         rw[<-hU];clear hU
         have n81:=hbR.size
         have n82:=hbW.size
         replace hp:=hp.below hb9;replace hx8:=hx8.below hb9;replace hy8:=hy8.below hb9;replace X1:=X1.below hb9
         replace hbW:Below w.heap.size w u63:=hbW.trans (hb9.mono hbW.size)
         replace hbR:Below V.heap.size V u63:=hbR.trans (hb9.mono hbR.size)
         clear hb9
         generalize u2.heap.size=g8 at B8 n81 n82 ⊢
         clear p00 p01 p02;obtain⟨p00,p01,p02,_⟩:=X1.cells;obtain⟨p10,p11,p12,_⟩:=B8.cells
         refine hK.out _ _ ?_ (fun hH=>?_)
         . (try dsimp only)
           exact⟨p00,p01,p02⟩
         clear hK K
         try simp only[Act.put,pZ]
         refine hCall (i:=6) rfl (by kernel_rfl) (by rfl) (fun K hK=>?_)
         go_simp
         obtain⟨u64,hU,A8,hbU,hK9,ho⟩:=zb7 B8 (.bool n8) (.slice a8 x8.length c8) (.slice b8 y8.length d8)
         rw[<-hU];clear hU
         replace hbW:=hbU _ _ hbW (by omega)
         replace hbR:=hbU _ _ hbR (by omega)
         replace hx8:=hK9 _ _ _ hx8
         replace hy8:=hK9 _ _ _ hy8
         clear hbU hK9 ho X1
         have X1:=HX1.out.below hbR
         clear p00 p01 p02 p10 p11 p12;obtain⟨p00,p01,p02,_⟩:=X1.cells;obtain⟨p10,p11,p12,_⟩:=A8.cells
         refine hK.out _ _ ?_ (fun hH=>?_)
         . (try dsimp only)
           exact⟨p00,p01,p02⟩
         clear hK K
         try simp only[Act.put,pZ]
         refine wpAnyH_done (by kernel_rfl) ?_ _
         clear hH
         go_wp2_with fail
         go_meet
         exact⟨g8,_,_,_,_,_,_,_,rfl,A8,⟨_,_,_,⟨_,_,_,_,rfl,hx8,hy8⟩,hF8⟩,n81,hbR⟩
       . go_simp
         obtain⟨u62,hU,B8,hb9⟩:∃U,U=u1.alloc (.cells #[.bool false,.slice none 0 0,.slice none 0 0] 125)/\Box 125 U u1.heap.size (.bool false) (.slice none 0 0) (.slice none 0 0)/\Below u1.heap.size u1 U:=⟨_,rfl,Box.new _ _ _ _ _,al1 _⟩
         rw[<-hU];clear hU
         have n81:=hbR.size
         have n82:=hbW.size
         replace hp:=hp.below hb9;replace X1:=X1.below hb9
         replace hbW:Below w.heap.size w u62:=hbW.trans (hb9.mono hbW.size)
         replace hbR:Below V.heap.size V u62:=hbR.trans (hb9.mono hbR.size)
         clear hb9
         generalize u1.heap.size=g8 at B8 n81 n82 ⊢
         clear p00 p01 p02;obtain⟨p00,p01,p02,_⟩:=X1.cells;obtain⟨p10,p11,p12,_⟩:=B8.cells
         refine hK.out _ _ ?_ (fun hH=>?_)
         . (try dsimp only)
           exact⟨p00,p01,p02⟩
         clear hK K
         try simp only[Act.put,pZ]
         refine hCall (i:=4) rfl (by kernel_rfl) (by rfl) (fun K hK=>?_)
         go_simp
         refine(hpa _).mono ?_
         rintro e u3 ⟨v8,rfl,hF8,hb3⟩;replace hp:=hp.below hb3;replace X1:=X1.below hb3;replace B8:=B8.below hb3
         replace hbW:Below w.heap.size w u3:=hbW.trans (hb3.mono hbW.size)
         replace hbR:Below V.heap.size V u3:=hbR.trans (hb3.mono hbR.size)
         clear hb3;obtain⟨n8,x8,y8,⟨a8,c8,b8,d8,rfl,hx8,hy8⟩,hF8⟩:=hF8;clear p00 p01 p02 p10 p11 p12;obtain⟨p00,p01,p02,_⟩:=X1.cells;obtain⟨p10,p11,p12,_⟩:=B8.cells
         go_wp2_with fail
         refine hK.out _ _ ?_ (fun hH=>?_)
         . (try dsimp only)
           exact⟨p00,p01,p02⟩
         clear hK K
         try simp only[Act.put,pZ]
         refine hCall (i:=6) rfl (by kernel_rfl) (by rfl) (fun K hK=>?_)
         go_simp
         obtain⟨u64,hU,A8,hbU,hK9,ho⟩:=zb7 B8 (.bool n8) (.slice a8 x8.length c8) (.slice b8 y8.length d8)
         rw[<-hU];clear hU
         replace hbW:=hbU _ _ hbW (by omega)
         replace hbR:=hbU _ _ hbR (by omega)
         replace hx8:=hK9 _ _ _ hx8
         replace hy8:=hK9 _ _ _ hy8
         clear hbU hK9 ho X1
         have X1:=HX1.out.below hbR
         clear p00 p01 p02 p10 p11 p12;obtain⟨p00,p01,p02,_⟩:=X1.cells;obtain⟨p10,p11,p12,_⟩:=A8.cells
         refine hK.out _ _ ?_ (fun hH=>?_)
         . (try dsimp only)
           exact⟨p00,p01,p02⟩
         clear hK K
         try simp only[Act.put,pZ]
         refine wpAnyH_done (by kernel_rfl) ?_ _
         clear hH
         go_wp2_with fail
         go_meet
         exact⟨g8,_,_,_,_,_,_,_,rfl,A8,⟨_,_,_,⟨_,_,_,_,rfl,hx8,hy8⟩,hF8⟩,n81,hbR⟩
     . go_simp
       obtain⟨u61,hU,B8,hb9⟩:∃U,U=ud1.alloc (.cells #[.bool false,.slice none 0 0,.slice none 0 0] 125)/\Box 125 U ud1.heap.size (.bool false) (.slice none 0 0) (.slice none 0 0)/\Below ud1.heap.size ud1 U:=⟨_,rfl,Box.new _ _ _ _ _,al1 _⟩
       rw[<-hU];clear hU
       have n81:=hbR.size
       have n82:=hbW.size
       replace hp:=hp.below hb9;replace X1:=X1.below hb9
       replace hbW:Below w.heap.size w u61:=hbW.trans (hb9.mono hbW.size)
       replace hbR:Below V.heap.size V u61:=hbR.trans (hb9.mono hbR.size)
       clear hb9
       generalize ud1.heap.size=g8 at B8 n81 n82 ⊢
       clear p00 p01 p02;obtain⟨p00,p01,p02,_⟩:=X1.cells;obtain⟨p10,p11,p12,_⟩:=B8.cells
       refine hK.out _ _ ?_ (fun hH=>?_)
       . (try dsimp only)
         exact⟨p00,p01,p02⟩
       clear hK K
       try simp only[Act.put,pZ]
       refine hCall (i:=3) rfl (by kernel_rfl) (by rfl) (fun K hK=>?_)
       go_simp
       refine(hco _ hp).mono ?_
       rintro e u2 ⟨rfl,hb2⟩;replace hp:=hp.below hb2;replace X1:=X1.below hb2;replace B8:=B8.below hb2
       replace hbW:Below w.heap.size w u2:=hbW.trans (hb2.mono hbW.size)
       replace hbR:Below V.heap.size V u2:=hbR.trans (hb2.mono hbR.size)
       clear hb2;clear p00 p01 p02 p10 p11 p12;obtain⟨p00,p01,p02,_⟩:=X1.cells;obtain⟨p10,p11,p12,_⟩:=B8.cells
       go_wp2_with fail
       refine hK.out _ _ ?_ (fun hH=>?_)
       . (try dsimp only)
         exact⟨p00,p01,p02⟩
       clear hK K
       try simp only[Act.put,pZ]
       refine hCall (i:=4) rfl (by kernel_rfl) (by rfl) (fun K hK=>?_)
       go_simp
       refine(hpa _).mono ?_
       rintro e u3 ⟨v8,rfl,hF8,hb3⟩;replace hp:=hp.below hb3;replace X1:=X1.below hb3;replace B8:=B8.below hb3
       replace hbW:Below w.heap.size w u3:=hbW.trans (hb3.mono hbW.size)
       replace hbR:Below V.heap.size V u3:=hbR.trans (hb3.mono hbR.size)
       clear hb3;obtain⟨n8,x8,y8,⟨a8,c8,b8,d8,rfl,hx8,hy8⟩,hF8⟩:=hF8;clear p00 p01 p02 p10 p11 p12;obtain⟨p00,p01,p02,_⟩:=X1.cells;obtain⟨p10,p11,p12,_⟩:=B8.cells
       go_wp2_with fail
       refine hK.out _ _ ?_ (fun hH=>?_)
       . (try dsimp only)
         exact⟨p00,p01,p02⟩
       clear hK K
       try simp only[Act.put,pZ]
       refine hCall (i:=6) rfl (by kernel_rfl) (by rfl) (fun K hK=>?_)
       go_simp
       obtain⟨u64,hU,A8,hbU,hK9,ho⟩:=zb7 B8 (.bool n8) (.slice a8 x8.length c8) (.slice b8 y8.length d8)
       rw[<-hU];clear hU
       replace hbW:=hbU _ _ hbW (by omega)
       replace hbR:=hbU _ _ hbR (by omega)
       replace hx8:=hK9 _ _ _ hx8
       replace hy8:=hK9 _ _ _ hy8
       clear hbU hK9 ho X1
       have X1:=HX1.out.below hbR
       clear p00 p01 p02 p10 p11 p12;obtain⟨p00,p01,p02,_⟩:=X1.cells;obtain⟨p10,p11,p12,_⟩:=A8.cells
       refine hK.out _ _ ?_ (fun hH=>?_)
       . (try dsimp only)
         exact⟨p00,p01,p02⟩
       clear hK K
       try simp only[Act.put,pZ]
       refine wpAnyH_done (by kernel_rfl) ?_ _
       clear hH
       go_wp2_with fail
       go_meet
       exact⟨g8,_,_,_,_,_,_,_,rfl,A8,⟨_,_,_,⟨_,_,_,_,rfl,hx8,hy8⟩,hF8⟩,n81,hbR⟩
    case rest =>
     clear hbW hp X1 hco hpa;obtain⟨g8,n8,a8,x8,c8,b8,y8,d8,rfl,A8,hF8,n81,hbR⟩:=hcut
     have P5:=HP5.out.below hbR
     have hF5:=HF5.out.below hbR
     have B0:=HB0.out.below hbR
     have hbW:=HBW.out.trans (hbR.mono HBW.out.size)
     have s1:=HP5.out.lt
     have s2:=HBW.out.size
     clear hbR;obtain⟨p0,p1,p2,_⟩:=A8.cells
     go_wp2_with fail
     refine(zgr 2 q _ _ hF8.ct (by decide) (by decide)).mono ?_
     rintro e u7 ⟨rfl,hb7⟩;replace A8:=A8.below hb7;replace hF8:=hF8.below hb7;replace P5:=P5.below hb7;replace hF5:=hF5.below hb7;replace B0:=B0.below hb7
     replace hbW:=hbW.trans (hb7.mono hbW.size)
     clear hb7 p0 p1 p2;obtain⟨p0,p1,p2,_⟩:=A8.cells
     by_cases hq:q=0
     . have HQ:Hid (alQ l cs=q):=HZ.out hq
       have e1:sgnQ q=0:=zj6.2 hq
       rw[e1];clear e1 hq;obtain⟨q1,q2,q3,q4,q5,q6⟩:=B0.cells
       have hs:=B0.lt
       go_wp2
       refine ret3 (v:=.agg #[.bool n8,.slice a8 x8 c8,.slice b8 y8 d8]) B0 rfl (fun U hU=>by obtain⟨r1,r2,r3,_⟩:=hU.cells;simp[results,Tryz.results165,go_sem,r1,r2,r3]) (fun U hU hK=>⟨_,rfl,by rw[HQ.out];exact(hF8.moved hK).le (by omega),hU _ _ hbW (by omega)⟩)
     . have e1:¬sgnQ q=0:=fun e=>hq (zj6.1 e)
       have g1:(sgnQ q==0)=false:=by simp[e1]
       generalize sgnQ q=s at *
       clear e1 hq;obtain⟨q1,q2,q3,_⟩:=P5.cells
       go_wp2_with fail
       refine(zfv (2+2*k) 2 (alK l cs k) q _ _ _ hF5.ct hF8.ct (by omega) (by decide) (by omega) (by decide)).mono ?_
       rintro e u8 ⟨v9,rfl,hF9,hb8⟩;rw[<-HK.out]at hF9;replace P5:=P5.below hb8;replace B0:=B0.below hb8
       replace hbW:=hbW.trans (hb8.mono hbW.size)
       clear hb8 hF5 hF8 A8 p0 p1 p2 q1 q2 q3;obtain⟨n9,x9,y9,⟨a9,c9,b9,d9,rfl,hx9,hy9⟩,hF9⟩:=hF9;obtain⟨q1,q2,q3,q4,q5,q6⟩:=P5.cells
       have hs:=P5.lt
       go_wp2
       obtain⟨U9,hU9,C5,hbU,hK9,ho⟩:=zb7 P5 (.bool n9) (.slice a9 x9.length c9) (.slice b9 y9.length d9)
       rw[<-hU9]
       replace B0:=B0.other ho (by omega)
       replace hbW:=hbU _ _ hbW (by omega)
       have hF9:Fr U9 (.agg #[.bool n9,.slice a9 x9.length c9,.slice b9 y9.length d9]) (2+2*(k+1)) (alK l cs (k+1)):=Fr.le (k:=2+2*k+2) ⟨_,_,_,⟨_,_,_,_,rfl,hK9 _ _ _ hx9,hK9 _ _ _ hy9⟩,hF9⟩ (by omega)
       clear hU9 hbU hK9 ho hx9 hy9
       go_roundw
       case rel=>exact⟨k+1,_,_,_,_,_,_,_,by omega,by go_num,C5,hF9,B0,hbW⟩
       case measure=>simp[intOf];omega
  . obtain rfl:k=l.length:=by omega
    obtain⟨p0,p1,p2,_⟩:=P5.cells;obtain⟨q1,q2,q3,q4,q5,q6⟩:=B0.cells
    have hs:=B0.lt
    go_wp2
    refine ret3 (v:=.agg #[.bool n5,.slice a5 x5 c5,.slice b5 y5 d5]) B0 rfl (fun U hU=>by obtain⟨r1,r2,r3,_⟩:=hU.cells;simp[results,Tryz.results165,go_sem,r1,r2,r3]) (fun U hU hK=>⟨_,rfl,hF5.moved hK,hU _ _ hbW (by omega)⟩)
