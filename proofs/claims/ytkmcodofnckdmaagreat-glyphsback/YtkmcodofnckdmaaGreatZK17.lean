import Derived.Test.YtkmcodofnckdmaaGreatZK16
set_option maxHeartbeats 8000000
set_option maxRecDepth 100000
set_option linter.unusedSimpArgs false
set_option linter.unusedVariables false
namespace Go.Proofs.YtkmcodofnckdmaaGreat
open Go.RowKit Go.Maps
theorem zjk(n:Nat)(g:Nat)(pa:OA)(pc:Nat)(xs:LN)(p:Nat)(w:World)(h:Sc 200 w g pa pc xs p)(hp:p<=100000)(hn:n<=80)(hpb:∀b o,pa=some ⟨b,o,none⟩->xs≠[]->b<w.heap.size) :
 Calls Tryz.prog 248 #[pg g,.int .i64 (n:Int)] w fun e w'=>∃a' c',e=.returned (.slice a' (ptK n (xs.drop p)).length c')/\Gr PnE (fun _=>False) w' a' c' (ptK n (xs.drop p))/\(∀b o,a'=some ⟨b,o,none⟩->w.heap.size<=b/\b<w'.heap.size)/\Kp g w w':=by
 have hgl:g<w.heap.size:=h.bk.lt
 have hby:=h.rb.lim.drop p
 have HB1:Hid (Byt (fgK n (xs.drop p)).2):=ztx hby
 have HB2:Hid (Byt (xsK n (xs.drop p)).2):=zzz hby
 have HBF:Hid (Byt (fsK n (xs.drop p))):=z2p hby
 have HFL:Hid ((fsK n (xs.drop p)).length=n):=zmb _ _
 have HPA:Hid (∀(L:List Pn),L.length=n->(∀i,i<n->L.getD i Pn.none=pYk (xsK n (xs.drop p)).1 (ysK n (xs.drop p)).1 (fsK n (xs.drop p)) n i)->L=ptK n (xs.drop p)):=fun L=>z07
 have HPL:Hid ((ptK n (xs.drop p)).length=n):=zlr _ _
 have HXE:Hid (xsK n (xs.drop p)=rdD 2 16 (fsK n (xs.drop p)) (fgK n (xs.drop p)).2 0):=rfl
 have HYE:Hid (ysK n (xs.drop p)=rdD 4 32 (fsK n (xs.drop p)) (xsK n (xs.drop p)).2 0):=rfl
 have htf:=zhl n g pa pc xs p w h hp hn hpb
 clear h hby
 generalize ptK n (xs.drop p)=PT at *
 generalize ysK n (xs.drop p)=YY at *
 generalize xsK n (xs.drop p)=XX at *
 generalize fsK n (xs.drop p)=fs at *
 generalize fgK n (xs.drop p)=FG at *
 have HNL:Hid ((nI fs).length=n):=by show _=_;rw[zgt];exact HFL.out
 rw[HNL.out]at htf
 go_enter Tryz.func248,Tryz.ntmps248
 go_wp2_with fail
 refine htf.mono ?_
 rintro e u1 ⟨a5,c5,rfl,hri,hbk,q,hS,hq,hqp,hK⟩;clear htf
 obtain⟨i0,hi0,hz0,hz1,hz2⟩:=info_parts zcx
 obtain⟨u2,hmk,hown,hgrow⟩:=run_makeSlice_full u1 u1.heap.size 63 65 i0 _ 3 Tryz.underlying63 hi0 hz0 hz1 .i64 .i64 n (by omega) (by rw[hz2];omega) (by unfold maxLen;omega) (Nat.le_refl _)
 have hG0:Gw PnE 65 u1.heap.size (fun _=>False) u2 (.slice (some ⟨u1.heap.size,0,none⟩) n n) (List.replicate n Pn.none):=Gw.zeros hown rfl (by decide) (zaz.2 ⟨rfl,⟨by decide,by decide⟩,⟨by decide,by decide⟩⟩)
 have hB2:Below u1.heap.size u1 u2:=(Below.refl _ _).grown hgrow (Nat.le_refl _) (fun k hk=>by cases hk)
 have hS2:=hS.below hB2
 have HRI:Hid (Ri u1 a5 c5 (nI fs)):=hri
 have HBK:Hid (∀b o,a5=some ⟨b,o,none⟩->b<u1.heap.size/\b≠g):=fun b o e=>⟨(hbk b o e).2,by have:=(hbk b o e).1;omega⟩
 have HPB:Hid (∀b o,pa=some ⟨b,o,none⟩->xs≠[]->b≠u1.heap.size):=fun b o e hne=>by have:=hpb b o e hne;have:=hK.size;omega
 have HS2:Hid (Sc 200 u2 g pa pc xs q):=hS2
 have HK2:Hid (Kp g u1 u2):=Kp.of hB2
 have HQ:Hid (xs.drop q=FG.2):=hq
 have HG0:Hid (Gw PnE 65 u1.heap.size (fun _=>False) u2 (.slice (some ⟨u1.heap.size,0,none⟩) n n) (List.replicate n Pn.none)):=hG0
 have HKW:Hid (Kp g w u1):=hK
 have hgP:g<u1.heap.size:=hS.bk.lt
 have HSZ:Hid (w.heap.size<=u1.heap.size):=hK.size
 clear hi0 hz0 hz1 hz2 hown hgrow hB2 hS2 hS hri hbk hq hG0 hK hpb;go_wp2;clear hmk
 obtain⟨gP,hgPe⟩:∃gP,u1.heap.size=gP:=⟨_,rfl⟩
 have hgPl:u1.heap.size<=gP:=by omega
 have hgne:g≠gP:=by omega
 rw[hgPe]at HG0 HPB ⊢
 have HGP:Hid (w.heap.size<=gP/\gP<u2.heap.size):=⟨by have:=HSZ.out;omega,by have:=(HG0.out.lo (g:=gP) rfl).2;exact this⟩
 clear hgPe hgP
 go_loopw [7,20] (fun xv i wr=>∃(k q1:Nat) (x:Int) (L:List Pn),k<=n/\i=.int .i64 k/\xv=.int .i64 x/\x=(if k=0 then 0 else XX.1.getD (k-1) 0)/\L.length=n/\(∀i,i<n->L.getD i Pn.none=pXk XX.1 fs k i)/\Gw PnE 65 gP (fun _=>False) wr (.slice (some ⟨gP,0,none⟩) n n) L/\Sc 200 wr g pa pc xs q1/\q1<=q+2*k/\xs.drop q1=rdR 2 16 fs FG.2 0 k/\Kp g u1 wr) (fun _ i _=>n-(intOf i).toNat)
 case atStart=>exact⟨0,q,0,List.replicate n Pn.none,Nat.zero_le _,rfl,rfl,rfl,List.length_replicate,(fun i hi=>by simp[List.getD,hi,pXk]),HG0.out,HS2.out,by omega,by rw[zno];exact HQ.out,HK2.out⟩
 case round =>
  clear HG0 HS2 HK2;obtain⟨k,q1,x,L,hk,rfl,rfl,hx,hLl,hL,hG,hS,hq1,hr,hK⟩:=hrel
  by_cases hkn:k<n
  . obtain⟨b5,o5,ea,hb5,d0⟩:=(Ri.kept HRI.out hK HBK.out).get k (by rw[HNL.out];exact hkn)
    rw[zsy]at d0
    have hfb:fs.getD k 0<256:=HBF.out.getD k
    obtain⟨zgx,zl4⟩:=zkd 2 16 fs FG.2 0 k (by rw[HFL.out];exact hkn)
    have hxl:=zyz (sh:=2) (sm:=16) (fs:=fs) HB1.out k (by rw[HFL.out];exact hkn)
    rw[<-HXE.out]at zgx hxl;rw[<-hr]at zgx zl4
    have hst:=zp9 (fs.getD k 0) g pa pc xs q1 wr hS (by omega) hfb
    have hon:onK fs k=decide (fs.getD k 0%2=1):=rfl
    have hdl:=zor (fs.getD k 0) 2 16 (hS.rb.lim.drop q1)
    have hand:=z5v hfb
    subst ea
    obtain⟨f,hf⟩:∃f,fs.getD k 0=f:=⟨_,rfl⟩
    rw[hf]at d0 zgx zl4 hst hon hfb hdl hand;rw[<-hx]at zgx
    have z3r:Hid (_):=zl4
    obtain⟨dd,hdd⟩:∃d,(dfR f 2 16 (xs.drop q1)).1=d:=⟨_,rfl⟩
    rw[hdd]at zgx hst hdl
    obtain⟨x2,hx2⟩:∃z,x+dd=z:=⟨_,rfl⟩
    rw[hx2]at zgx
    have HX2:Hid (XX.1.getD k 0=x2):=zgx
    rw[zgx]at hxl
    have hx2b:-9223372036854775808<=x2/\x2<=9223372036854775807:=by omega
    have hx2i:I64 x2:=hx2b
    have i1:(0:Int)<=(k:Int):=by omega
    have i2:(k:Int)<(n:Int):=by omega
    have HL:Hid (∀i,i<n->L.getD i Pn.none=pXk XX.1 fs k i):=hL
    have HLK:Hid (L.getD k Pn.none=Pn.none):=by show _=_;rw[hL k hkn];unfold pXk;rw[if_neg (by omega)]
    have HON:Hid (onK fs k=decide (f%2=1)):=hon
    clear hr zgx zl4 hx hf hdd hL hxl hon
    go_wp2_with fail
    refine hst.mono ?_
    rintro e v1 ⟨q2,rfl,hS1,hq2,hq2l,hK1⟩
    have hG1:=hG.kp hS.bk (by decide) hK1
    have hK2:=hK.trans hK1
    have HQ2:Hid (xs.drop q2=rdR 2 16 fs FG.2 0 (k+1)):=by show _=_;rw[hq2,z3r.out]
    clear hst hS hK hK1 hG hq2 d0
    obtain⟨sx,_,so,fz,c0,c1,c2⟩:=hG1.pnSet (k:=k) (by rw[hLl];exact hkn)
    have hGa:=sx x2 hx2i
    obtain⟨_,_,so2,fz2,e0,e1,e2⟩:=hGa.pnSet (k:=k) (by rw[List.length_set,hLl];exact hkn)
    rw[HLK.out]at c0 c1 c2
    have hkL:k<L.length:=by rw[hLl];exact hkn
    have hsel:(L.set k ⟨x2,(L.getD k Pn.none).y,(L.getD k Pn.none).on⟩).getD k Pn.none=⟨x2,0,false⟩:=by rw[zen hkL,if_pos rfl,HLK.out];rfl
    rw[hsel]at e0 e1 e2 so2;dsimp only at so2 e0 e1 e2
    have zqp:Hid (∀o:Bool,o=decide (f%2=1)->∀i,i<n->((L.set k ⟨x2,(L.getD k Pn.none).y,(L.getD k Pn.none).on⟩).set k ⟨x2,0,o⟩).getD i Pn.none=pXk XX.1 fs (k+1) i):=fun o ho i hi=>by
     rw[zen (by rw[List.length_set];exact hkL),zen hkL]
     by_cases hik:i=k
     . rw[if_pos hik,hik]
       unfold pXk
       rw[if_pos (by omega),HX2.out,HON.out,ho]
     . rw[if_neg hik,if_neg hik,HL.out i hi]
       unfold pXk
       by_cases h1:i<k
       . rw[if_pos h1,if_pos (by omega)]
       . rw[if_neg h1,if_neg (by omega)]
    have HS2:Hid (∀o:Bool,Sc 200 ((v1.setCell ⟨gP,k*3,none⟩ (.int .i64 x2)).setCell ⟨gP,k*3+2,none⟩ (.bool o)) g pa pc xs q2):=fun o=>(hS1.other _ _ hgne HPB.out).other _ _ hgne HPB.out
    have HKK:Hid (∀o:Bool,Kp g u1 ((v1.setCell ⟨gP,k*3,none⟩ (.int .i64 x2)).setCell ⟨gP,k*3+2,none⟩ (.bool o))):=fun o=>(hK2.other _ _ hgPl).other _ _ hgPl
    have HGG:Hid (_):=so2
    have HLL:Hid (∀o:Bool,((L.set k ⟨x2,(L.getD k Pn.none).y,(L.getD k Pn.none).on⟩).set k ⟨x2,0,o⟩).length=n):=fun o=>by rw[List.length_set,List.length_set,hLl]
    have hfz0:=fz (k*3)
    have hfz2:=fz2 (k*3+2)
    have hfz3:=fz (k*3+2)
    have hXk:x2=(if k+1=0 then 0 else XX.1.getD (k+1-1) 0):=by rw[if_neg (by omega),Nat.add_sub_cancel,HX2.out]
    have HXK:Hid (_):=hXk
    clear sx so so2 fz fz2 hGa hG1 hS1 hK2 hsel hXk HL HLK hLl hkL z3r hdl hx2i
    by_cases ho:f%2=1
    . rw[if_pos ho]at hand
      have HO:Hid (true=decide (f%2=1)):=(decide_eq_true ho).symm
      clear ho;go_wp2
      go_roundw
      case rel=>exact⟨k+1,q2,x2,_,by omega,by go_num,rfl,HXK.out,HLL.out true,zqp.out true HO.out,HGG.out true,HS2.out true,by omega,HQ2.out,HKK.out true⟩
      case measure=>simp[intOf];omega
    . rw[if_neg ho]at hand
      have HO:Hid (false=decide (f%2=1)):=(decide_eq_false ho).symm
      clear ho;go_wp2
      go_roundw
      case rel=>exact⟨k+1,q2,x2,_,by omega,by go_num,rfl,HXK.out,HLL.out false,zqp.out false HO.out,HGG.out false,HS2.out false,by omega,HQ2.out,HKK.out false⟩
      case measure=>simp[intOf];omega
  . obtain rfl:k=n:=by omega
    have g1:¬(k:Int)<(k:Int):=by omega
    have hr2:xs.drop q1=XX.2:=by
     have:=zry 2 16 fs FG.2 0
     rw[HFL.out,<-HXE.out]at this;rw[hr,this]
    have HR2:Hid (xs.drop q1=XX.2):=hr2
    have HL1:Hid (∀i,i<k->L.getD i Pn.none=pYk XX.1 YY.1 fs 0 i):=fun i hi=>by
     rw[hL i hi]
     unfold pXk pYk
     rw[if_pos hi,if_neg (by omega)]
    have HG1:Hid (Gw PnE 65 gP (fun _=>False) wr (.slice (some ⟨gP,0,none⟩) k k) L):=hG
    have HS1:Hid (Sc 200 wr g pa pc xs q1):=hS
    have HK1:Hid (Kp g u1 wr):=hK
    have HLL:Hid (L.length=k):=hLl
    clear hx hLl hL hG hS hr hK hr2 hkn hk;go_wp2
    obtain⟨n,hnk⟩:∃n,k=n:=⟨_,rfl⟩
    subst hnk
    go_loopw [8,45] (fun yv i wr=>∃(j q2:Nat) (y:Int) (M:List Pn),j<=k/\i=.int .i64 j/\yv=.int .i64 y/\y=(if j=0 then 0 else YY.1.getD (j-1) 0)/\M.length=k/\(∀i,i<k->M.getD i Pn.none=pYk XX.1 YY.1 fs j i)/\Gw PnE 65 gP (fun _=>False) wr (.slice (some ⟨gP,0,none⟩) k k) M/\Sc 200 wr g pa pc xs q2/\q2<=q1+2*j/\xs.drop q2=rdR 4 32 fs XX.2 0 j/\Kp g u1 wr) (fun _ i _=>k-(intOf i).toNat)
    case atStart=>exact⟨0,q1,0,L,Nat.zero_le _,rfl,rfl,rfl,HLL.out,HL1.out,HG1.out,HS1.out,by omega,by rw[zno];exact HR2.out,HK1.out⟩
    case round =>
     clear HG1 HS1 HK1 HLL HL1;obtain⟨j,q2,y,M,hj,rfl,rfl,hy,hMl,hM,hG,hS,hq2,hr,hK⟩:=hrel
     by_cases hjn:j<k
     . obtain⟨b5,o5,ea,hb5,d0⟩:=(Ri.kept HRI.out hK HBK.out).get j (by rw[HNL.out];exact hjn)
       rw[zsy]at d0
       have hfb:fs.getD j 0<256:=HBF.out.getD j
       obtain⟨zgx,zl4⟩:=zkd 4 32 fs XX.2 0 j (by rw[HFL.out];exact hjn)
       have hyl:=zyz (sh:=4) (sm:=32) (fs:=fs) HB2.out j (by rw[HFL.out];exact hjn)
       rw[<-HYE.out]at zgx hyl;rw[<-hr]at zgx zl4
       have hst:=zp8 (fs.getD j 0) g pa pc xs q2 wr hS (by omega) hfb
       have hdl:=zor (fs.getD j 0) 4 32 (hS.rb.lim.drop q2)
       subst ea
       obtain⟨f,hf⟩:∃f,fs.getD j 0=f:=⟨_,rfl⟩
       rw[hf]at d0 zgx zl4 hst hfb hdl;rw[<-hy]at zgx
       have z3r:Hid (_):=zl4
       obtain⟨dd,hdd⟩:∃d,(dfR f 4 32 (xs.drop q2)).1=d:=⟨_,rfl⟩
       rw[hdd]at zgx hst hdl
       obtain⟨y2,hy2⟩:∃z,y+dd=z:=⟨_,rfl⟩
       rw[hy2]at zgx
       have HY2:Hid (YY.1.getD j 0=y2):=zgx
       rw[zgx]at hyl
       have hy2b:-9223372036854775808<=y2/\y2<=9223372036854775807:=by omega
       have hy2i:I64 y2:=hy2b
       have i1:(0:Int)<=(j:Int):=by omega
       have i2:(j:Int)<(k:Int):=by omega
       have HM:Hid (∀i,i<k->M.getD i Pn.none=pYk XX.1 YY.1 fs j i):=hM
       clear hr zgx zl4 hy hf hdd hM hyl
       go_wp2_with fail
       refine hst.mono ?_
       rintro e v1 ⟨q3,rfl,hS1,hq3,hq3l,hK1⟩
       have hG1:=hG.kp hS.bk (by decide) hK1
       have hK2:=hK.trans hK1
       have HQ3:Hid (xs.drop q3=rdR 4 32 fs XX.2 0 (j+1)):=by show _=_;rw[hq3,z3r.out]
       clear hst hS hK hK1 hG hq3 d0
       have hjM:j<M.length:=by rw[hMl];exact hjn
       obtain⟨_,sy,_,fz,c0,c1,c2⟩:=hG1.pnSet (k:=j) hjM
       have hGa:=sy y2 hy2i
       have zqp:Hid (∀i,i<k->(M.set j ⟨(M.getD j Pn.none).x,y2,(M.getD j Pn.none).on⟩).getD i Pn.none=pYk XX.1 YY.1 fs (j+1) i):=fun i hi=>by
        rw[zen hjM]
        by_cases hij:i=j
        . rw[if_pos hij,hij,HM.out j hjn]
          simp only[pYk,if_pos (show j<j+1 by omega),HY2.out]
        . rw[if_neg hij,HM.out i hi]
          unfold pYk
          by_cases h1:i<j
          . rw[if_pos h1,if_pos (by omega)]
          . rw[if_neg h1,if_neg (by omega)]
       have hS3:=hS1.other (j*3+1) (.int .i64 y2) hgne HPB.out
       have hK3:=hK2.other (j*3+1) (.int .i64 y2) hgPl
       have HLL:Hid ((M.set j ⟨(M.getD j Pn.none).x,y2,(M.getD j Pn.none).on⟩).length=k):=by show _=_;rw[List.length_set,hMl]
       have hfz1:=fz (j*3+1)
       have hYk:y2=(if j+1=0 then 0 else YY.1.getD (j+1-1) 0):=by rw[if_neg (by omega),Nat.add_sub_cancel,HY2.out]
       have HYK:Hid (_):=hYk
       have HGA:Hid (_):=hGa
       have HS3:Hid (_):=hS3
       have HK3:Hid (_):=hK3
       clear sy fz hGa hG1 hS1 hK2 hYk HM hMl hjM z3r hdl hy2i hS3 hK3;go_wp2
       go_roundw
       case rel=>exact⟨j+1,q3,y2,_,by omega,by go_num,rfl,HYK.out,HLL.out,zqp.out,HGA.out,HS3.out,by omega,HQ3.out,HK3.out⟩
       case measure=>simp[intOf];omega
     . obtain rfl:j=k:=by omega
       have g2:¬(j:Int)<(j:Int):=by omega
       have hME:=HPA.out M hMl hM
       subst hME;obtain⟨a9,c9,ev,hgr,hb9⟩:=hG.slice
       have HGR:Hid (Gr PnE (fun _=>False) wr (some ⟨gP,0,none⟩) j M):=by
        injection ev with e1 e2 e3;subst e1 e3
        exact hgr
       have HSL:Hid (∀b o,(some ⟨gP,0,none⟩:OA)=some ⟨b,o,none⟩->w.heap.size<=b/\b<wr.heap.size):=fun b o e=>by
        cases e
        exact⟨HGP.out.1,(hG.lo (g:=gP) rfl).2⟩
       have HKF:Hid (Kp g w wr):=HKW.out.trans hK
       clear hG hgr hb9 ev hS hr hy hM;go_wp2
       go_ret
       exact⟨_,j,by first | rfl | rw[HPL.out];rfl,HGR.out,HSL.out,HKF.out⟩
theorem zsr(L:Nat)(es:LN)(p:Nat):numK L es p 0=p:=by cases es <;> rfl
def cntF(E:LN)(k:Nat):Nat:=if k=0 then 0 else min (E.getD (k-1) 0+1) 80
theorem z3d(E:LN)(k:Nat):cntF E k<=80:=by unfold cntF;split <;> omega
theorem z4f{m:Nat}{xs:LN}{p k:Nat}(hk:k<m):(rdE m (xs.drop p)).1.getD k 0=hd2 (xs.drop (p+2*k)):=by rw[z04 m _ k hk,List.drop_drop]
theorem z1m{E:LN}{k e:Nat}(hk:k<E.length)(he:E.getD k 0=e):nI (E.take (k+1))=nI (E.take k)++[(e:Int)]:=by rw[zaj (d:=0) hk,zsz,he];rfl
theorem zhk{l:List Pn}{a j:Nat}{q:Pn}(h:a+j<l.length)(hq:l.getD (a+j) Pn.none=q):(l.drop a).take (j+1)=(l.drop a).take j++[q]:=by
 rw[zaj (d:=Pn.none) (by rw[List.length_drop];omega)]
 congr 2
 rw[<-hq]
 simp[List.getD]
theorem Gw.widen{α:Type}{E:El α}{t:TypeId}{base:Nat}{S S':Nat->Prop}{w:World}{v:Value}{l:List α}(h:Gw E t base S w v l)(hS:∀k,S k->k<w.heap.size->S' k):Gw E t base S' w v l :=
 h.stay (Nat.le_refl _) (fun k h1 _ h2=>⟨hS k h1 h2,rfl⟩) (fun _ _=>rfl)
theorem zha(n:Int)(m:Nat)(g:Nat)(pa:OA)(pc:Nat)(xs:LN)(p:Nat)(w:World)(h:Sc 200 w g pa pc xs p)(hp:p<=1000)(hm:(min n 10).toNat=m)(hpb:∀b o,pa=some ⟨b,o,none⟩->xs≠[]->b<w.heap.size)(hn:I64 n) :
 Calls Tryz.prog 193 #[pg g,.int .i64 n] w fun e w'=>∃a' c',e=.returned (.slice a' (conK m (xs.drop p)).length c')/\Gr PnE.row (fun b=>w.heap.size<=b) w' a' c' (conK m (xs.drop p))/\(∀b o,a'=some ⟨b,o,none⟩->w.heap.size<=b)/\Kp g w w':=by
 have hm10:m<=10:=by omega
 have hn1:-9223372036854775808<=n/\n<=9223372036854775807:=hn
 obtain⟨mz,hmz⟩:∃mz:Int,min n 10=mz:=⟨_,rfl⟩
 have hmz1:mz.toNat=m:=by rw[<-hmz];exact hm
 have hgl:g<w.heap.size:=h.bk.lt
 have HPB:Hid (∀b o,pa=some ⟨b,o,none⟩->xs≠[]->b<w.heap.size):=hpb
 have HCO:Hid (conK m (xs.drop p)=cutK (rdE m (xs.drop p)).1 0 (ptK (cntF (rdE m (xs.drop p)).1 m) (xs.drop (p+2*m)))):=by
  show _=_
  unfold conK
  rw[zwb,List.drop_drop]
  rfl
 have HEL:Hid ((rdE m (xs.drop p)).1.length=m):=z03 _ _
 have HEG:Hid (∀k,k<m->(rdE m (xs.drop p)).1.getD k 0=hd2 (xs.drop (p+2*k))):=fun k hk=>z4f hk
 generalize conK m (xs.drop p)=C at *
 generalize (rdE m (xs.drop p)).1=E at *
 clear hm hpb
 go_enter Tryz.func193,Tryz.ntmps193
 go_wp2;clear hmz
 go_loopw [5,6,16] (fun v cv i wr=>∃k:Nat,k<=m/\i=.int .i64 k/\cv=.int .i64 (cntF E k:Int)/\v.ownBlock≠some g/\Gi w.heap.size wr v (nI (E.take k))/\Sc 200 wr g pa pc xs (p+2*k)/\Kp g w wr) (fun _ _ i _=>m-(intOf i).toNat)
 case atStart=>exact⟨0,Nat.zero_le _,rfl,rfl,(fun e=>by cases e),Gi.nil _ _,h,Kp.refl _ _⟩
 case round =>
  clear h;obtain⟨k,hk,rfl,rfl,hvg,hG,hS,hK⟩:=hrel;obtain⟨a5,c5,rfl,hri,hbk⟩:=hG.slice
  by_cases hkm:k<m
  . have g1:(k:Int)<mz:=by omega
    have hu:=zhc g pa pc xs (p+2*k) wr hS (by omega)
    have heq:=HEG.out k hkm
    have hlt:=zhu (hS.rb.lim.drop (p+2*k))
    rw[<-heq]at hu hlt
    obtain⟨e,he⟩:∃e,E.getD k 0=e:=⟨_,rfl⟩
    have HSN:Hid (_):=z1m (by rw[HEL.out];exact hkm) he
    have HCN:Hid (cntF E (k+1)=min (e+1) 80):=by show _=_;unfold cntF;rw[if_neg (by omega),Nat.add_sub_cancel,he]
    rw[he]at hu hlt
    have hll:(nI (E.take k)).length+1<=1000000:=by rw[zgt,List.length_take];omega
    clear heq he hri hbk
    generalize nI (E.take k)=L at *
    generalize cntF E k=cq at *
    go_wp2_with fail
    refine hu.mono ?_
    rintro e' u1 ⟨rfl,hS1,hK1⟩
    have hG1:=hG.kp hS.bk (by decide) hK1
    have hK2:=hK.trans hK1
    clear hu hS hK hK1 hG
    have bp:=bl1 (w:=u1) (.cells #[.int .i64 (e:Int)] 3)
    have hGb:=hG1.below bp
    have hSb:=hS1.below bp
    have hN:=Bk.new 3 u1 [.int .i64 (e:Int)]
    have n0:=hN.cell 0 (by simp)
    have zzb:u1.heap.size<(u1.alloc (.cells #[.int .i64 (e:Int)] 3)).heap.size:=hN.lt
    have hKb:Kp g w (u1.alloc (.cells #[.int .i64 (e:Int)] 3)):=hK2.alloc _
    have hbs:=hKb.size
    have hei:I64 (e:Int):=⟨by omega,by omega⟩
    obtain⟨cz,hcz⟩:∃c:Nat,min ((e:Int)+1) 80=(c:Int):=⟨min (e+1) 80,by omega⟩
    have hcz2:min (e+1) 80=cz:=by omega
    rw[hcz2]at HCN;clear hN bp hG1 hK2 hcz2
    go_wp2_with (at_builtin;refine zaf rfl _ _ rfl w.heap.size _ L rfl hGb u1.heap.size (e:Int) rfl zzb n0 hei hll hbs ?_)
    intro v9 w9 hG9 hgrow hown
    have hS9:=hSb.grown hgrow hvg (fun b o e' hne e2=>by
     have:=(hGb.lo e2).1
     have:=HPB.out b o e' hne
     omega)
    have hK9:Kp g w w9:=hKb.grown hgrow (fun k hk=>(hGb.lo hk).1)
    have HV9:Hid (v9.ownBlock≠some g):=by
     rcases hown with ho|ho
     . show _≠_
       rw[ho]
       exact hvg
     . show _≠_
       rw[ho]
       intro e'
       have h1:=Option.some.inj e'
       have h2:=hS1.bk.lt
       (try simp at h1)
       omega
    rw[<-HSN.out]at hG9;clear hgrow hown hGb hSb n0 zzb hKb hbs hvg hll HSN hS1;go_wp2
    go_roundw
    case rel=>exact⟨k+1,by omega,by go_num,by rw[HCN.out],HV9.out,hG9,by rw[show p+2*(k+1)=p+2*k+2 by omega];exact hS9,hK9⟩
    case measure=>simp[intOf];omega
  . obtain rfl:k=m:=by omega
    have g1:¬(k:Int)<mz:=by omega
    have hcl:=z3d E k
    have hpo:=zjk (cntF E k) g pa pc xs (p+2*k) wr hS (by omega) hcl (fun b o e hne=>Nat.lt_of_lt_of_le (HPB.out b o e hne) hK.size)
    have hpl:=zlr (cntF E k) (xs.drop (p+2*k))
    rw[List.take_of_length_le (by rw[HEL.out];exact Nat.le_refl _)]at hri hG ⊢
    rw[hpl]at hpo
    have HPL:Hid (_):=hpl
    generalize ptK (cntF E k) (xs.drop (p+2*k))=PT at *
    generalize cntF E k=cnt at *
    have HNL:Hid ((nI E).length=k):=by show _=_;rw[zgt];exact HEL.out
    rw[HNL.out];clear hpl hvg hG
    go_wp2_with fail
    refine hpo.mono ?_
    rintro e u3 ⟨a8,c8,rfl,hpts,hbk8,hK8⟩
    have HRI:Hid (Ri u3 a5 c5 (nI E)):=Ri.kept hri hK8 (fun b o e=>⟨(hbk b o e).2,by have:=(hbk b o e).1;omega⟩)
    have HPT:Hid (Gr PnE (fun _=>False) u3 a8 c8 PT):=hpts
    have HKK:Hid (Kp g w u3):=hK.trans hK8
    have HSZ:Hid (w.heap.size<=u3.heap.size):=HKK.out.size
    clear hpo hpts hbk8 hK8 hri hbk hS hK g1 hk hkm hmz1;go_wp2
    go_loopw [9,10,33] (fun v nv i wr=>∃r:Nat,r<=k/\i=.int .i64 r/\nv=.int .i64 (numK cnt E 0 r:Int)/\Gw PnE.row 63 u3.heap.size (fun b=>u3.heap.size<=b/\b<wr.heap.size) wr v ((cutK E 0 PT).take r)/\Below u3.heap.size u3 wr) (fun _ _ i _=>k-(intOf i).toNat)
    case atStart=>exact⟨0,Nat.zero_le _,rfl,by rw[zsr];rfl,Gw.nil _ _ _ _ _,Below.refl _ _⟩
    case round =>
     obtain⟨r,hr,rfl,rfl,hG,hB⟩:=hrel;obtain⟨a9,c9,rfl,zza,hb9⟩:=hG.slice
     have HCL:Hid ((cutK E 0 PT).length=k):=by show _=_;rw[zx5];exact HEL.out
     by_cases hrk:r<k
     . obtain⟨b5,o5,ea,hb5,d0⟩:=HRI.out.at hB r (by rw[HNL.out];exact hrk)
       rw[zsy]at d0;subst ea
       have hnl:=z1f (L:=cnt) E 0 r (Nat.zero_le _)
       obtain⟨zgx,zl4⟩:=z3b E 0 PT r (by rw[HEL.out];exact hrk)
       rw[HPL.out]at zgx zl4
       have hll:((cutK E 0 PT).take r).length+1<=1000000:=by rw[List.length_take];omega
       have HSN:Hid (_):=zaj (m:=cutK E 0 PT) (d:=[]) (k:=r) (by rw[HCL.out];exact hrk)
       rw[zgx]at HSN
       generalize E.getD r 0=ed at *
       obtain⟨nm,hnm⟩:∃z,numK cnt E 0 r=z:=⟨_,rfl⟩
       rw[hnm]at hnl zl4 HSN ⊢
       obtain⟨lim,hlim⟩:∃z,min (ed+1) cnt=z:=⟨_,rfl⟩
       rw[hlim]at zl4 HSN
       have z4z:(lim=ed+1/\ed+1<=cnt)\/(lim=cnt/\cnt<=ed+1):=by omega
       have z3r:Hid (numK cnt E 0 (r+1)=max nm lim):=zl4
       generalize (cutK E 0 PT).take r=L at *
       have i1:(0:Int)<=(r:Int):=by omega
       have i2:(r:Int)<(k:Int):=by omega
       have HG:Hid (Gw PnE.row 63 u3.heap.size (fun b=>u3.heap.size<=b/\b<wr.heap.size) wr (.slice a9 L.length c9) L):=hG
       have HB:Hid (Below u3.heap.size u3 wr):=hB
       obtain⟨wo,rfl⟩:∃wo,wo=wr:=⟨_,rfl⟩
       clear zgx zl4 hnm hlim zza hb9 hG;go_wp2;clear d0 hB
       go_loopw [10,13] (fun nv v wr=>∃j:Nat,nm+j<=max nm lim/\nv=.int .i64 ((nm+j:Nat):Int)/\Gw PnE 65 wo.heap.size (fun _=>False) wr v ((PT.drop nm).take j)/\Below wo.heap.size wo wr) (fun nv _ _=>max nm lim-(intOf nv).toNat)
       case atStart=>exact⟨0,by omega,rfl,Gw.nil _ _ _ _ _,Below.refl _ _⟩
       case round =>
        obtain⟨j,hj,rfl,hV,hBo⟩:=hrel;obtain⟨a13,c13,rfl,z19,hb13⟩:=hV.slice
        obtain⟨nj,hnj⟩:∃z,nm+j=z:=⟨_,rfl⟩
        have HNJ:Hid (nm+j=nj):=hnj
        rw[hnj]at hj ⊢
        by_cases hgo:nj<lim
        . have hB3:=HB.out.trans (hBo.mono HB.out.size)
          obtain⟨b8,o8,eb,hb8,⟨w0,w1⟩,q0,q1,q2⟩:=HPT.out.pn hB3 nj (by rw[HPL.out];omega)
          subst eb
          have HDT:Hid (_):=zhk (l:=PT) (a:=nm) (j:=j) (by rw[HPL.out,hnj];omega) (by rw[hnj])
          generalize PT.getD nj Pn.none=q at *
          obtain⟨x,y,on⟩:=q;dsimp only at w0 w1 q0 q1 q2
          have hl13:((PT.drop nm).take j).length+1<=1000000:=by rw[List.length_take,List.length_drop,HPL.out];omega
          have g2:decide (nj<=ed)=true:=decide_eq_true (by omega)
          have g3:decide (nj<cnt)=true:=decide_eq_true (by omega)
          have j1:(0:Int)<=(nj:Int):=by omega
          have j2:(nj:Int)<(cnt:Int):=by omega
          have bp:=bl1 (w:=wr) (.cells #[.int .i64 x,.int .i64 y,.bool on] 65)
          have hVb:=hV.below bp
          have zba:Gr PnE (fun k=>False/\(Value.slice a13 ((PT.drop nm).take j).length c13).ownBlock≠some k) (wr.alloc (.cells #[.int .i64 x,.int .i64 y,.bool on] 65)) (some ⟨wr.heap.size,0,none⟩) 1 [⟨x,y,on⟩]:=Gr.one_new (E:=PnE) (pnC ⟨x,y,on⟩) 65 (zaz.2 ⟨rfl,w0,w1⟩)
          have hBb:=hBo.trans (bp.mono hBo.size)
          have hbs:=hBb.size
          clear hnj bp z19 hb13 hB3 z4z
          generalize (PT.drop nm).take j=K1 at *
          go_wp2_with (at_builtin;refine zad 63 65 Tryz.underlying63 zcx rfl (by decide) (by decide) rfl _ _ rfl wo.heap.size (fun _=>False) _ K1 rfl hVb (some ⟨wr.heap.size,0,none⟩) 1 1 [⟨x,y,on⟩] rfl rfl zba hl13 hbs ?_)
          intro v9 w9 hT9 hgrow _
          have hB9:Below wo.heap.size wo w9:=hBb.grown hgrow hbs (fun k hk=>(hVb.lo hk).1)
          rw[<-HDT.out]at hT9;clear hgrow hVb zba hbs hl13 HDT hBb;go_wp2
          go_roundw
          case rel=>exact⟨j+1,by have:=HNJ.out;omega,by rw[<-HNJ.out];go_num,hT9,hB9⟩
          case measure=>have:=HNJ.out;simp[intOf];omega
        . have HMX:Hid (nj=max nm lim):=by show _=_;omega
          have HJ:Hid (j=lim-nm):=by show _=_;omega
          have hg2:(decide (nj<=ed)=true/\decide (nj<cnt)=false)\/decide (nj<=ed)=false:=by
           by_cases h1:nj<=ed
           . exact .inl ⟨decide_eq_true h1,decide_eq_false (by omega)⟩
           . exact .inr (decide_eq_false h1)
          have hcb:((PT.drop nm).take j).length<=140737488351232:=by rw[List.length_take,List.length_drop,HPL.out];omega
          rw[<-HJ.out]at HSN
          generalize (PT.drop nm).take j=K1 at *
          have bp:=bl1 (w:=wr) (.cells #[.slice a13 K1.length c13] 63)
          have hG1:=(HG.out.below hBo).below bp
          have hG2:Gw PnE.row 63 u3.heap.size (fun b=>u3.heap.size<=b/\b<(wr.alloc (.cells #[.slice a13 K1.length c13] 63)).heap.size) (wr.alloc (.cells #[.slice a13 K1.length c13] 63)) (.slice a9 L.length c9) L:=hG1.widen (fun k h1 h2=>⟨h1.1,h2⟩)
          have hVb:=hV.below bp
          have hgrb:=z19.below bp
          have zjw:PnE.row.rep (fun k=>(u3.heap.size<=k/\k<(wr.alloc (.cells #[.slice a13 K1.length c13] 63)).heap.size)/\(Value.slice a9 L.length c9).ownBlock≠some k) (wr.alloc (.cells #[.slice a13 K1.length c13] 63)) [.slice a13 K1.length c13] K1:=by
           refine⟨a13,c13,rfl,fun b o e hne=>?_,hgrb.anyP,hcb⟩
           have hbb:=hb13 b o e
           have hsz:=HB.out.size
           have hsz2:=bp.size
           refine⟨⟨by omega,by omega⟩,fun e2=>?_⟩
           exact hG2.ne hVb (by decide) e2 (by rw[e];rfl)
          have hN:=Bk.new 63 wr [.slice a13 K1.length c13]
          have zba:=Gr.one (E:=PnE.row) zjw hN.lt (fun jj hjj=>by
           obtain rfl:jj=0:=by have h1:jj<1:=hjj;omega
           exact hN.cell 0 (by simp))
          have hBb:=(HB.out.trans (hBo.mono HB.out.size)).trans (bp.mono (Nat.le_trans HB.out.size hBo.size))
          have hbs:=hBb.size
          have g4:((nj:Nat):Int)=((nj:Nat):Int):=rfl
          have HNN:Hid (numK cnt E 0 (r+1)=nj):=by show _=_;rw[z3r.out,<-HMX.out]
          clear hnj HNJ z19 hb13 z4z hj hG1 hVb hgrb zjw hN bp hV HJ HMX HG hgo g4
          rcases hg2 with ⟨g2,g3⟩|g2
          . go_wp2_with (at_builtin;refine zad 37 63 Tryz.underlying37 zdr rfl Nat.one_pos (by decide) rfl _ _ rfl u3.heap.size _ _ L rfl hG2 (some ⟨wr.heap.size,0,none⟩) 1 1 [K1] rfl rfl zba hll hbs ?_)
            intro v9 w9 hT9 hgrow _
            have hB9:Below u3.heap.size u3 w9:=hBb.grown hgrow hbs (fun k hk=>(hG2.lo hk).1)
            have hT9:=hT9.widen (S':=fun b=>u3.heap.size<=b/\b<w9.heap.size) (fun k h1 h2=>⟨h1.1,h2⟩)
            rw[<-HSN.out]at hT9;clear hgrow hG2 zba hbs hll HSN hBb;go_wp2
            go_roundw
            case rel=>exact⟨r+1,by omega,by go_num,by rw[HNN.out],hT9,hB9⟩
            case measure=>simp[intOf];omega
          . go_wp2_with (at_builtin;refine zad 37 63 Tryz.underlying37 zdr rfl Nat.one_pos (by decide) rfl _ _ rfl u3.heap.size _ _ L rfl hG2 (some ⟨wr.heap.size,0,none⟩) 1 1 [K1] rfl rfl zba hll hbs ?_)
            intro v9 w9 hT9 hgrow _
            have hB9:Below u3.heap.size u3 w9:=hBb.grown hgrow hbs (fun k hk=>(hG2.lo hk).1)
            have hT9:=hT9.widen (S':=fun b=>u3.heap.size<=b/\b<w9.heap.size) (fun k h1 h2=>⟨h1.1,h2⟩)
            rw[<-HSN.out]at hT9;clear hgrow hG2 zba hbs hll HSN hBb;go_wp2
            go_roundw
            case rel=>exact⟨r+1,by omega,by go_num,by rw[HNN.out],hT9,hB9⟩
            case measure=>simp[intOf];omega
     . obtain rfl:r=k:=by omega
       have g2:¬(r:Int)<(r:Int):=by omega
       rw[List.take_of_length_le (by rw[HCL.out];exact Nat.le_refl _)]at zza ⊢
       rw[<-HCO.out]at zza ⊢
       have HGR:Hid (Gr PnE.row (fun b=>w.heap.size<=b) wr a9 c9 C):=zza.wide (fun k h1 _=>Nat.le_trans HSZ.out h1.1)
       have HB9:Hid (∀b o,a9=some ⟨b,o,none⟩->w.heap.size<=b):=fun b o e=>Nat.le_trans HSZ.out (hb9 b o e).1
       have HKF:Hid (Kp g w wr):=HKK.out.trans (Kp.of hB)
       clear hG zza hb9;go_wp2
       go_ret
       exact⟨a9,c9,rfl,HGR.out,HB9.out,HKF.out⟩
theorem zwf(s:LN)(k:Nat):psR s (k+1)=psR s k++[paR (s.drop (6*k))]:=by unfold psR;rw[List.range_succ,List.map_append];rfl
theorem z09(s:LN)(k:Nat):(psR s k).length=k:=by unfold psR;rw[List.length_map,List.length_range]
theorem Gw.neBk{α:Type}{E:El α}{t u:TypeId}{base g:Nat}{S:Nat->Prop}{w:World}{v:Value}{l:List α}{cs:List Value}(h:Gw E t base S w v l)(hb:Bk u w g cs)(ht:u≠t):v.ownBlock≠some g:=by
 intro e
 obtain⟨cur,k1⟩:=h.ty e
 rw[hb]at k1
 simp at k1
 exact ht k1.2
theorem zlj{v:Nat}(h:v<65536):-32768<=sx16 v/\sx16 v<=32767:=by unfold sx16;split <;> omega
theorem zk6(g:Nat)(pa:OA)(pc:Nat)(xs:LN)(p m:Nat)(w:World)(h:Sc 200 w g pa pc xs p)(hp:p<=1000)(hm:min (hd2 (xs.drop p)) 6=m)(hpb:∀b o,pa=some ⟨b,o,none⟩->xs≠[]->b<w.heap.size) :
 Calls Tryz.prog 192 #[pg g] w fun e w'=>∃a' c',e=.returned (.slice a' (psR (xs.drop (p+2)) m).length c')/\Gr PaE (fun _=>False) w' a' c' (psR (xs.drop (p+2)) m)/\(∀b o,a'=some ⟨b,o,none⟩->w.heap.size<=b)/\Kp g w w':=by
 have hu:=zhc g pa pc xs p w h (by omega)
 have hlt:=zhu (h.rb.lim.drop p)
 have HPB:Hid (∀b o,pa=some ⟨b,o,none⟩->xs≠[]->b<w.heap.size):=hpb
 generalize hd2 (xs.drop p)=z at *
 have hmz:min (z:Int) 6=(m:Int):=by omega
 have hm6:m<=6:=by omega
 clear h hm hpb
 go_enter Tryz.func192,Tryz.ntmps192
 go_wp2_with fail
 refine hu.mono ?_
 rintro e u1 ⟨rfl,hS0,hK0⟩
 have HS0:Hid (Sc 200 u1 g pa pc xs (p+2)):=hS0
 have HK0:Hid (Kp g w u1):=hK0
 clear hu hS0 hK0;go_wp2;clear hmz
 go_loopw [3,10] (fun v i wr=>∃k:Nat,k<=m/\i=.int .i64 k/\Gw PaE 54 w.heap.size (fun _=>False) wr v (psR (xs.drop (p+2)) k)/\Sc 200 wr g pa pc xs (p+2+6*k)/\Kp g w wr) (fun _ i _=>m-(intOf i).toNat)
 case atStart=>exact⟨0,Nat.zero_le _,rfl,Gw.nil _ _ _ _ _,HS0.out,HK0.out⟩
 case round =>
  clear HS0 HK0;obtain⟨k,hk,rfl,hG,hS,hK⟩:=hrel;obtain⟨a3,c3,rfl,hgr,hbk⟩:=hG.slice
  by_cases hkm:k<m
  . have g1:(k:Int)<(m:Int):=by omega
    have HPS:Hid (psR (xs.drop (p+2)) (k+1)=psR (xs.drop (p+2)) k++[⟨(hd2 (xs.drop (p+2+6*k)):Int),sx16 (hd2 (xs.drop (p+2+6*k+2))),sx16 (hd2 (xs.drop (p+2+6*k+2+2)))⟩]):=by
     show _=_
     rw[zwf,List.drop_drop]
     unfold paR
     rw[List.drop_drop,List.drop_drop]
    have hll:(psR (xs.drop (p+2)) k).length+1<=1000000:=by rw[z09];omega
    have hy1:=zhu (hS.rb.lim.drop (p+2+6*k))
    have hy2:=zlj (zhu (hS.rb.lim.drop (p+2+6*k+2)))
    have hy3:=zlj (zhu (hS.rb.lim.drop (p+2+6*k+2+2)))
    have hu1:=zhc g pa pc xs (p+2+6*k) wr hS (by omega)
    obtain⟨gl,hgl⟩:∃z,hd2 (xs.drop (p+2+6*k))=z:=⟨_,rfl⟩
    rw[hgl]at hu1 HPS hy1;clear hgl hgr hbk
    generalize psR (xs.drop (p+2)) k=L at *
    go_wp2_with fail
    refine hu1.mono ?_
    rintro e v1 ⟨rfl,hS1,hK1⟩
    have hG1:=hG.kp hS.bk (by decide) hK1
    have hKa:=hK.trans hK1
    clear hu1 hS hK hK1 hG
    have hu2:=zdl g pa pc xs (p+2+6*k+2) v1 hS1 (by omega)
    obtain⟨dx,hdx⟩:∃z,sx16 (hd2 (xs.drop (p+2+6*k+2)))=z:=⟨_,rfl⟩
    rw[hdx]at hu2 HPS hy2;clear hdx
    go_wp2_with fail
    refine hu2.mono ?_
    rintro e v2 ⟨rfl,hS2,hK2⟩
    have hG2:=hG1.kp hS1.bk (by decide) hK2
    replace hKa:=hKa.trans hK2
    clear hu2 hS1 hK2 hG1
    have hu3:=zdl g pa pc xs (p+2+6*k+2+2) v2 hS2 (by omega)
    obtain⟨dy,hdy⟩:∃z,sx16 (hd2 (xs.drop (p+2+6*k+2+2)))=z:=⟨_,rfl⟩
    rw[hdy]at hu3 HPS hy3;clear hdy
    go_wp2_with fail
    refine hu3.mono ?_
    rintro e v3 ⟨rfl,hS3,hK3⟩
    have hG3:=hG2.kp hS2.bk (by decide) hK3
    replace hKa:=hKa.trans hK3
    clear hu3 hS2 hK3 hG2
    have hI1:I64 (gl:Int):=⟨by omega,by omega⟩
    have hI2:I64 dx:=⟨by omega,by omega⟩
    have hI3:I64 dy:=⟨by omega,by omega⟩
    have bp:=bl1 (w:=v3) (.cells #[.int .i64 (gl:Int),.int .i64 dx,.int .i64 dy] 54)
    have hGb:=hG3.below bp
    have hSb:=hS3.below bp
    have zba:Gr PaE (fun k=>False/\(Value.slice a3 L.length c3).ownBlock≠some k) (v3.alloc (.cells #[.int .i64 (gl:Int),.int .i64 dx,.int .i64 dy] 54)) (some ⟨v3.heap.size,0,none⟩) 1 [⟨(gl:Int),dx,dy⟩]:=Gr.one_new (E:=PaE) (paC ⟨(gl:Int),dx,dy⟩) 54 (zcf.2 ⟨rfl,hI1,hI2,hI3⟩)
    have hKb:Kp g w (v3.alloc (.cells #[.int .i64 (gl:Int),.int .i64 dx,.int .i64 dy] 54)):=hKa.alloc _
    have hbs:=hKb.size
    have hvg:=hGb.neBk hSb.bk (by decide)
    clear bp hG3 hS3 hKa
    go_wp2_with (at_builtin;refine zad 55 54 Tryz.underlying55 zl0 rfl (by decide) (by decide) rfl _ _ rfl w.heap.size (fun _=>False) _ L rfl hGb (some ⟨v3.heap.size,0,none⟩) 1 1 [⟨(gl:Int),dx,dy⟩] rfl rfl zba hll hbs ?_)
    intro v9 w9 hT9 hgrow _
    have hS9:=hSb.grown hgrow hvg (fun b o e hne e2=>by
     have:=(hGb.lo e2).1
     have:=HPB.out b o e hne
     omega)
    have hK9:Kp g w w9:=hKb.grown hgrow (fun k hk=>(hGb.lo hk).1)
    rw[<-HPS.out]at hT9;clear hgrow hGb hSb zba hKb hbs hvg hll HPS;go_wp2
    go_roundw
    case rel=>exact⟨k+1,by omega,by go_num,hT9,by rw[show p+2+6*(k+1)=p+2+6*k+2+2+2 by omega];exact hS9,hK9⟩
    case measure=>simp[intOf];omega
  . obtain rfl:k=m:=by omega
    have g1:¬(k:Int)<(k:Int):=by omega
    have HB3:Hid (∀b o,a3=some ⟨b,o,none⟩->w.heap.size<=b):=fun b o e=>(hbk b o e).1
    clear hG hbk hS;go_wp2
    go_ret
    exact⟨a3,c3,rfl,hgr,HB3.out,hK⟩
theorem Bk.set2{t:TypeId}{w:World}{g:Nat}{x y:Value}(h:Bk t w g [x,y])(x' y':Value):Bk t ((w.setCell ⟨g,0,none⟩ x').setCell ⟨g,1,none⟩ y') g [x',y']:=(h.set 0 x').set 1 y'
theorem zb8{w:World}{g b:Nat}(x' y':Value)(hb:b≠g):((w.setCell ⟨g,0,none⟩ x').setCell ⟨g,1,none⟩ y').heap[b]?=w.heap[b]?:=by
 rw[Below.heap_setCell _ _ _ _ (fun e=>hb e),Below.heap_setCell _ _ _ _ (fun e=>hb e)]
theorem zed{w:World}{g:Nat}(x' y':Value):((w.setCell ⟨g,0,none⟩ x').setCell ⟨g,1,none⟩ y').heap.size=w.heap.size:=by simp[World.setCell]
theorem zhm(g:Nat)(pa:OA)(pc:Nat)(xs:LN)(w:World)(h:Sc 200 w g pa pc xs 0)(hpb:∀b o,pa=some ⟨b,o,none⟩->xs≠[]->b<w.heap.size) :
 Calls Tryz.prog 145 #[pg g] w fun e w'=>∃a ca b cb,e=.returned (.agg #[.slice a (candK xs).cs.length ca,.slice b (candK xs).ps.length cb])/\Gr PnE.row (fun k=>w.heap.size<k) w' a ca (candK xs).cs/\Gr PaE (fun _=>False) w' b cb (candK xs).ps/\(∀c o,a=some ⟨c,o,none⟩->w.heap.size<c)/\(∀c o,b=some ⟨c,o,none⟩->w.heap.size<c)/\Kp g w w':=by
 obtain⟨W,hW,X1,hbW⟩:∃W,W=w.alloc (.cells #[.slice none 0 0,.slice none 0 0] 57)/\Bk 57 W w.heap.size [.slice none 0 0,.slice none 0 0]/\Below w.heap.size w W:=⟨_,rfl,Bk.new _ _ _,bl1 _⟩
 have hWs:W.heap.size=w.heap.size+1:=by rw[hW];simp
 have hgl:g<w.heap.size:=h.bk.lt
 replace h:=h.below hbW
 have hKW:Kp g w W:=Kp.of hbW
 have hu:=zdl g pa pc xs 0 W h (by omega)
 have hn:=zlj (zhu (h.rb.lim.drop 0))
 rw[List.drop_zero]at hu hn
 have HCK:Hid (candK xs=if sx16 (hd2 xs)=-1 then ⟨[],psR ((xs.drop 2).drop 2) (min (hd2 (xs.drop 2)) 6)⟩else ⟨conK (min (sx16 (hd2 xs)) 10).toNat (xs.drop 2),[]⟩):=rfl
 obtain⟨n,hn0⟩:∃n,sx16 (hd2 xs)=n:=⟨_,rfl⟩
 rw[hn0]at hu hn HCK;clear hn0 h
 go_enter Tryz.func145,Tryz.ntmps145
 go_wp2_with fail
 rw[<-hW];clear hW
 refine hu.mono ?_
 rintro e u1 ⟨rfl,hS,hK1⟩
 have hK:=hKW.trans hK1
 replace X1:=X1.kp hK1 (by omega)
 have hsz:=hK1.size
 clear hu hK1 hKW hbW
 have HPB:Hid (∀b o,pa=some ⟨b,o,none⟩->xs≠[]->b<u1.heap.size):=fun b o e hne=>Nat.lt_of_lt_of_le (hpb b o e hne) hK.size
 by_cases h1:n=-1
 . have HC:Hid (candK xs=⟨[],psR ((xs.drop 2).drop 2) (min (hd2 (xs.drop 2)) 6)⟩):=by show _=_;rw[HCK.out,if_pos h1]
   have g1:(n == -1)=true:=by simp[h1]
   have hpo:=zk6 g pa pc xs 2 (min (hd2 (xs.drop 2)) 6) u1 hS (by omega) rfl HPB.out
   rw[show 2+2=4 from rfl]at hpo
   rw[List.drop_drop,show 2+2=4 from rfl]at HC
   generalize psR (xs.drop 4) (min (hd2 (xs.drop 2)) 6)=P at *
   clear h1 HCK hpb
   go_wp2_with fail
   refine hpo.mono ?_
   rintro e u2 ⟨a2,c2,rfl,hgr,hbk,hK2⟩
   replace X1:=X1.kp hK2 (by omega)
   replace hK:=hK.trans hK2
   clear hpo hS
   obtain⟨U,hU⟩:∃U,U=(u2.setCell ⟨w.heap.size,0,none⟩ (.slice none 0 0)).setCell ⟨w.heap.size,1,none⟩ (.slice a2 P.length c2):=⟨_,rfl⟩
   have A:=X1.set2 (.slice none 0 0) (.slice a2 P.length c2)
   have hKU:=(hK.other (b:=w.heap.size) 0 (.slice none 0 0) (Nat.le_refl _)).other (b:=w.heap.size) 1 (.slice a2 P.length c2) (Nat.le_refl _)
   have hgU:Gr PaE (fun _=>False) ((u2.setCell ⟨w.heap.size,0,none⟩ (.slice none 0 0)).setCell ⟨w.heap.size,1,none⟩ (.slice a2 P.length c2)) a2 c2 P:=hgr.stay (by rw[zed];exact Nat.le_refl _) (fun k hk=>hk.elim) (fun b o e _ _=>zb8 _ _ (by have:=hbk b o e;omega))
   rw[<-hU]at A hKU hgU;obtain⟨x0,x1,f0,f1⟩:=X1.two
   have HBK:Hid (∀c o,a2=some ⟨c,o,none⟩->w.heap.size<c):=fun c o e=>by have:=hbk c o e;omega
   clear hK hgr hbk hK2;go_wp2;rw[<-hU];clear hU
   (try simp only[Exit.inBlock,Exit.then])
   refine bodyPost_ret (v:=.agg #[.slice none 0 0,.slice a2 P.length c2]) (by obtain⟨r0,r1,_⟩:=A.two;simp[results,Tryz.results145,go_sem,r0,r1]) rfl ⟨none,0,a2,c2,by rw[HC.out];rfl,by rw[HC.out];exact Gr.nil _ _ _ _ _ (Nat.zero_le _) (fun _=>rfl),by rw[HC.out];exact hgU,(fun c o e=>by cases e),HBK.out,hKU⟩
 . have HC:Hid (candK xs=⟨conK (min n 10).toNat (xs.drop 2),[]⟩):=by show _=_;rw[HCK.out,if_neg h1]
   have g1:(n == -1)=false:=by simp[h1]
   have hco:=zha n (min n 10).toNat g pa pc xs 2 u1 hS (by omega) rfl HPB.out ⟨by omega,by omega⟩
   generalize conK (min n 10).toNat (xs.drop 2)=C at *
   clear h1 HCK hpb
   go_wp2_with fail
   refine hco.mono ?_
   rintro e u2 ⟨a2,c2,rfl,hgr,hbk,hK2⟩
   replace X1:=X1.kp hK2 (by omega)
   replace hK:=hK.trans hK2
   clear hco hS
   obtain⟨U,hU⟩:∃U,U=(u2.setCell ⟨w.heap.size,0,none⟩ (.slice a2 C.length c2)).setCell ⟨w.heap.size,1,none⟩ (.slice none 0 0):=⟨_,rfl⟩
   have A:=X1.set2 (.slice a2 C.length c2) (.slice none 0 0)
   have hKU:=(hK.other (b:=w.heap.size) 0 (.slice a2 C.length c2) (Nat.le_refl _)).other (b:=w.heap.size) 1 (.slice none 0 0) (Nat.le_refl _)
   have hgU:Gr PnE.row (fun k=>w.heap.size<k) ((u2.setCell ⟨w.heap.size,0,none⟩ (.slice a2 C.length c2)).setCell ⟨w.heap.size,1,none⟩ (.slice none 0 0)) a2 c2 C:=hgr.stay (by rw[zed];exact Nat.le_refl _) (fun k hk _=>⟨by omega,zb8 _ _ (by omega)⟩) (fun b o e _ _=>zb8 _ _ (by have:=hbk b o e;omega))
   rw[<-hU]at A hKU hgU;obtain⟨x0,x1,f0,f1⟩:=X1.two
   have HBK:Hid (∀c o,a2=some ⟨c,o,none⟩->w.heap.size<c):=fun c o e=>by have:=hbk c o e;omega
   clear hK hgr hbk hK2;go_wp2;rw[<-hU];clear hU
   (try simp only[Exit.inBlock,Exit.then])
   refine bodyPost_ret (v:=.agg #[.slice a2 C.length c2,.slice none 0 0]) (by obtain⟨r0,r1,_⟩:=A.two;simp[results,Tryz.results145,go_sem,r0,r1]) rfl ⟨a2,c2,none,0,by rw[HC.out];rfl,by rw[HC.out];exact hgU,by rw[HC.out];exact Gr.nil _ _ _ _ _ (Nat.zero_le _) (fun _=>rfl),HBK.out,(fun c o e=>by cases e),hKU⟩
theorem rdO_K(b:LN):rdOE b=(if (decide (wrOE (candK b)=0)&&decide (wrOB (candK b)=b))=true then 0 else 2)/\rdOL b=(if (decide (wrOE (candK b)=0)&&decide (wrOB (candK b)=b))=true then candK b else Ol.none):=by
 obtain⟨h1,h2⟩:=zyd b
 rw[h1]
 unfold rdOE rdOL
 cases h:rdOk b with
 | false=>exact⟨rfl,rfl⟩
 | true=>exact⟨rfl,by rw[h2 h]⟩
theorem zmk(pa:OA)(pc:Nat)(xs:LN)(w:World)(h:Rb w pa pc xs) :
 Calls Tryz.prog 87 #[.slice pa xs.length pc] w fun e w'=>∃a ca b cb,e=.returned (.tuple #[.agg #[.slice a (rdOL xs).cs.length ca,.slice b (rdOL xs).ps.length cb],.int .i64 (rdOE xs)])/\Gr PnE.row (fun k=>w.heap.size<=k) w' a ca (rdOL xs).cs/\Gr PaE (fun k=>w.heap.size<=k) w' b cb (rdOL xs).ps/\((∀c o,a=some ⟨c,o,none⟩->w.heap.size<=c)/\∀c o,b=some ⟨c,o,none⟩->w.heap.size<=c)/\Below w.heap.size w w':=by
 have hle:=h.le
 have hcm:=h.cap
 unfold maxLen at hcm
 have HB:Hid (∀b o,pa=some ⟨b,o,none⟩->xs≠[]->b<w.heap.size):=fun b o e hne=>by
  rcases h.2.2.2.2 with h0|⟨b',o',e',hb',_⟩
  . exact absurd h0 hne
  . rw[e]at e'
    cases e'
    exact hb'
 obtain⟨W,hW,X1,X2,hbW⟩:∃W,W=(w.alloc (.cells #[.slice none 0 0,.slice none 0 0] 57)).alloc (.cells #[.slice pa xs.length pc,.int .i64 0] 200)/\Bk 57 W w.heap.size [.slice none 0 0,.slice none 0 0]/\Bk 200 W (w.heap.size+1) [.slice pa xs.length pc,.int .i64 0]/\Below w.heap.size w W:=⟨_,rfl,(Bk.new _ _ _).below (bl1 _),Bk.new1 _ _ _ _,bl2 _ _⟩
 have hWs:W.heap.size=w.heap.size+2:=by rw[hW];simp
 have hrb:=h.below hbW
 have hS:Sc 200 W (w.heap.size+1) pa pc xs 0:=⟨X2,hrb,fun b o e hne=>by have:=HB.out b o e hne;omega⟩
 have hou:=zhm (w.heap.size+1) pa pc xs W hS (fun b o e hne=>Nat.lt_of_lt_of_le (HB.out b o e hne) hbW.size)
 have HRE:Hid (_):=(rdO_K xs).1
 have HRL:Hid (_):=(rdO_K xs).2
 generalize rdOE xs=re at *
 generalize rdOL xs=rl at *
 generalize candK xs=o at *
 have HRB:Hid (Rb w pa pc xs):=h
 have HWS:Hid (W.heap.size=w.heap.size+2):=hWs
 clear h hrb hS X2 hWs
 go_enter Tryz.func87,Tryz.ntmps87
 go_wp2_with fail
 rw[<-hW];clear hW
 refine hou.mono ?_
 rintro e u1 ⟨a1,c1,b1,d1,rfl,hgc,hgp,hba,hbb,hKp⟩
 have hWs:=HWS.out
 have hB1:Below w.heap.size w u1:=hbW.trans (hKp.below (by omega) (by omega))
 replace X1:=X1.kp hKp (by omega)
 have HBA:Hid (∀c o,a1=some ⟨c,o,none⟩->w.heap.size<c):=fun c o e=>by have:=hba c o e;omega
 have HBB:Hid (∀c o,b1=some ⟨c,o,none⟩->w.heap.size<c):=fun c o e=>by have:=hbb c o e;omega
 clear hou
 obtain⟨V,hV,Y1,hbV⟩:∃V,V=u1.alloc (.cells #[.slice a1 o.cs.length c1,.slice b1 o.ps.length d1] 57)/\Bk 57 V u1.heap.size [.slice a1 o.cs.length c1,.slice b1 o.ps.length d1]/\Below u1.heap.size u1 V:=⟨_,rfl,Bk.new _ _ _,bl1 _⟩
 have hgl:w.heap.size<u1.heap.size:=X1.lt
 replace X1:=X1.below hbV
 replace hgc:=(hgc.below hbV).wide (S':=fun k=>w.heap.size<k) (fun k h1 _=>by omega)
 replace hgp:=hgp.below hbV
 replace hB1:Below w.heap.size w V:=hB1.trans (hbV.mono hB1.size)
 have hwr:=zmg _ a1 c1 b1 d1 o V hgc hgp.anyA
 have kc:=hgc.lenB
 have kp:=hgp.lenB
 clear hbV hKp hbW hba hbb hWs
 go_wp2_with fail
 rw[<-hV];clear hV
 refine hwr.mono ?_
 rintro e u2 ⟨a2,c2,rfl,hr2,hb2⟩;replace X1:=X1.below hb2;replace Y1:=Y1.below hb2;replace hgc:=hgc.below hb2;replace hgp:=hgp.below hb2
 replace hB1:Below w.heap.size w u2:=hB1.trans (hb2.mono hB1.size)
 clear hwr hb2
 have heq:=zk3 a2 pa c2 pc (wrOB o) xs u2 hr2 (HRB.out.below hB1)
 obtain⟨x0,x1,f0,f1⟩:=X1.two
 have hba:=HBA.out
 have hbb:=HBB.out
 have hOK:wrOE o=0\/wrOE o≠0:=by omega
 rcases hOK with h0|h0
 rotate_left
 . have HE:Hid (re=2/\rl=Ol.none):=by rw[decide_eq_false h0,Bool.false_and]at HRE HRL;exact⟨HRE.out,HRL.out⟩
   have g1:(wrOE o != 0)=true:=bne_iff_ne.2 h0
   clear h0 heq HRE HRL
   generalize wrOB o=ob at *
   generalize wrOE o=oe at *
   obtain⟨U,hU⟩:∃U,U=(u2.setCell ⟨w.heap.size,0,none⟩ (.slice none 0 0)).setCell ⟨w.heap.size,1,none⟩ (.slice none 0 0):=⟨_,rfl⟩
   have A:=X1.set2 (.slice none 0 0) (.slice none 0 0)
   have hbU:Below w.heap.size w ((u2.setCell ⟨w.heap.size,0,none⟩ (.slice none 0 0)).setCell ⟨w.heap.size,1,none⟩ (.slice none 0 0)):=(hB1.setCell (p:=⟨w.heap.size,0,none⟩) (Nat.le_refl _) _).setCell (p:=⟨w.heap.size,1,none⟩) (Nat.le_refl _) _
   rw[<-hU]at A hbU;clear hgc hgp hba hbb hB1;go_wp2;rw[<-hU];clear hU
   (try simp only[Exit.inBlock,Exit.then])
   refine bodyPost_ret (v:=.tuple #[.agg #[.slice none 0 0,.slice none 0 0],.int .i64 2]) (by obtain⟨r0,r1,_⟩:=A.two;simp[results,Tryz.results87,go_sem,r0,r1]) rfl ⟨none,0,none,0,by rw[HE.out.1,HE.out.2];rfl,by rw[HE.out.2];exact Gr.nil _ _ _ _ _ (Nat.zero_le _) (fun _=>rfl),by rw[HE.out.2];exact Gr.nil _ _ _ _ _ (Nat.zero_le _) (fun _=>rfl),⟨(fun c o e=>by cases e),(fun c o e=>by cases e)⟩,hbU⟩
 have g1:(wrOE o != 0)=false:=by rw[h0];rfl
 by_cases h1:wrOB o=xs
 rotate_left
 . have HE:Hid (re=2/\rl=Ol.none):=by rw[decide_eq_false h1,Bool.and_false]at HRE HRL;exact⟨HRE.out,HRL.out⟩
   rw[decide_eq_false h1]at heq;clear h0 h1 HRE HRL
   generalize wrOB o=ob at *
   generalize wrOE o=oe at *
   go_wp2_with fail
   refine heq.mono ?_
   rintro e v ⟨rfl,rfl⟩;clear heq
   obtain⟨U,hU⟩:∃U,U=(u2.setCell ⟨w.heap.size,0,none⟩ (.slice none 0 0)).setCell ⟨w.heap.size,1,none⟩ (.slice none 0 0):=⟨_,rfl⟩
   have A:=X1.set2 (.slice none 0 0) (.slice none 0 0)
   have hbU:Below w.heap.size w ((u2.setCell ⟨w.heap.size,0,none⟩ (.slice none 0 0)).setCell ⟨w.heap.size,1,none⟩ (.slice none 0 0)):=(hB1.setCell (p:=⟨w.heap.size,0,none⟩) (Nat.le_refl _) _).setCell (p:=⟨w.heap.size,1,none⟩) (Nat.le_refl _) _
   rw[<-hU]at A hbU;clear hgc hgp hba hbb hB1;go_wp2;rw[<-hU];clear hU
   (try simp only[Exit.inBlock,Exit.then])
   refine bodyPost_ret (v:=.tuple #[.agg #[.slice none 0 0,.slice none 0 0],.int .i64 2]) (by obtain⟨r0,r1,_⟩:=A.two;simp[results,Tryz.results87,go_sem,r0,r1]) rfl ⟨none,0,none,0,by rw[HE.out.1,HE.out.2];rfl,by rw[HE.out.2];exact Gr.nil _ _ _ _ _ (Nat.zero_le _) (fun _=>rfl),by rw[HE.out.2];exact Gr.nil _ _ _ _ _ (Nat.zero_le _) (fun _=>rfl),⟨(fun c o e=>by cases e),(fun c o e=>by cases e)⟩,hbU⟩
 have HE:Hid (re=0/\rl=o):=by rw[decide_eq_true h0,decide_eq_true h1,Bool.and_self]at HRE HRL;exact⟨HRE.out,HRL.out⟩
 rw[decide_eq_true h1]at heq;clear h0 h1 HRE HRL
 generalize wrOB o=ob at *
 generalize wrOE o=oe at *
 go_wp2_with fail
 refine heq.mono ?_
 rintro e v ⟨rfl,rfl⟩;clear heq;obtain⟨y0,y1,_⟩:=Y1.two
 obtain⟨U,hU⟩:∃U,U=(u2.setCell ⟨w.heap.size,0,none⟩ (.slice a1 o.cs.length c1)).setCell ⟨w.heap.size,1,none⟩ (.slice b1 o.ps.length d1):=⟨_,rfl⟩
 have A:=X1.set2 (.slice a1 o.cs.length c1) (.slice b1 o.ps.length d1)
 have hbU:Below w.heap.size w ((u2.setCell ⟨w.heap.size,0,none⟩ (.slice a1 o.cs.length c1)).setCell ⟨w.heap.size,1,none⟩ (.slice b1 o.ps.length d1)):=(hB1.setCell (p:=⟨w.heap.size,0,none⟩) (Nat.le_refl _) _).setCell (p:=⟨w.heap.size,1,none⟩) (Nat.le_refl _) _
 have hgcU:Gr PnE.row (fun k=>w.heap.size<=k) ((u2.setCell ⟨w.heap.size,0,none⟩ (.slice a1 o.cs.length c1)).setCell ⟨w.heap.size,1,none⟩ (.slice b1 o.ps.length d1)) a1 c1 o.cs:=hgc.stay (by rw[zed];exact Nat.le_refl _) (fun k hk _=>⟨by omega,zb8 _ _ (by omega)⟩) (fun b o e _ _=>zb8 _ _ (by have:=hba b o e;omega))
 have hgpU:Gr PaE (fun k=>w.heap.size<=k) ((u2.setCell ⟨w.heap.size,0,none⟩ (.slice a1 o.cs.length c1)).setCell ⟨w.heap.size,1,none⟩ (.slice b1 o.ps.length d1)) b1 d1 o.ps:=hgp.stay (by rw[zed];exact Nat.le_refl _) (fun k hk=>hk.elim) (fun b o e _ _=>zb8 _ _ (by have:=hbb b o e;omega))
 have hloc:(∀c o,a1=some ⟨c,o,none⟩->w.heap.size<=c)/\∀c o,b1=some ⟨c,o,none⟩->w.heap.size<=c:=⟨fun c o e=>by have:=hba c o e;omega,fun c o e=>by have:=hbb c o e;omega⟩
 rw[<-hU]at A hbU hgcU hgpU;clear hgc hgp hba hbb hB1;go_wp2;rw[<-hU];clear hU
 (try simp only[Exit.inBlock,Exit.then])
 refine bodyPost_ret (v:=.tuple #[.agg #[.slice a1 o.cs.length c1,.slice b1 o.ps.length d1],.int .i64 0]) (by obtain⟨r0,r1,_⟩:=A.two;simp[results,Tryz.results87,go_sem,r0,r1]) rfl ⟨a1,c1,b1,d1,by rw[HE.out.1,HE.out.2],by rw[HE.out.2];exact hgcU,by rw[HE.out.2];exact hgpU,hloc,hbU⟩
abbrev S6 (w:World) (g:Nat) (v0 v1 v2 v3 v4 v5:Value):World:=(((((w.setCell ⟨g,0,none⟩ v0).setCell ⟨g,1,none⟩ v1).setCell ⟨g,2,none⟩ v2).setCell ⟨g,3,none⟩ v3).setCell ⟨g,4,none⟩ v4).setCell ⟨g,5,none⟩ v5
theorem Bk.set6{t:TypeId}{w:World}{g:Nat}{x0 x1 x2 x3 x4 x5:Value}(h:Bk t w g [x0,x1,x2,x3,x4,x5])(y0 y1 y2 y3 y4 y5:Value):Bk t (S6 w g y0 y1 y2 y3 y4 y5) g [y0,y1,y2,y3,y4,y5]:=(((((h.set 0 y0).set 1 y1).set 2 y2).set 3 y3).set 4 y4).set 5 y5
theorem Kp.new6{g b:Nat}{a w:World}(h:Kp g a w)(hb:a.heap.size<=b)(y0 y1 y2 y3 y4 y5:Value):Kp g a (S6 w b y0 y1 y2 y3 y4 y5):=(((((h.new hb 0 y0).new hb 1 y1).new hb 2 y2).new hb 3 y3).new hb 4 y4).new hb 5 y5
theorem Bk.other6{t:TypeId}{w:World}{g b:Nat}{cs:List Value}(h:Bk t w g cs)(hb:g≠b)(y0 y1 y2 y3 y4 y5:Value):Bk t (S6 w b y0 y1 y2 y3 y4 y5) g cs:=(((((h.other 0 y0 hb).other 1 y1 hb).other 2 y2 hb).other 3 y3 hb).other 4 y4 hb).other 5 y5 hb
theorem K3.set6{n b:Nat}(w:World)(hb:b<n)(y0 y1 y2 y3 y4 y5:Value):K3 n w (S6 w b y0 y1 y2 y3 y4 y5):=(((((K3.set w hb 0 y0).trans (K3.set _ hb 1 y1)).trans (K3.set _ hb 2 y2)).trans (K3.set _ hb 3 y3)).trans (K3.set _ hb 4 y4)).trans (K3.set _ hb 5 y5)
theorem z00{X:LN}(h:rdOE X=0):foB (rdOL X)=true:=by
 have h2:=(zim h).1
 rcases zey (rdOL X)with h1|h1|h1
 . exact h1.2
 . rw[h1.1]at h2;exact absurd h2 (by decide)
 . rw[h1.1]at h2;exact absurd h2 (by decide)
theorem z0z:¬rdOE []=0:=fun h=>by
 obtain⟨h1,h2⟩:=zim h
 have:=zu9 h1
 rw[h2]at this
 exact absurd this (by decide)
theorem z0y{o:Ol}{ax:Int}:¬rdTE [] o ax=0:=fun h=>by
 have h2:=congrArg List.length (zft h).2
 unfold tuBt at h2
 rw[List.length_append]at h2
 have:∀z,(be2 z).length=2:=fun _=>rfl
 rw[this]at h2
 simp at h2
theorem zzk(xs:LN)(p:Nat):gOb xs p=cutV xs ((p:Int)+4) (nmV xs (p:Int) 4:Int):=by
 unfold gOb g1
 rw[show((p+4:Nat):Int)=(p:Int)+4 by omega]
theorem zzi(xs:LN)(p:Nat):gTb xs p=cutV xs ((g2 xs p:Int)+4) (nmV xs (g2 xs p:Int) 4:Int):=by
 unfold gTb g3
 rw[show((g2 xs p+4:Nat):Int)=(g2 xs p:Int)+4 by omega]
theorem zzq{xs:LN}{p:Nat}(h:cutV xs ((p:Int)+4) (nmV xs (p:Int) 4:Int)≠[]):blkP xs p=p+4+nmV xs (p:Int) 4/\p+4+nmV xs (p:Int) 4<=xs.length:=by
 cases hi:inB xs.length ((p:Int)+4) (nmV xs (p:Int) 4:Int) with
 | false=>rw[zmh hi]at h;exact absurd rfl h
 | true =>
  unfold blkP
  rw[if_pos hi]
  unfold inB at hi
  have:=of_decide_eq_true hi
  exact⟨rfl,by omega⟩
theorem blk_o{xs:LN}{p:Nat}(h:rdOE (gOb xs p)=0):blkP xs p=g2 xs p/\g2 xs p<=xs.length:=by
 rw[zzk]at h
 exact zzq (fun e=>by rw[e]at h;exact z0z h)
theorem blk_t{xs:LN}{p:Nat}{o:Ol}{ax:Int}(h:rdTE (gTb xs p) o ax=0):blkP xs (g2 xs p)=g4 xs p/\g4 xs p<=xs.length:=by
 rw[zzi]at h
 exact zzq (fun e=>by rw[e]at h;exact z0y h)
def GlBad(xs:LN)(ax:Int)(p:Nat):Prop:=rdGl xs ax p=none\/∃x q,rdGl xs ax p=some (x,q)/\¬nmV xs ((g4 xs p+4:Nat):Int) 1<=1
structure GlN(e:Ending):Prop where
 out:∃a0 n0 c0 a1 n1 c1 a2 n2 c2 z0 z1 bb,e=.returned (.tuple #[.agg #[.slice a0 n0 c0,.slice a1 n1 c1,.slice a2 n2 c2,.int .i64 z0,.int .i64 z1,.bool bb],.bool false])
structure GlY(n:Nat)(sb:Nat)(a:OA)(cap:Nat)(xs:LN)(p:Nat)(ax:Int)(e:Ending)(w':World):Prop where
 out:∃xa xc qa qc ta tc x q,e=.returned (.tuple #[.agg #[.slice xa x.o.cs.length xc,.slice qa x.o.ps.length qc,.slice ta x.ts.length tc,.int .i64 x.ab,.int .i64 x.ar,.bool x.mr],.bool true])/\GlC (fun k=>n<=k) w' xa xc qa qc ta tc x/\Sc 101 w' sb a cap xs q/\Hid (rdGl xs ax p=some (x,q))/\Hid (nmV xs ((g4 xs p+4:Nat):Int) 1<=1)
theorem zxh(sb:Nat)(a:OA)(cap:Nat)(xs:LN)(p:Nat)(ax:Int)(w:World)(hS:Sc 101 w sb a cap xs p)(hl:xs.length<=1048576)(hp:p<=1100000)(hi:I64 ax)(hTb:(gTb xs p).length<=100000) :
 Calls Tryz.prog 48 #[.pointer (some ⟨sb,0,none⟩),.int .i64 ax] w fun e w'=>((GlN e/\Hid (GlBad xs ax p))\/GlY (w.heap.size+1) sb a cap xs p ax e w')/\Kp sb w w':=by
 obtain⟨W,hW,XR,hbW⟩:∃W,W=w.alloc (.cells #[.slice none 0 0,.slice none 0 0,.slice none 0 0,.int .i64 0,.int .i64 0,.bool false] 62)/\Bk 62 W w.heap.size [.slice none 0 0,.slice none 0 0,.slice none 0 0,.int .i64 0,.int .i64 0,.bool false]/\Below w.heap.size w W:=⟨_,rfl,Bk.new _ _ _,bl1 _⟩
 have HS0:Hid (Sc 101 w sb a cap xs p):=hS
 have hKp:Kp sb w W:=Kp.of hbW
 have hsl:=hS.bk.lt
 have hrx:=hS.rb
 have HBY:Hid (Byt xs):=hS.rb.lim
 obtain⟨gr,hgr⟩:∃n,w.heap.size=n:=⟨_,rfl⟩
 have HGR:Hid (w.heap.size=gr):=hgr
 rw[hgr]at XR hsl
 have hblk:=zkx sb a cap xs p W (hS.below hbW).bk (hS.below hbW).rb hl (by omega)
 rw[<-zzk]at hblk
 have hWs:=XR.lt
 clear hS hbW hrx
 go_enter Tryz.func48,Tryz.ntmps48
 go_upto_region 1 with fail
 rw[<-hW]
 try rw[hgr]
 clear hW hgr
 go_wp2_with fail
 refine hblk.mono ?_
 rintro e u1 ⟨a1,c1,p1,rfl,hr1,z16,hB1,HP1,hk1⟩;clear hblk
 replace XR:=XR.kp hk1 (by omega)
 replace hKp:=hKp.trans hk1
 have hs1:=hk1.size
 have hrd:=zmk a1 c1 (gOb xs p) u1 hr1
 clear hk1 z16
 go_wp2_with fail
 refine hrd.mono ?_
 rintro e u2 ⟨xa,xc,qa,qc,rfl,hGc,hGp,⟨hlc,hlp⟩,hb2⟩;clear hrd hr1;replace XR:=XR.below hb2;replace hB1:=hB1.below hb2
 replace hKp:=hKp.trans (Kp.of hb2)
 have hs2:=hb2.size
 have hn0:gr+1<=u1.heap.size:=by omega
 replace hGc:Gr PnE.row (fun k=>gr+1<=k) u2 xa xc (rdOL (gOb xs p)).cs:=hGc.wide (fun k h1 _=>Nat.le_trans hn0 h1)
 replace hGp:Gr PaE (fun k=>gr+1<=k) u2 qa qc (rdOL (gOb xs p)).ps:=hGp.wide (fun k h1 _=>Nat.le_trans hn0 h1)
 have hlcB:∀c o,xa=some ⟨c,o,none⟩->gr+1<=c:=fun c o e=>Nat.le_trans hn0 (hlc c o e)
 have hlpB:∀c o,qa=some ⟨c,o,none⟩->gr+1<=c:=fun c o e=>Nat.le_trans hn0 (hlp c o e)
 have kc:=hGc.lenB
 have kp:=hGp.lenB
 obtain⟨V,hV,XO,hbV⟩:∃V,V=u2.alloc (.cells #[.slice xa (rdOL (gOb xs p)).cs.length xc,.slice qa (rdOL (gOb xs p)).ps.length qc] 57)/\Bk 57 V u2.heap.size [.slice xa (rdOL (gOb xs p)).cs.length xc,.slice qa (rdOL (gOb xs p)).ps.length qc]/\Below u2.heap.size u2 V:=⟨_,rfl,Bk.new _ _ _,bl1 _⟩
 go_upto_region 2 with fail
 rw[<-hV];clear hV hlc hlp hb2;replace XR:=XR.below hbV;replace hB1:=hB1.below hbV
 replace hKp:=hKp.trans (Kp.of hbV)
 replace hGc:=hGc.below hbV;replace hGp:=hGp.below hbV
 have hsV:=hbV.size
 obtain⟨go,hgo⟩:∃n,u2.heap.size=n:=⟨_,rfl⟩
 rw[hgo]at XO hs2 hsV
 try rw[hgo]
 have hro:gr+1<=go:=by omega
 clear hgo hbV hs1 hs2 hn0
 by_cases hE:rdOE (gOb xs p)=0
 rotate_left
 . have g1:(rdOE (gOb xs p) != 0)=true:=bne_iff_ne.2 hE
   have HNO:Hid (GlBad xs ax p):=Or.inl (zlq (fun h=>hE h.2.1))
   obtain⟨y0,y1,y2,y3,y4,y5,hf⟩:=XR.six
   have f0:=hf 0
   have f1:=hf 1
   have f2:=hf 2
   have f3:=hf 3
   have f4:=hf 4
   have f5:=hf 5
   have HA6:Hid (_):=(XR.set6 (.slice none 0 0) (.slice none 0 0) (.slice none 0 0) (.int .i64 0) (.int .i64 0) (.bool false)).six
   have HKF:Hid (Kp sb w (S6 V gr (.slice none 0 0) (.slice none 0 0) (.slice none 0 0) (.int .i64 0) (.int .i64 0) (.bool false))):=hKp.new6 (by have:=HGR.out;omega) _ _ _ _ _ _
   clear hE XR XO hB1 hKp hGc hGp hf HP1 hTb;go_wp2
   refine bodyPost_ret (v:=.tuple #[.agg #[.slice none 0 0,.slice none 0 0,.slice none 0 0,.int .i64 0,.int .i64 0,.bool false],.bool false]) (by obtain⟨r0,r1,r2,r3,r4,r5,-⟩:=HA6.out;simp[results,Tryz.results48,go_sem,r0,r1,r2,r3,r4,r5]) rfl ⟨.inl ⟨GlN.mk ⟨_,_,_,_,_,_,_,_,_,_,_,_,rfl⟩,HNO⟩,HKF.out⟩
 have HE:Hid (rdOE (gOb xs p)=0):=hE
 have hfo:=za1.1 (z00 hE)
 have HLc:Hid ((rdOL (gOb xs p)).cs.length<=10):=hfo.2.1
 have HLp:Hid ((rdOL (gOb xs p)).ps.length<=6):=hfo.2.2.1
 obtain⟨hq1,hq2⟩:=blk_o hE
 have HQ1:Hid (p1=g2 xs p):=HP1.out.trans hq1
 rw[HQ1.out]at hB1
 have HT2:Hid (gTb xs p=cutV xs ((g2 xs p:Int)+4) (nmV xs (g2 xs p:Int) 4:Int)):=zzi xs p
 have HB4:Hid (∀o,rdTE (gTb xs p) o ax=0->blkP xs (g2 xs p)=g4 xs p/\g4 xs p<=xs.length):=fun o h=>blk_t h
 have HG:Hid (∀v,v=rdGl xs ax p->v=rdGl xs ax p):=fun _ h=>h
 rw[hE];clear hfo hq1 HP1 hE
 have hB2:∀U,Kp sb w U->Bk 101 U sb [.slice a xs.length cap,.int .i64 (g2 xs p:Int)]->Sc 101 U sb a cap xs (g2 xs p):=fun U h1 h2=>HS0.out.of h1 h2
 obtain⟨pp,hpp⟩:∃n,g2 xs p=n:=⟨_,rfl⟩
 obtain⟨ob,hob⟩:∃o,rdOL (gOb xs p)=o:=⟨_,rfl⟩
 have HPP:Hid (g2 xs p=pp):=hpp
 have HOB:Hid (rdOL (gOb xs p)=ob):=hob
 rw[hpp]at hB1 hq2 HT2 hB2 HB4;rw[hob]at XO hGc hGp kc kp HLc HLp;rw[hob];clear hpp hob
 go_upto_region 4 with fail
 obtain⟨z0,z1,-⟩:=XO.two
 refine wp_region_held_drew (S:=fun w9=>w9.cell? ⟨go,0,none⟩=some (.slice xa ob.cs.length xc)/\w9.cell? ⟨go,1,none⟩=some (.slice qa ob.ps.length qc)) (by kernel_rfl) ?_ (fun hH=>?_)
 . (try dsimp only)
   go_keep
 have hdr:Below V.heap.size V V.drew:=Below.drew1
 generalize V.drew=Z at hdr hH ⊢
 replace XR:=XR.below hdr;replace XO:=XO.below hdr;replace hB1:=hB1.below hdr
 replace hKp:=hKp.trans (Kp.of hdr)
 replace hGc:=hGc.below hdr;replace hGp:=hGp.below hdr
 have hsZ:=hdr.size
 clear hdr z0 z1
 have hblk:=zkx sb a cap xs pp Z hB1 (hB2 Z hKp hB1).rb hl (by omega)
 rw[<-HT2.out]at hblk;refine hT 0 hH ?_;refine hT 2 hH ?_;refine hT 3 hH ?_
 refine hCall (i:=1) rfl (by kernel_rfl) (by rfl) (fun K hK=>?_)
 go_simp
 refine hblk.mono ?_
 rintro e u3 ⟨a2,c2,p2,rfl,hr2,zl2,hB3,HP2,hk3⟩
 have hs3:=hk3.size
 replace XR:=XR.kp hk3 (by omega)
 replace XO:=XO.kp hk3 (by omega)
 replace hKp:=hKp.trans hk3
 have hK3:=K3.kp (n:=gr+1) hk3 (by omega)
 replace hGc:=(zbq (zai (⟨_,_,rfl,fun c o e _=>hlcB c o e,hGc,by have:=HLc.out;omega⟩:PnE.row.row.rep (fun k=>gr+1<=k) Z [.slice xa ob.cs.length xc] ob.cs) hK3)).1
 replace hGp:=(zbq (zai (⟨_,_,rfl,fun c o e _=>hlpB c o e,hGp,by have:=HLp.out;omega⟩:PaE.row.rep (fun k=>gr+1<=k) Z [.slice qa ob.ps.length qc] ob.ps) hK3)).1
 clear hblk hB1 hk3 hK3 zl2
 go_wp2_with fail
 refine hK.out _ _ ?_ (fun hH=>?_)
 . (try dsimp only)
   exact⟨XO.two.1,XO.two.2.1⟩
 clear hK K
 try simp only[Act.put,pZ]
 have hrd:=zo6 a2 c2 (gTb xs p) _ xa xc qa qc ob ax u3 hr2 hGc hGp hi hTb
 refine hCall (i:=4) rfl (by kernel_rfl) (by rfl) (fun K hK=>?_)
 go_simp
 refine hrd.mono ?_
 rintro e u4 ⟨ta,tc,rfl,hGt,hlt,hb4⟩
 have hs4:=hb4.size
 replace XR:=XR.below hb4;replace XO:=XO.below hb4;replace hB3:=hB3.below hb4
 replace hKp:=hKp.trans (Kp.of hb4)
 replace hGc:=hGc.below hb4;replace hGp:=hGp.below hb4
 have hn3:gr+1<=u3.heap.size:=by omega
 replace hGt:Gr TuE (fun k=>gr+1<=k) u4 ta tc (rdTL (gTb xs p) ob ax):=hGt.wide (fun k h1 _=>Nat.le_trans hn3 h1)
 have hltB:∀c o,ta=some ⟨c,o,none⟩->gr+1<=c:=fun c o e=>Nat.le_trans hn3 (hlt c o e)
 have kt:=hGt.lenB
 clear hrd hr2 hb4 hlt
 go_wp2_with fail
 refine hK.out _ _ ?_ (fun hH=>?_)
 . (try dsimp only)
   exact⟨XO.two.1,XO.two.2.1⟩
 clear hK K
 try simp only[Act.put,pZ]
 refine hT 5 hH ?_;refine hT 6 hH ?_;refine hT 7 hH ?_;refine hT 8 hH ?_;refine hT 9 hH ?_
 refine wpAnyH_done (by kernel_rfl) ?_ _
 clear hH hn3 hs4 hs3 hsZ hsV
 by_cases hE2:rdTE (gTb xs p) ob ax=0
 rotate_left
 . have g1:(rdTE (gTb xs p) ob ax != 0)=true:=bne_iff_ne.2 hE2
   have HNO:Hid (GlBad xs ax p):=Or.inl (zlq (fun h=>hE2 (by rw[<-HOB.out];exact h.2.2)))
   obtain⟨y0,y1,y2,y3,y4,y5,hf⟩:=XR.six
   have f0:=hf 0
   have f1:=hf 1
   have f2:=hf 2
   have f3:=hf 3
   have f4:=hf 4
   have f5:=hf 5
   have HA6:Hid (_):=(XR.set6 (.slice none 0 0) (.slice none 0 0) (.slice none 0 0) (.int .i64 0) (.int .i64 0) (.bool false)).six
   have HKF:Hid (Kp sb w (S6 u4 gr (.slice none 0 0) (.slice none 0 0) (.slice none 0 0) (.int .i64 0) (.int .i64 0) (.bool false))):=hKp.new6 (by have:=HGR.out;omega) _ _ _ _ _ _
   clear hE2 XR XO hB3 hKp hGc hGp hf HP2 hTb hGt hB2;go_wp2
   refine bodyPost_ret (v:=.tuple #[.agg #[.slice none 0 0,.slice none 0 0,.slice none 0 0,.int .i64 0,.int .i64 0,.bool false],.bool false]) (by obtain⟨r0,r1,r2,r3,r4,r5,-⟩:=HA6.out;simp[results,Tryz.results48,go_sem,r0,r1,r2,r3,r4,r5]) rfl ⟨.inl ⟨GlN.mk ⟨_,_,_,_,_,_,_,_,_,_,_,_,rfl⟩,HNO⟩,HKF.out⟩
 have HE2:Hid (rdTE (gTb xs p) ob ax=0):=hE2
 have HLt:Hid ((rdTL (gTb xs p) ob ax).length<=40):=(zbc.1 (zft hE2).1).2.2.1
 obtain⟨hq3,hq4⟩:=HB4.out ob hE2
 have HQ2:Hid (p2=g4 xs p):=HP2.out.trans hq3
 rw[HQ2.out]at hB3;rw[hE2];clear hE2 hq3 HP2 HB4 HT2 hTb hB2
 obtain⟨p4,hp4⟩:∃n,g4 xs p=n:=⟨_,rfl⟩
 obtain⟨tl,htl⟩:∃o,rdTL (gTb xs p) ob ax=o:=⟨_,rfl⟩
 have HP4:Hid (g4 xs p=p4):=hp4
 have HTL:Hid (rdTL (gTb xs p) ob ax=tl):=htl
 rw[hp4]at hB3 hq4;rw[htl]at hGt kt HLt;rw[htl];clear hp4 htl
 have hSc:Sc 101 u4 sb a cap xs p4:=HS0.out.of hKp hB3
 have hi1:=fun U (hr:Rb U a cap xs)=>zgw a cap xs (p4:Int) U hr ⟨by omega,by omega⟩
 have hi2:=fun U (hr:Rb U a cap xs)=>zgw a cap xs ((p4+2:Nat):Int) U hr ⟨by omega,by omega⟩
 have hi3:=fun U (hr:Rb U a cap xs)=>zgc a cap xs ((p4+4:Nat):Int) U hr ⟨by omega,by omega⟩
 have hv1:=zia (zbd HBY.out (p4:Int) 2)
 have hv2:=zia (zbd HBY.out ((p4+2:Nat):Int) 2)
 have hv3:=zbd HBY.out ((p4+4:Nat):Int) 1
 have HV0:Hid (inB xs.length ((p4+4:Nat):Int) 1=false->nmV xs ((p4+4:Nat):Int) 1=0):=fun h=>by
  unfold nmV
  rw[if_neg (by rw[show inB xs.length ((p4+4:Nat):Int) ((1:Nat):Int)=false from h];decide)]
 have HIN:Hid (inB xs.length ((p4+4:Nat):Int) 1=true↔p4+5<=xs.length):=by
  show _↔_
  unfold inB
  rw[decide_eq_true_iff]
  omega
 obtain⟨v1,ev1⟩:∃z,sx16 (nmV xs (p4:Int) 2)=z:=⟨_,rfl⟩
 obtain⟨v2,ev2⟩:∃z,sx16 (nmV xs ((p4+2:Nat):Int) 2)=z:=⟨_,rfl⟩
 obtain⟨v3,ev3⟩:∃z,nmV xs ((p4+4:Nat):Int) 1=z:=⟨_,rfl⟩
 obtain⟨th,eth⟩:∃z,inB xs.length ((p4+4:Nat):Int) 1=z:=⟨_,rfl⟩
 have EV1:Hid (sx16 (nmV xs (p4:Int) 2)=v1):=ev1
 have EV2:Hid (sx16 (nmV xs ((p4+2:Nat):Int) 2)=v2):=ev2
 have EV3:Hid (nmV xs ((p4+4:Nat):Int) 1=v3):=ev3
 simp only[ev1]at hi1 hv1
 simp only[ev2]at hi2 hv2
 simp only[ev3,eth]at hi3
 rw[ev3,eth]at HV0;rw[eth]at HIN;rw[ev3]at hv3;clear ev1 ev2 ev3 eth
 have hw2:IntKind.i64.wrap ((p4:Int)+2)=((p4+2:Nat):Int):=by rw[zbb (by omega) (by omega)];omega
 have hw4:IntKind.i64.wrap ((p4:Int)+4)=((p4+4:Nat):Int):=by rw[zbb (by omega) (by omega)];omega
 have hw5:IntKind.i64.wrap ((p4:Int)+5)=((p4+5:Nat):Int):=by rw[zbb (by omega) (by omega)];omega
 -- base
 go_upto_region 7 with fail
 obtain⟨z0,z1,-⟩:=hSc.bk.two
 refine wp_region_held_drew (S:=fun w9=>w9.cell? ⟨sb,0,none⟩=some (.slice a xs.length cap)/\w9.cell? ⟨sb,1,none⟩=some (.int .i64 (p4:Int))) (by kernel_rfl) ?_ (fun hH=>?_)
 . (try dsimp only)
   go_keep
 have hdr:Below u4.heap.size u4 u4.drew:=Below.drew1
 generalize u4.drew=Z4 at hdr hH ⊢
 replace XR:=XR.below hdr;replace XO:=XO.below hdr
 replace hKp:=hKp.trans (Kp.of hdr)
 replace hGc:=hGc.below hdr;replace hGp:=hGp.below hdr;replace hGt:=hGt.below hdr;replace hSc:=hSc.below hdr;clear hdr z0 z1 hB3;refine hT 0 hH ?_;refine hT 1 hH ?_;refine hT 2 hH ?_;refine hT 3 hH ?_;refine hT 4 hH ?_;refine hT 5 hH ?_;refine hT 6 hH ?_;refine hT 7 hH ?_
 refine hCall (i:=8) rfl (by kernel_rfl) (by rfl) (fun K hK=>?_)
 go_simp
 refine(hi1 _ hSc.rb).mono ?_
 rintro e u ⟨rfl,rfl⟩
 go_wp2_with fail
 refine hK.out _ _ ?_ (fun hH=>?_)
 . (try dsimp only)
   exact hH
 clear hK K
 try simp only[Act.put,pZ]
 refine hT 9 hH ?_;refine hT 10 hH ?_;refine hT 11 hH ?_;refine hT 12 hH ?_;refine hT 13 hH ?_
 refine wpAnyH_done (by kernel_rfl) ?_ _
 clear hH hi1
 -- row
 go_upto_region 8 with fail
 obtain⟨z0,z1,-⟩:=hSc.bk.two
 refine wp_region_held_drew (S:=fun w9=>w9.cell? ⟨sb,0,none⟩=some (.slice a xs.length cap)/\w9.cell? ⟨sb,1,none⟩=some (.int .i64 (p4:Int))) (by kernel_rfl) ?_ (fun hH=>?_)
 . (try dsimp only)
   go_keep
 have hdr:Below Z4.heap.size Z4 Z4.drew:=Below.drew1
 generalize Z4.drew=Z5 at hdr hH ⊢
 replace XR:=XR.below hdr;replace XO:=XO.below hdr
 replace hKp:=hKp.trans (Kp.of hdr)
 replace hGc:=hGc.below hdr;replace hGp:=hGp.below hdr;replace hGt:=hGt.below hdr;replace hSc:=hSc.below hdr;clear hdr z0 z1;refine hT 0 hH ?_;refine hT 1 hH ?_;refine hT 2 hH ?_;refine hT 3 hH ?_;refine hT 4 hH ?_;refine hT 5 hH ?_;refine hT 6 hH ?_;refine hT 7 hH ?_
 refine hT 8 hH ?_
 try rw[hw2]
 refine hCall (i:=9) rfl (by kernel_rfl) (by rfl) (fun K hK=>?_)
 go_simp
 refine(hi2 _ hSc.rb).mono ?_
 rintro e u ⟨rfl,rfl⟩
 go_wp2_with fail
 refine hK.out _ _ ?_ (fun hH=>?_)
 . (try dsimp only)
   exact hH
 clear hK K
 try simp only[Act.put,pZ]
 refine hT 10 hH ?_;refine hT 11 hH ?_;refine hT 12 hH ?_;refine hT 13 hH ?_;refine hT 14 hH ?_
 refine wpAnyH_done (by kernel_rfl) ?_ _
 clear hH hi2
 -- mark
 go_upto_region 9 with fail
 obtain⟨z0,z1,-⟩:=hSc.bk.two
 refine wp_region_held_drew (S:=fun w9=>w9.cell? ⟨sb,0,none⟩=some (.slice a xs.length cap)/\w9.cell? ⟨sb,1,none⟩=some (.int .i64 (p4:Int))) (by kernel_rfl) ?_ (fun hH=>?_)
 . (try dsimp only)
   go_keep
 have hdr:Below Z5.heap.size Z5 Z5.drew:=Below.drew1
 generalize Z5.drew=Z6 at hdr hH ⊢
 replace XR:=XR.below hdr;replace XO:=XO.below hdr
 replace hKp:=hKp.trans (Kp.of hdr)
 replace hGc:=hGc.below hdr;replace hGp:=hGp.below hdr;replace hGt:=hGt.below hdr;replace hSc:=hSc.below hdr;clear hdr z0 z1;refine hT 0 hH ?_;refine hT 1 hH ?_;refine hT 2 hH ?_;refine hT 3 hH ?_;refine hT 4 hH ?_;refine hT 5 hH ?_;refine hT 6 hH ?_;refine hT 7 hH ?_
 refine hT 8 hH ?_
 try rw[hw4]
 refine hCall (i:=9) rfl (by kernel_rfl) (by rfl) (fun K hK=>?_)
 go_simp
 refine(hi3 _ hSc.rb).mono ?_
 rintro e u ⟨rfl,rfl⟩
 go_wp2_with fail
 refine hK.out _ _ ?_ (fun hH=>?_)
 . (try dsimp only)
   exact hH
 clear hK K
 try simp only[Act.put,pZ]
 refine hT 10 hH ?_;refine hT 11 hH ?_;refine hT 12 hH ?_;refine hT 13 hH ?_;refine hT 14 hH ?_
 refine wpAnyH_done (by kernel_rfl) ?_ _
 clear hH hi3
 -- the end
 obtain⟨U,hU⟩:∃U,U=Z6.setCell ⟨sb,1,none⟩ (.int .i64 ((p4:Int)+5)):=⟨_,rfl⟩
 have hSU:Sc 101 U sb a cap xs (p4+5):=by rw[hU,show((p4:Int)+5)=((p4+5:Nat):Int) by omega];exact hSc.step (p4+5)
 have XRU:Bk 62 U gr [.slice none 0 0,.slice none 0 0,.slice none 0 0,.int .i64 0,.int .i64 0,.bool false]:=by rw[hU];exact XR.other 1 _ (by omega)
 have XOU:Bk 57 U go [.slice xa ob.cs.length xc,.slice qa ob.ps.length qc]:=by rw[hU];exact XO.other 1 _ (by omega)
 have hKU:Kp sb w U:=by rw[hU];exact hKp.setCell 1 _
 have hK3:K3 (gr+1) Z6 U:=by rw[hU];exact K3.set _ (by omega) 1 _
 have HFG:Hid (∀mr:Bool,GlC (fun k=>gr+1<=k) (S6 U gr (.slice xa ob.cs.length xc) (.slice qa ob.ps.length qc) (.slice ta tl.length tc) (.int .i64 v1) (.int .i64 v2) (.bool mr)) xa xc qa qc ta tc ⟨ob,tl,v1,v2,mr⟩):=fun mr=>by
  have h6:=hK3.trans (K3.set6 (n:=gr+1) U (b:=gr) (by omega) (.slice xa ob.cs.length xc) (.slice qa ob.ps.length qc) (.slice ta tl.length tc) (.int .i64 v1) (.int .i64 v2) (.bool mr))
  exact⟨zai (⟨_,_,rfl,fun c o e _=>hlcB c o e,hGc,by have:=HLc.out;omega⟩:PnE.row.row.rep (fun k=>gr+1<=k) Z6 [.slice xa ob.cs.length xc] ob.cs) h6,zai (⟨_,_,rfl,fun c o e _=>hlpB c o e,hGp,by have:=HLp.out;omega⟩:PaE.row.rep (fun k=>gr+1<=k) Z6 [.slice qa ob.ps.length qc] ob.ps) h6,zai (⟨_,_,rfl,fun c o e _=>hltB c o e,hGt,by have:=HLt.out;omega⟩:TuE.row.rep (fun k=>gr+1<=k) Z6 [.slice ta tl.length tc] tl) h6,hv1,hv2⟩
 have HFK:Hid (∀mr:Bool,Kp sb w (S6 U gr (.slice xa ob.cs.length xc) (.slice qa ob.ps.length qc) (.slice ta tl.length tc) (.int .i64 v1) (.int .i64 v2) (.bool mr))):=fun mr=>hKU.new6 (by have:=HGR.out;omega) _ _ _ _ _ _
 have HFS:Hid (∀mr:Bool,Sc 101 (S6 U gr (.slice xa ob.cs.length xc) (.slice qa ob.ps.length qc) (.slice ta tl.length tc) (.int .i64 v1) (.int .i64 v2) (.bool mr)) sb a cap xs (p4+5)):=fun mr=>HS0.out.of (HFK.out mr) (hSU.bk.other6 (by omega) _ _ _ _ _ _)
 have HFX:Hid (∀mr:Bool,Bk 62 (S6 U gr (.slice xa ob.cs.length xc) (.slice qa ob.ps.length qc) (.slice ta tl.length tc) (.int .i64 v1) (.int .i64 v2) (.bool mr)) gr [.slice xa ob.cs.length xc,.slice qa ob.ps.length qc,.slice ta tl.length tc,.int .i64 v1,.int .i64 v2,.bool mr]):=fun mr=>XRU.set6 _ _ _ _ _ _
 obtain⟨z0,z1,hzf⟩:=hSc.bk.two
 have zf1:=hzf.2
 clear XR XO hKp hGc hGp hGt hSc hKU hSU hK3 hzf
 go_upto_region 11 with fail
 rw[<-hU];clear z0 z1 zf1 hU;obtain⟨x0,x1,-⟩:=XOU.two;obtain⟨y0,y1,y2,y3,y4,y5,hf⟩:=XRU.six
 have f0:=hf 0
 have f1:=hf 1
 have f2:=hf 2
 have f3:=hf 3
 have f4:=hf 4
 have f5:=hf 5
 clear hf XOU XRU
 cases th with
 | false =>
  have hv0:=HV0.out rfl
  have HNO:Hid (GlBad xs ax p):=Or.inl (zlq (fun h=>by have h1:=h.1;rw[HP4.out]at h1;exact absurd (HIN.out.2 h1) (by decide)))
  have g5:((v3:Int)==1)=false:=by rw[hv0];rfl
  have g6:decide ((v3:Int)=1)=false:=by rw[hv0];rfl
  have HA6:Hid (_):=(HFX.out false).six
  clear hv0 HV0 HIN hw2 hw4 hw5;go_wp2
  refine bodyPost_ret (v:=.tuple #[.agg #[.slice xa ob.cs.length xc,.slice qa ob.ps.length qc,.slice ta tl.length tc,.int .i64 v1,.int .i64 v2,.bool false],.bool false]) (by obtain⟨r0,r1,r2,r3,r4,r5,-⟩:=HA6.out;simp[results,Tryz.results48,go_sem,r0,r1,r2,r3,r4,r5]) rfl ⟨.inl ⟨GlN.mk ⟨_,_,_,_,_,_,_,_,_,_,_,_,rfl⟩,HNO⟩,HFK.out false⟩
 | true =>
 have HLE:Hid (p4+5<=xs.length):=HIN.out.1 rfl
 have HRD:Hid (rdGl xs ax p=some (⟨ob,tl,v1,v2,decide (v3=1)⟩,p4+5)):=by
  have h:=zv7 (b:=xs) (ax:=ax) (p:=p) (by rw[HP4.out];exact HLE.out) HE.out (by rw[HOB.out];exact HE2.out)
  rw[HP4.out,HOB.out,HTL.out,EV1.out,EV2.out,EV3.out]at h
  exact h
 have HMK:Hid (nmV xs ((g4 xs p+4:Nat):Int) 1=v3):=by show _=_;rw[HP4.out];exact EV3.out
 clear HV0 HIN hw2 hw4 hw5
 by_cases z1y:v3=1
 . have g5:((v3:Int)==1)=true:=by rw[z1y];rfl
   have g6:decide ((v3:Int)=1)=true:=by rw[z1y];rfl
   have g7:(v3:Int)<=1:=by omega
   have HA6:Hid (_):=(HFX.out true).six
   have HR2:Hid (rdGl xs ax p=some (⟨ob,tl,v1,v2,true⟩,p4+5)):=by have h:=HRD.out;rw[decide_eq_true z1y]at h;exact h
   have HM2:Hid (nmV xs ((g4 xs p+4:Nat):Int) 1<=1):=by show _<=_;rw[HMK.out];omega
   clear z1y HRD HMK;go_wp2
   refine bodyPost_ret (v:=.tuple #[.agg #[.slice xa ob.cs.length xc,.slice qa ob.ps.length qc,.slice ta tl.length tc,.int .i64 v1,.int .i64 v2,.bool true],.bool true]) (by obtain⟨r0,r1,r2,r3,r4,r5,-⟩:=HA6.out;simp[results,Tryz.results48,go_sem,r0,r1,r2,r3,r4,r5]) rfl ⟨.inr ⟨⟨xa,xc,qa,qc,ta,tc,⟨ob,tl,v1,v2,true⟩,p4+5,rfl,by rw[HGR.out];exact HFG.out true,HFS.out true,HR2,HM2⟩⟩,HFK.out true⟩
 have g5:((v3:Int)==1)=false:=by simp;omega
 have g6:decide ((v3:Int)=1)=false:=decide_eq_false (by omega)
 have HA6:Hid (_):=(HFX.out false).six
 by_cases hv30:v3<=1
 . have g7:(v3:Int)<=1:=by omega
   have HR2:Hid (rdGl xs ax p=some (⟨ob,tl,v1,v2,false⟩,p4+5)):=by have h:=HRD.out;rw[decide_eq_false z1y]at h;exact h
   have HM2:Hid (nmV xs ((g4 xs p+4:Nat):Int) 1<=1):=by show _<=_;rw[HMK.out];omega
   clear z1y HRD HMK hv30;go_wp2
   refine bodyPost_ret (v:=.tuple #[.agg #[.slice xa ob.cs.length xc,.slice qa ob.ps.length qc,.slice ta tl.length tc,.int .i64 v1,.int .i64 v2,.bool false],.bool true]) (by obtain⟨r0,r1,r2,r3,r4,r5,-⟩:=HA6.out;simp[results,Tryz.results48,go_sem,r0,r1,r2,r3,r4,r5]) rfl ⟨.inr ⟨⟨xa,xc,qa,qc,ta,tc,⟨ob,tl,v1,v2,false⟩,p4+5,rfl,by rw[HGR.out];exact HFG.out false,HFS.out false,HR2,HM2⟩⟩,HFK.out false⟩
 . have g7:¬(v3:Int)<=1:=by omega
   have HNO:Hid (GlBad xs ax p):=Or.inr ⟨_,_,HRD.out,by rw[HMK.out];exact hv30⟩
   clear z1y HRD HMK hv30;go_wp2
   refine bodyPost_ret (v:=.tuple #[.agg #[.slice xa ob.cs.length xc,.slice qa ob.ps.length qc,.slice ta tl.length tc,.int .i64 v1,.int .i64 v2,.bool false],.bool false]) (by obtain⟨r0,r1,r2,r3,r4,r5,-⟩:=HA6.out;simp[results,Tryz.results48,go_sem,r0,r1,r2,r3,r4,r5]) rfl ⟨.inl (GlN.mk ⟨_,_,_,_,_,_,_,_,_,_,_,_,rfl⟩),HFK.out false⟩
theorem z1x:(Tryz.prog.info? 62).map (fun i=>(i.zero,i.size,i.bytes))=some (some (.agg #[.slice none 0 0,.slice none 0 0,.slice none 0 0,.int .i64 0,.int .i64 0,.bool false]),6,96):=by kernel_rfl
theorem KgI.le{b:LN}{ax:Int}{k:Nat}{l:List Gl}{q:Nat}(h:KgI b ax k l q)(hb:b.length<=1048576):q<=1100000:=by
 by_cases hk:0<k
 . have:=h.hi hk
   omega
 . have h1:=h.rd
   rw[show k=0 by omega,rdGk]at h1
   injection h1 with h1;injection h1 with h1 h2
   omega
theorem KgI.ps{b:LN}{ax:Int}{k:Nat}{l:List Gl}{q:Nat}(h:KgI b ax k l q):∀x∈l,x.o.ps.length<=12:=fun x hx=>by
 have h1:=zf0.1 h.fr x hx
 rcases zey x.o with h2|h2|h2
 . have:=(za1.1 h2.2).2.2.1
   omega
 . rw[h2.1]at h1;exact absurd h1 (by decide)
 . rw[h2.1]at h1;exact absurd h1 (by decide)
theorem zg1(ba:OA)(bc:Nat)(xs:LN)(ga:OA)(gc:Nat)(ma:OA)(mc:Nat)(s:Sr)(ax:Int)(w:World)(hx:Rb w ba bc xs)(hg:Tzz w ga gc s.rg)(hm:Rii w ma mc s.rw)(hi:I64 ax)(hxl:xs.length<=1048576)(hT:∀k tl q,k<nmV xs 0 2->rdGk xs ax k=some (tl,q)->(gTb xs q).length<=100000) :
 Calls Tryz.prog 23 #[.slice ba xs.length bc,.agg #[.slice ga s.rg.length gc,.slice ma s.rw.length mc],.int .i64 ax] w fun e w'=>∃a' c',e=.returned (.tuple #[.slice a' (rdGL xs s ax).length c',.int .i64 (rdGE xs s ax)])/\Gr GlE (fun k=>w.heap.size<=k) w' a' c' (rdGL xs s ax)/\(∀c o,a'=some ⟨c,o,none⟩->w.heap.size<=c)/\Below w.heap.size w w':=by
 have k2:=hm.lenB
 have k3:=hg.lenB
 have hpc:=hx.le
 have hpm:=hx.cap
 unfold maxLen at hpm
 obtain⟨W,hW,X1,hbW⟩:∃W,W=w.alloc (.cells #[.slice ga s.rg.length gc,.slice ma s.rw.length mc] 26)/\Bk 26 W w.heap.size [.slice ga s.rg.length gc,.slice ma s.rw.length mc]/\Below w.heap.size w W:=⟨_,rfl,Bk.new _ _ _,bl1 _⟩
 replace hg:=hg.below hbW;replace hm:=hm.below hbW;replace hx:=hx.below hbW
 have hu:=zgd ba bc xs 0 W hx ⟨by decide,by decide⟩
 have hnl:=zbd hx.lim 0 2
 have zqo:Hid (rdGOk xs s ax=false->rdGL xs s ax=[]/\rdGE xs s ax=2):=zlp
 have HB1:Hid (¬nmV xs 0 2<=100->rdGOk xs s ax=false):=zr3
 have z3q:Hid (∀k tl q,KgI xs ax k tl q->k<nmV xs 0 2->GlBad xs ax q->rdGOk xs s ax=false):=fun k tl q h1 h2 h3=>by
  rcases h3 with h3|⟨x,q2,h3,h4⟩
  . exact h1.bad1 h2 h3
  . exact h1.bad2 h2 h3 h4
 have HB3:Hid (∀tl q,KgI xs ax (nmV xs 0 2) tl q->q≠xs.length->rdGOk xs s ax=false):=fun tl q h1 h2=>h1.bad3 h2
 have HB4:Hid (∀tl q,KgI xs ax (nmV xs 0 2) tl q->foG tl s ax=false->rdGOk xs s ax=false):=fun tl q h1 h2=>h1.bad4 h2
 have HGD:Hid (∀tl,KgI xs ax (nmV xs 0 2) tl xs.length->foG tl s ax=true->rdGL xs s ax=tl/\rdGE xs s ax=0):=fun tl h1 h2=>h1.good hx.lim h2 hxl
 have HTT:Hid (∀k tl q,KgI xs ax k tl q->k<nmV xs 0 2->(gTb xs q).length<=100000):=fun k tl q h1 h2=>hT k tl q h2 h1.rd
 have HBY:Hid (Byt xs):=hx.lim
 obtain⟨n,hn⟩:∃n,nmV xs 0 2=n:=⟨_,rfl⟩
 generalize inB xs.length 0 2=qb at hu
 rw[hn]at hu hnl HB1 z3q HB3 HB4 HGD HTT
 have hn6:n<65536:=hnl
 have g0:decide ((1048576:Int)<(xs.length:Int))=false:=decide_eq_false (by omega)
 clear hnl hn hT;obtain⟨p0,p1,_⟩:=X1.two
 go_enter Tryz.func23,Tryz.ntmps23
 go_upto_region 1 with fail
 rw[<-hW];clear hW
 go_wp2_with fail
 refine hu.mono ?_
 rintro e u0 ⟨rfl,rfl⟩;clear hu
 by_cases hn4:n<=100
 rotate_left
 . have g1:decide ((100:Int)<(n:Int))=true:=decide_eq_true (by omega)
   have HNO:Hid (_):=zqo.out (HB1.out hn4)
   clear hg hm hx HB1 HB3 HB4 HGD HTT z3q X1;go_wp2
   go_ret2
   exact⟨none,0,by rw[HNO.out.1,HNO.out.2];rfl,by rw[HNO.out.1];exact Gr.nil _ _ _ _ _ (Nat.zero_le _) (fun _=>rfl),(fun c o e=>by cases e),hbW⟩
 have g1:decide ((100:Int)<(n:Int))=false:=decide_eq_false (by omega)
 obtain⟨V,hV,XS,hbV⟩:∃V,V=W.alloc (.cells #[.slice ba xs.length bc,.int .i64 2] 101)/\Bk 101 V W.heap.size [.slice ba xs.length bc,.int .i64 2]/\Below W.heap.size W V:=⟨_,rfl,Bk.new _ _ _,bl1 _⟩
 have hS0:Sc 101 V W.heap.size ba bc xs 2:=⟨XS,hx.below hbV,fun b o e hne=>Nat.ne_of_lt (hx.blk hne e)⟩
 have HX1:Hid (Bk 26 W w.heap.size [.slice ga s.rg.length gc,.slice ma s.rw.length mc]):=X1
 have HG0:Hid (Tzz W ga gc s.rg):=hg
 have HM0:Hid (Rii W ma mc s.rw):=hm
 have HX:Hid (Rb W ba bc xs):=hx
 have HBW:Hid (Below w.heap.size w W):=hbW
 have HVS:Hid (V.heap.size=W.heap.size+1):=by show _=_;rw[hV];simp
 obtain⟨g,hgg⟩:∃g,W.heap.size=g:=⟨_,rfl⟩
 have HG:Hid (W.heap.size=g):=hgg
 have hB0:Below W.heap.size W V:=hbV
 go_upto_region 5 with fail
 rw[<-hV];rw[hgg]at hS0 HVS
 try rw[hgg]
 clear hV XS hbV X1 hg hm hx hbW hgg g0 g1 p0 p1;go_wp2
 go_loopw [11,30] (fun v i wr=>∃(k:Nat) (tl:List Gl) (q:Nat),k<=n/\i=.int .i64 k/\Hid (KgI xs ax k tl q)/\Sc 101 wr g ba bc xs q/\Gw GlE 62 (g+1) (fun k=>g+1<=k) wr v tl/\g+1<=wr.heap.size/\Below W.heap.size W wr) (fun _ i _=>n-(intOf i).toNat)
 case atStart=>exact⟨0,[],2,Nat.zero_le _,rfl,KgI.zero _ _,hS0,Gw.nil _ _ _ _ _,by rw[HVS.out];exact Nat.le_refl _,hB0⟩
 case round =>
  clear hS0 hB0;obtain⟨k,tl,q,hk,rfl,HK,hS,hGw,hgs,hB⟩:=hrel
  have hlk:=zin HK.out.rd
  have HLK:Hid (tl.length=k):=hlk
  by_cases hkn:k<n
  . have g2:(k:Int)<(n:Int):=by omega
    obtain⟨a6,c6,rfl,-,-⟩:=hGw.slice
    have htu:=zxh g ba bc xs q ax wr hS hxl (HK.out.le hxl) hi (HTT.out k tl q HK.out hkn)
    rw[hlk]at hGw ⊢;clear hlk
    go_wp2_with fail
    refine htu.mono ?_
    rintro e u2 ⟨hta,hk2⟩
    have hs2:=hk2.size
    have hOW:∀q,(Value.slice a6 k c6).ownBlock=some q->g+1<=q/\q<wr.heap.size:=fun q e=>hGw.lo e
    replace hGw:=hGw.kpS hS.bk (by decide) (by omega) hk2
    replace hB:=hB.trans (hk2.below hB.size (by rw[HG.out];exact Nat.le_refl _))
    rcases hta with ⟨hta,HBA⟩|hta
    . obtain⟨⟨b0,n0,c0,b1,n1,c1,b2,n2,c2,z0,z1,bb,rfl⟩⟩:=hta
      have HNO:Hid (_):=zqo.out (z3q.out k tl q HK.out hkn HBA.out)
      have hBf:Below W.heap.size W (u2.alloc (.cells #[.slice b0 n0 c0,.slice b1 n1 c1,.slice b2 n2 c2,.int .i64 z0,.int .i64 z1,.bool bb] 62)):=hB.trans ((bl1 _).mono hB.size)
      have zqp:Hid (_):=HBW.out.trans (hBf.mono HBW.out.size)
      clear hGw hS htu hk2 hB HB1 HB3 HB4 HGD HTT z3q hBf HK HBA hOW;go_wp2
      go_ret2
      exact⟨none,0,by rw[HNO.out.1,HNO.out.2];rfl,by rw[HNO.out.1];exact Gr.nil _ _ _ _ _ (Nat.zero_le _) (fun _=>rfl),(fun c o e=>by cases e),zqp.out⟩
    . obtain⟨⟨xa,xc,qa,qc,ta,tc,t,q2,rfl,hTC,hS2,HRD,HMK⟩⟩:=hta
      have HK2:Hid (KgI xs ax (k+1) (tl++[t]) q2):=HK.out.succ HBY.out HRD.out HMK.out
      have HOW:Hid (∀q,(Value.slice a6 k c6).ownBlock=some q->g+1<=q/\q<wr.heap.size):=fun q e=>hOW q e
      have l1:=hTC.cs.lenB
      have l2:=hTC.ps.lenB
      have l3:=hTC.ts.lenB
      obtain⟨U,hU,XU,hbU⟩:∃U,U=u2.alloc (.cells #[.slice xa t.o.cs.length xc,.slice qa t.o.ps.length qc,.slice ta t.ts.length tc,.int .i64 t.ab,.int .i64 t.ar,.bool t.mr] 62)/\Bk 62 U u2.heap.size [.slice xa t.o.cs.length xc,.slice qa t.o.ps.length qc,.slice ta t.ts.length tc,.int .i64 t.ab,.int .i64 t.ar,.bool t.mr]/\Below u2.heap.size u2 U:=⟨_,rfl,Bk.new _ _ _,bl1 _⟩
      clear hS htu hk2 hOW HRD HMK HK
      go_upto_region 9 with fail
      rw[<-hU];clear hU;replace hS2:=hS2.below hbU;replace hGw:=hGw.below hbU;replace hTC:=hTC.below hbU
      replace hB:=hB.trans (hbU.mono hB.size)
      have hs3:=hbU.size
      clear hbU
      obtain⟨V9,hV9,Y9,hb9⟩:∃V,V=U.alloc (.cells #[.slice xa t.o.cs.length xc,.slice qa t.o.ps.length qc,.slice ta t.ts.length tc,.int .i64 t.ab,.int .i64 t.ar,.bool t.mr] 62)/\Bk 62 V U.heap.size [.slice xa t.o.cs.length xc,.slice qa t.o.ps.length qc,.slice ta t.ts.length tc,.int .i64 t.ab,.int .i64 t.ar,.bool t.mr]/\Below U.heap.size U V:=⟨_,rfl,Bk.new _ _ _,bl1 _⟩
      obtain⟨y0,y1,y2,y3,y4,y5,-⟩:=XU.six
      have hGb:=hGw.below hb9
      have zjw:GlE.rep (fun q=>g+1<=q/\(Value.slice a6 k c6).ownBlock≠some q) V9 [.slice xa t.o.cs.length xc,.slice qa t.o.ps.length qc,.slice ta t.ts.length tc,.int .i64 t.ab,.int .i64 t.ar,.bool t.mr] t:=GlE.stay (zjv.2 ⟨xa,xc,qa,qc,ta,tc,rfl,hTC.below hb9⟩) (Nat.le_refl _) (fun q h1 _=>⟨⟨by omega,fun e=>by have:=(HOW.out q e).2;omega⟩,rfl⟩)
      have zba:=Gr.one (E:=GlE) zjw Y9.lt (fun j hj=>Y9.cell j hj)
      have hBb:Below W.heap.size W V9:=hB.trans (hb9.mono hB.size)
      have hs9:=hb9.size
      have hbs:g+1<=V9.heap.size:=by omega
      have hS9:=hS2.below hb9
      have hll:tl.length+1<=1000000:=by rw[HLK.out];omega
      clear zjw hGw hTC hS2 hB
      go_wp2_with (at_builtin;rw[<-hV9];refine zad 22 62 Tryz.underlying22 z1x rfl (by decide) (by decide) rfl _ _ rfl (g+1) (fun k=>g+1<=k) _ tl rfl hGb (some ⟨U.heap.size,0,none⟩) 1 1 [t] rfl rfl zba hll hbs ?_)
      intro v9 w9 hT9 hgrow _
      rw[<-hV9]at hgrow
      have hB9:Below W.heap.size W w9:=hBb.grown hgrow hBb.size (fun q hq=>by have:=(HOW.out q hq).1;have:=HG.out;omega)
      have zxf:=hS9.grown hgrow (fun e=>by have:=(HOW.out g e).1;omega) (fun b o e hne e2=>by have:=(HOW.out b e2).1;have:=HX.out.blk hne e;have:=HG.out;omega)
      have hs10:g+1<=w9.heap.size:=Nat.le_trans hbs hgrow.size
      clear hgrow hGb zba hbs hll hBb hV9 Y9 y0 y1 y2 y3 y4 y5 XU hb9 hS9;go_wp2
      go_roundw
      case rel=>exact⟨k+1,tl++[t],q2,by omega,by go_num,HK2,zxf,hT9,hs10,hB9⟩
      case measure=>simp[intOf];omega
  . have hkk:k=n:=by omega
    have HKN:Hid (KgI xs ax n tl q):=by rw[<-hkk];exact HK.out
    have g4:¬(k:Int)<(n:Int):=by omega
    obtain⟨a6,c6,rfl,hgr,hb6⟩:=hGw.slice
    have HLO:Hid (∀c o,a6=some ⟨c,o,none⟩->w.heap.size<=c):=fun c o e=>by
     have h1:=(hb6 c o e).1
     have h2:=HBW.out.size
     have h3:=HG.out
     omega
    have HLW:Hid (∀k,g+1<=k->w.heap.size<=k):=fun k h1=>by
     have h2:=HBW.out.size
     have h3:=HG.out
     omega
    clear hb6 hkk hlk hkn HK
    have hX1:=HX1.out.below hB
    obtain⟨p0,p1,_⟩:=hX1.two;obtain⟨s0,s1,-⟩:=hS.bk.two
    have hBw:=HBW.out.trans (hB.mono HBW.out.size)
    have hgf:=zky _ a6 c6 tl ga gc ma mc s ax wr hgr HKN.out.ps (HG0.out.below hB) (HM0.out.below hB) hi
    have HGR:Hid (Gr GlE (fun k=>g+1<=k) wr a6 c6 tl):=hgr
    clear hGw hX1 hgr
    by_cases hq:q=xs.length
    rotate_left
    . have g5:((q:Int) != (xs.length:Int))=true:=bne_iff_ne.2 (by omega)
      have HNO:Hid (_):=zqo.out (HB3.out tl q HKN.out hq)
      clear hgf hS hq HB1 HB3 HB4 HGD HTT z3q HKN;go_wp2
      go_ret2
      exact⟨none,0,by rw[HNO.out.1,HNO.out.2];rfl,by rw[HNO.out.1];exact Gr.nil _ _ _ _ _ (Nat.zero_le _) (fun _=>rfl),(fun c o e=>by cases e),hBw⟩
    have g5:((q:Int) != (xs.length:Int))=false:=by rw[hq];simp
    have HQ:Hid (q=xs.length):=hq
    clear hq hS
    cases hfo:foG tl s ax with
    | false =>
     rw[hfo]at hgf
     have HNO:Hid (_):=zqo.out (HB4.out tl q HKN.out hfo)
     clear hfo HB1 HB3 HB4 HGD HTT z3q HKN
     go_wp2_with fail
     refine hgf.mono ?_
     rintro e u3 ⟨rfl,hb3⟩
     have zqp:Hid (_):=hBw.trans (hb3.mono hBw.size)
     clear hgf hb3;go_wp2
     go_ret2
     exact⟨none,0,by rw[HNO.out.1,HNO.out.2];rfl,by rw[HNO.out.1];exact Gr.nil _ _ _ _ _ (Nat.zero_le _) (fun _=>rfl),(fun c o e=>by cases e),zqp.out⟩
    | true =>
     rw[hfo]at hgf
     have HYS:Hid (_):=HGD.out tl (by have h:=HKN.out;rw[HQ.out]at h;exact h) hfo
     clear hfo HB1 HB3 HB4 HGD HTT z3q HKN
     go_wp2_with fail
     refine hgf.mono ?_
     rintro e u3 ⟨rfl,hb3⟩
     have zqp:Hid (_):=hBw.trans (hb3.mono hBw.size)
     have HGF:Hid (Gr GlE (fun k=>w.heap.size<=k) u3 a6 c6 tl):=(HGR.out.below hb3).wide (fun k h1 _=>HLW.out k h1)
     clear hgf hb3;go_wp2
     go_ret2
     exact⟨a6,c6,by rw[HYS.out.1,HYS.out.2];rfl,by rw[HYS.out.1];exact HGF.out,HLO.out,zqp.out⟩
theorem zs4{xs ys:LN}(hl:xs.length=ys.length)(h:∀k,k<xs.length->xs.getD k 0=ys.getD k 0):xs=ys:=by
 apply List.ext_getElem hl
 intro i h1 h2
 have:=h i h1
 simpa [List.getD,h1,h2] using this
theorem zhp(a b:OA)(ca cb:Nat)(xs ys:LN)(w:World)(ha:Rb w a ca xs)(hb:Rb w b cb ys) :
 Calls Tryz.prog 25 #[.slice a xs.length ca,.slice b ys.length cb] w fun e w'=>e=.returned (.bool (decide (xs=ys)))/\Below w.heap.size w w':=by
 by_cases hl:xs.length=ys.length
 rotate_left
 . have hne:((xs.length:Int) != (ys.length:Int))=true:=by simp;omega
   have hd:decide (xs=ys)=false:=decide_eq_false (fun e=>hl (by rw[e]))
   rw[hd]
   go_enter Tryz.func25,Tryz.ntmps25
   go_wp2
   go_ret
   exact⟨rfl,Below.refl _ _⟩
 have k1:=ha.le
 have k2:=ha.cap
 unfold maxLen at k2
 have fa:=ha.fm
 have fb:=hb.fm
 clear ha hb
 have HL:Hid (xs.length=ys.length):=hl
 have hne:((xs.length:Int) != (ys.length:Int))=false:=by simp;omega
 obtain⟨ly,hly⟩:∃ly,ys.length=ly:=⟨_,rfl⟩
 rw[hly]at hl hne ⊢
 have HLY:Hid (ys.length=ly):=hly
 subst hl;clear hly
 have HD:Hid (∀B:Bool,decide (xs=ys)=B->decide (xs=ys)=B):=fun _ h=>h
 generalize hD:decide (xs=ys)=D at *
 have HDD:Hid (decide (xs=ys)=D):=hD
 clear hD HD
 go_enter Tryz.func25,Tryz.ntmps25
 go_wp2
 go_loopw [5] (fun i wr=>∃k:Nat,k<=xs.length/\i=.int .i64 k/\(∀j,j<k->xs.getD j 0=ys.getD j 0)/\Below w.heap.size w wr) (fun i _=>xs.length-(intOf i).toNat)
 case atStart=>exact⟨0,Nat.zero_le _,rfl,fun j hj=>by omega,Below.refl _ _⟩
 case round =>
  obtain⟨k,hk,rfl,hall,hnx⟩:=hrel
  have HALL:Hid (∀j,j<k->xs.getD j 0=ys.getD j 0):=hall
  clear hall
  by_cases hkn:k<xs.length
  . obtain⟨b1,o1,rfl,_,c1⟩:=fa.at hnx k hkn
    obtain⟨b2,o2,rfl,_,c2⟩:=fb.at hnx k (by rw[HLY.out];exact hkn)
    obtain⟨x,hx⟩:∃x,xs.getD k 0=x:=⟨_,rfl⟩
    obtain⟨y,hy⟩:∃y,ys.getD k 0=y:=⟨_,rfl⟩
    rw[hx]at c1;rw[hy]at c2
    have HX:Hid (xs.getD k 0=x):=hx
    have HY:Hid (ys.getD k 0=y):=hy
    clear hx hy
    have i1:(0:Int)<=(k:Int):=by omega
    have i2:(k:Int)<(xs.length:Int):=by omega
    by_cases hxy:x=y
    . subst hxy
      have hxx:((x:Int) != (x:Int))=false:=by simp
      go_wp2_with fail
      go_quiet (fail)
      go_wp2
      go_roundw
      case rel =>
       refine⟨k+1,by omega,by go_num,fun j hj=>?_,below_drewN hnx _⟩
       rcases Nat.lt_or_ge j k with h1|h1
       . exact HALL.out j h1
       . rw[show j=k by omega,HX.out,HY.out]
      case measure=>simp[intOf];omega
    . have hxx:((x:Int) != (y:Int))=true:=by simp;omega
      have hDf:D=false:=by
       rw[<-HDD.out]
       refine decide_eq_false (fun e=>?_)
       have h1:=HX.out
       rw[e,HY.out]at h1
       exact hxy h1.symm
      clear hxy
      go_wp2_with fail
      go_quiet (fail)
      go_wp2
      go_ret
      exact⟨zaa (by rw[hDf]),below_drewN hnx _⟩
  . obtain rfl:k=xs.length:=by omega
    have hDt:D=true:=by
     rw[<-HDD.out]
     exact decide_eq_true (zs4 (by rw[HLY.out]) HALL.out)
    go_wp2
    go_ret
    exact⟨zaa (by rw[hDt]),hnx⟩
theorem zdv{B b:Nat}{w u:World}(h:Below B w u)(hb:B<=b)(y0 y1 y2 y3 y4:Value):Below B w (((((u.setCell ⟨b,0,none⟩ y0).setCell ⟨b,1,none⟩ y1).setCell ⟨b,2,none⟩ y2).setCell ⟨b,3,none⟩ y3).setCell ⟨b,4,none⟩ y4):=((((h.setCell (p:=⟨b,0,none⟩) hb _).setCell (p:=⟨b,1,none⟩) hb _).setCell (p:=⟨b,2,none⟩) hb _).setCell (p:=⟨b,3,none⟩) hb _).setCell (p:=⟨b,4,none⟩) hb _
theorem zcm(a:OA)(ca:Nat)(b:OA)(cb:Nat)(l:List Int)(w:World)(ha:Ri w a ca l)(hb:Ri w b cb l) :
 Calls Tryz.prog 98 #[.slice a l.length ca,.slice b l.length cb] w fun e w'=>e=.returned (.bool true)/\Below w.heap.size w w':=by
 have k1:=ha.lenB
 have g1:((l.length:Int) != (l.length:Int))=false:=by simp
 go_enter Tryz.func98,Tryz.ntmps98
 go_wp2;clear g1
 go_loopw [5] (fun i wr=>∃k:Nat,k<=l.length/\i=.int .i64 k/\Below w.heap.size w wr) (fun i _=>l.length-(intOf i).toNat)
 case atStart=>exact⟨0,Nat.zero_le _,rfl,Below.refl _ _⟩
 case round =>
  obtain⟨k,hk,rfl,hnx⟩:=hrel
  by_cases hkn:k<l.length
  . obtain⟨b1,o1,ea,_,d1⟩:=ha.at hnx k hkn
    obtain⟨b2,o2,eb,_,d2⟩:=hb.at hnx k hkn
    generalize l.getD k 0=z at *
    have i1:(0:Int)<=(k:Int):=by omega
    have i2:(k:Int)<(l.length:Int):=by omega
    subst ea eb
    go_wp2_with fail
    go_quiet (fail)
    go_wp2
    go_roundw
    case rel=>exact⟨k+1,by omega,by go_num,below_drewN hnx _⟩
    case measure=>simp[intOf];omega
  . have g1:¬(k:Int)<(l.length:Int):=by omega
    go_wp2
    go_ret
    exact⟨rfl,hnx⟩
theorem zpg(S S2:Nat->Prop)(a:OA)(ca:Nat)(b:OA)(cb:Nat)(l:List Tu)(w:World)(ha:Gr TuE S w a ca l)(hb:Gr TuE S2 w b cb l) :
 Calls Tryz.prog 56 #[.slice a l.length ca,.slice b l.length cb] w fun e w'=>e=.returned (.bool true)/\Below w.heap.size w w':=by
 have k1:=ha.lenB
 have g1:((l.length:Int) != (l.length:Int))=false:=by simp
 obtain⟨W,hW⟩:∃W,W=w:=⟨_,rfl⟩
 rw[<-hW]at ha hb ⊢;clear hW
 go_enter Tryz.func56,Tryz.ntmps56
 go_wp2;clear g1
 go_loopw [5] (fun i wr=>∃k:Nat,k<=l.length/\i=.int .i64 k/\Below W.heap.size W wr) (fun i _=>l.length-(intOf i).toNat)
 case atStart=>exact⟨0,Nat.zero_le _,rfl,Below.refl _ _⟩
 case round =>
  obtain⟨k,hk,rfl,hB⟩:=hrel
  by_cases hkn:k<l.length
  . obtain⟨b1,o1,ra,rc,pa,pc,xa,xc,ya,yc,ea,hl1,ht1,c0,c1,c2,c3,c4⟩:=ha.tu (Below.refl _ _) k hkn
    obtain⟨b2,o2,ra',rc',pa',pc',xa',xc',ya',yc',eb,hl2,ht2,d0,d1,d2,d3,d4⟩:=hb.tu (Below.refl _ _) k hkn
    obtain⟨t,htt⟩:∃t,l.getD k Tu.none=t:=⟨_,rfl⟩
    rw[htt]at ht1 ht2 c0 c1 c2 c3 c4 d0 d1 d2 d3 d4;clear htt;obtain⟨n1,n2,n3,n4⟩:=ht1.len
    have HT1:Hid (∀U,Below W.heap.size W U->TuC S U ra rc pa pc xa xc ya yc t):=fun U hU=>ht1.below hU
    have HT2:Hid (∀U,Below W.heap.size W U->TuC S2 U ra' rc' pa' pc' xa' xc' ya' yc' t):=fun U hU=>ht2.below hU
    have zu2:Hid (∀u,Below W.heap.size W u->u.cell? ⟨b1,o1+k*5,none⟩=some (.slice ra t.rg.length rc)/\u.cell? ⟨b1,o1+k*5+1,none⟩=some (.bool t.al)/\u.cell? ⟨b1,o1+k*5+2,none⟩=some (.slice pa t.pts.length pc)/\u.cell? ⟨b1,o1+k*5+3,none⟩=some (.slice xa t.dx.length xc)/\u.cell? ⟨b1,o1+k*5+4,none⟩=some (.slice ya t.dy.length yc)/\u.cell? ⟨b2,o2+k*5,none⟩=some (.slice ra' t.rg.length rc')/\u.cell? ⟨b2,o2+k*5+1,none⟩=some (.bool t.al)/\u.cell? ⟨b2,o2+k*5+2,none⟩=some (.slice pa' t.pts.length pc')/\u.cell? ⟨b2,o2+k*5+3,none⟩=some (.slice xa' t.dx.length xc')/\u.cell? ⟨b2,o2+k*5+4,none⟩=some (.slice ya' t.dy.length yc')):=fun u hU=>⟨(hU.cell (p:=⟨b1,o1+k*5,none⟩) hl1).trans c0,(hU.cell (p:=⟨b1,o1+k*5+1,none⟩) hl1).trans c1,(hU.cell (p:=⟨b1,o1+k*5+2,none⟩) hl1).trans c2,(hU.cell (p:=⟨b1,o1+k*5+3,none⟩) hl1).trans c3,(hU.cell (p:=⟨b1,o1+k*5+4,none⟩) hl1).trans c4,(hU.cell (p:=⟨b2,o2+k*5,none⟩) hl2).trans d0,(hU.cell (p:=⟨b2,o2+k*5+1,none⟩) hl2).trans d1,(hU.cell (p:=⟨b2,o2+k*5+2,none⟩) hl2).trans d2,(hU.cell (p:=⟨b2,o2+k*5+3,none⟩) hl2).trans d3,(hU.cell (p:=⟨b2,o2+k*5+4,none⟩) hl2).trans d4⟩
    have i1:(0:Int)<=(k:Int):=by omega
    have i2:(k:Int)<(l.length:Int):=by omega
    subst ea eb;clear ht1 ht2 c0 c1 c2 c3 c4 d0 d1 d2 d3 d4
    go_upto_region 6 with fail
    have hTN:=zu2.out wr hB
    refine wp_region_held_drew (S:=(fun u=>u.cell? ⟨b1,o1+k*5,none⟩=some (.slice ra t.rg.length rc)/\u.cell? ⟨b1,o1+k*5+1,none⟩=some (.bool t.al)/\u.cell? ⟨b1,o1+k*5+2,none⟩=some (.slice pa t.pts.length pc)/\u.cell? ⟨b1,o1+k*5+3,none⟩=some (.slice xa t.dx.length xc)/\u.cell? ⟨b1,o1+k*5+4,none⟩=some (.slice ya t.dy.length yc)/\u.cell? ⟨b2,o2+k*5,none⟩=some (.slice ra' t.rg.length rc')/\u.cell? ⟨b2,o2+k*5+1,none⟩=some (.bool t.al)/\u.cell? ⟨b2,o2+k*5+2,none⟩=some (.slice pa' t.pts.length pc')/\u.cell? ⟨b2,o2+k*5+3,none⟩=some (.slice xa' t.dx.length xc')/\u.cell? ⟨b2,o2+k*5+4,none⟩=some (.slice ya' t.dy.length yc'))) (by kernel_rfl) ?_ (fun hH=>?_)
    . (try dsimp only)
      exact zu2.out _ (hB.trans (Below.drew1.mono hB.size))
    have hdr:Below wr.heap.size wr wr.drew:=Below.drew1
    generalize wr.drew=ud at hdr hH ⊢
    replace hB:=hB.trans (hdr.mono hB.size)
    clear hdr hTN;refine hT 0 hH ?_;refine hT 1 hH ?_;refine hT 2 hH ?_;refine hT 3 hH ?_;refine hT 4 hH ?_;refine hT 5 hH ?_;refine hT 6 hH ?_;refine hT 7 hH ?_
    refine wpAnyH_ready (rs:=[8,9]) (by kernel_rfl) (by simp) (hCons (i:=8) rfl (by rfl) (fun K hK=>?_) (hCons (i:=9) rfl (by rfl) (fun K hK=>?_) AllReadyH.nil))
    . go_simp
      obtain⟨U1,hU,X6,hbA⟩:∃V,V=ud.alloc (.cells #[.slice none 0 0,.bool false,.slice none 0 0,.slice none 0 0,.slice none 0 0] 144)/\Bk 144 V ud.heap.size [.slice none 0 0,.bool false,.slice none 0 0,.slice none 0 0,.slice none 0 0]/\Below ud.heap.size ud V:=⟨_,rfl,Bk.new _ _ _,bl1 _⟩
      rw[<-hU]
      have hge6:W.heap.size<=ud.heap.size:=hB.size
      replace hB:=hB.trans (hbA.mono hB.size)
      clear hU hbA
      generalize ud.heap.size=g6 at *
      refine hK.out _ _ ?_ (fun hH=>?_)
      . (try dsimp only)
        exact zu2.out _ hB
      clear hK K
      try simp only[Act.put,pZ]
      refine hCall (i:=9) rfl (by kernel_rfl) (by rfl) (fun K hK=>?_)
      go_simp
      obtain⟨U2,hU,X7,hbA⟩:∃V,V=U1.alloc (.cells #[.slice none 0 0,.bool false,.slice none 0 0,.slice none 0 0,.slice none 0 0] 144)/\Bk 144 V U1.heap.size [.slice none 0 0,.bool false,.slice none 0 0,.slice none 0 0,.slice none 0 0]/\Below U1.heap.size U1 V:=⟨_,rfl,Bk.new _ _ _,bl1 _⟩
      rw[<-hU]
      have hne:U1.heap.size≠g6:=by have:=X6.lt;omega
      replace X6:=X6.below hbA
      have hge7:W.heap.size<=U1.heap.size:=hB.size
      replace hB:=hB.trans (hbA.mono hB.size)
      clear hU hbA
      generalize U1.heap.size=g7 at *
      refine hK.out _ _ ?_ (fun hH=>?_)
      . (try dsimp only)
        exact zu2.out _ hB
      clear hK K
      try simp only[Act.put,pZ]
      have hge:W.heap.size<=g6/\W.heap.size<=g7:=⟨hge6,hge7⟩
      refine hCall (i:=10) rfl (by kernel_rfl) (by rfl) (fun K hK=>?_)
      obtain⟨y0,y1,y2,y3,y4,f0,f1,f2,f3,f4⟩:=X6.five;go_simp
      replace X6:=X6.set5U (.slice ra t.rg.length rc) (.bool t.al) (.slice pa t.pts.length pc) (.slice xa t.dx.length xc) (.slice ya t.dy.length yc)
      replace X7:=X7.other5 (b:=g6) (hne) (.slice ra t.rg.length rc) (.bool t.al) (.slice pa t.pts.length pc) (.slice xa t.dx.length xc) (.slice ya t.dy.length yc)
      replace hB:=zdv (b:=g6) hB hge.1 (.slice ra t.rg.length rc) (.bool t.al) (.slice pa t.pts.length pc) (.slice xa t.dx.length xc) (.slice ya t.dy.length yc)
      clear y0 y1 y2 y3 y4 f0 f1 f2 f3 f4
      generalize (((((U2.setCell ⟨g6,0,none⟩ (.slice ra t.rg.length rc)).setCell ⟨g6,1,none⟩ (.bool t.al)).setCell ⟨g6,2,none⟩ (.slice pa t.pts.length pc)).setCell ⟨g6,3,none⟩ (.slice xa t.dx.length xc)).setCell ⟨g6,4,none⟩ (.slice ya t.dy.length yc))=U3 at *
      refine hK.out _ _ ?_ (fun hH=>?_)
      . (try dsimp only)
        exact zu2.out _ hB
      clear hK K
      try simp only[Act.put,pZ]
      refine hCall (i:=11) rfl (by kernel_rfl) (by rfl) (fun K hK=>?_)
      obtain⟨y0,y1,y2,y3,y4,f0,f1,f2,f3,f4⟩:=X7.five;go_simp
      replace X7:=X7.set5U (.slice ra' t.rg.length rc') (.bool t.al) (.slice pa' t.pts.length pc') (.slice xa' t.dx.length xc') (.slice ya' t.dy.length yc')
      replace X6:=X6.other5 (b:=g7) (fun e=>hne e.symm) (.slice ra' t.rg.length rc') (.bool t.al) (.slice pa' t.pts.length pc') (.slice xa' t.dx.length xc') (.slice ya' t.dy.length yc')
      replace hB:=zdv (b:=g7) hB hge.2 (.slice ra' t.rg.length rc') (.bool t.al) (.slice pa' t.pts.length pc') (.slice xa' t.dx.length xc') (.slice ya' t.dy.length yc')
      clear y0 y1 y2 y3 y4 f0 f1 f2 f3 f4
      generalize (((((U3.setCell ⟨g7,0,none⟩ (.slice ra' t.rg.length rc')).setCell ⟨g7,1,none⟩ (.bool t.al)).setCell ⟨g7,2,none⟩ (.slice pa' t.pts.length pc')).setCell ⟨g7,3,none⟩ (.slice xa' t.dx.length xc')).setCell ⟨g7,4,none⟩ (.slice ya' t.dy.length yc'))=U4 at *
      refine hK.out _ _ ?_ (fun hH=>?_)
      . (try dsimp only)
        exact zu2.out _ hB
      clear hK K
      try simp only[Act.put,pZ]
      refine wpAnyH_done (by kernel_rfl) ?_ _
      clear hH hne
      have h1:=zcm pa pc pa' pc' t.pts U4 (HT1.out U4 hB).pts (HT2.out U4 hB).pts
      have h2:=fun U hU=>zcm xa xc xa' xc' t.dx U (HT1.out U hU).dx (HT2.out U hU).dx
      have h3:=fun U hU=>zcm ya yc ya' yc' t.dy U (HT1.out U hU).dy (HT2.out U hU).dy
      have gl:((t.rg.length:Int) != (t.rg.length:Int))=false:=by simp
      have gb:(t.al != t.al)=false:=by simp
      obtain⟨y0,y1,y2,y3,y4,-⟩:=X6.five;obtain⟨z0,z1,z2,z3,z4,-⟩:=X7.five
      go_wp2_with fail
      refine h1.mono ?_
      rintro e v1 ⟨rfl,hb⟩;replace X6:=X6.below hb;replace X7:=X7.below hb
      replace hB:=hB.trans (hb.mono hB.size)
      clear h1 hb y0 y1 y2 y3 y4 z0 z1 z2 z3 z4;obtain⟨y0,y1,y2,y3,y4,-⟩:=X6.five;obtain⟨z0,z1,z2,z3,z4,-⟩:=X7.five
      go_wp2_with fail
      refine(h2 v1 hB).mono ?_
      rintro e v2 ⟨rfl,hb⟩;replace X6:=X6.below hb;replace X7:=X7.below hb
      replace hB:=hB.trans (hb.mono hB.size)
      clear h2 hb y0 y1 y2 y3 y4 z0 z1 z2 z3 z4;obtain⟨y0,y1,y2,y3,y4,-⟩:=X6.five;obtain⟨z0,z1,z2,z3,z4,-⟩:=X7.five
      go_wp2_with fail
      refine(h3 v2 hB).mono ?_
      rintro e v3 ⟨rfl,hb⟩;replace X6:=X6.below hb;replace X7:=X7.below hb
      replace hB:=hB.trans (hb.mono hB.size)
      clear h3 hb y0 y1 y2 y3 y4 z0 z1 z2 z3 z4;obtain⟨y0,y1,y2,y3,y4,-⟩:=X6.five;obtain⟨z0,z1,z2,z3,z4,-⟩:=X7.five
      have HX6:Hid (Bk 144 v3 g6 [.slice ra t.rg.length rc,.bool t.al,.slice pa t.pts.length pc,.slice xa t.dx.length xc,.slice ya t.dy.length yc]):=X6
      have HX7:Hid (Bk 144 v3 g7 [.slice ra' t.rg.length rc',.bool t.al,.slice pa' t.pts.length pc',.slice xa' t.dx.length xc',.slice ya' t.dy.length yc']):=X7
      have HP1:Hid (Tz v3 ra rc t.rg):=(HT1.out v3 hB).tz
      have HP2:Hid (Tz v3 ra' rc' t.rg):=(HT2.out v3 hB).tz
      have HBV:Hid (Below W.heap.size W v3):=hB
      clear X6 X7 hB;go_wp2;clear y0 y1 y2 y3 y4 z0 z1 z2 z3 z4 gl gb
      go_loopw [8] (fun i wr2=>∃j:Nat,j<=t.rg.length/\i=.int .i64 j/\Below v3.heap.size v3 wr2) (fun i _=>t.rg.length-(intOf i).toNat)
      case atStart=>exact⟨0,Nat.zero_le _,rfl,Below.refl _ _⟩
      case round =>
       obtain⟨j,hj,rfl,hny⟩:=hrel
       obtain⟨y0,-⟩:=(HX6.out.below hny).five
       obtain⟨z0,-⟩:=(HX7.out.below hny).five
       by_cases hjn:j<t.rg.length
       . obtain⟨b3,o3,ec,_,m0,m1,m2⟩:=HP1.out.at hny j hjn
         obtain⟨b4,o4,ed,_,d0,d1,d2⟩:=HP2.out.at hny j hjn
         generalize t.rg.getD j Te.none=te at *
         obtain⟨x,y,z⟩:=te;dsimp only at m0 m1 m2 d0 d1 d2;subst ec ed
         have i3:(0:Int)<=(j:Int):=by omega
         have i4:(j:Int)<(t.rg.length:Int):=by omega
         go_wp2_with fail
         go_quiet (fail)
         go_wp2
         go_roundw
         case rel=>exact⟨j+1,by omega,by go_num,below_drewN hny _⟩
         case measure=>simp[intOf];omega
       . have g1:¬(j:Int)<(t.rg.length:Int):=by omega
         have hBf:Below W.heap.size W wr:=HBV.out.trans (hny.mono HBV.out.size)
         go_wp2
         go_roundw
         case rel=>exact⟨k+1,by omega,by go_num,hBf⟩
         case measure=>simp[intOf];omega
    . go_simp
      obtain⟨U1,hU,X7,hbA⟩:∃V,V=ud.alloc (.cells #[.slice none 0 0,.bool false,.slice none 0 0,.slice none 0 0,.slice none 0 0] 144)/\Bk 144 V ud.heap.size [.slice none 0 0,.bool false,.slice none 0 0,.slice none 0 0,.slice none 0 0]/\Below ud.heap.size ud V:=⟨_,rfl,Bk.new _ _ _,bl1 _⟩
      rw[<-hU]
      have hge7:W.heap.size<=ud.heap.size:=hB.size
      replace hB:=hB.trans (hbA.mono hB.size)
      clear hU hbA
      generalize ud.heap.size=g7 at *
      refine hK.out _ _ ?_ (fun hH=>?_)
      . (try dsimp only)
        exact zu2.out _ hB
      clear hK K
      try simp only[Act.put,pZ]
      refine hCall (i:=8) rfl (by kernel_rfl) (by rfl) (fun K hK=>?_)
      go_simp
      obtain⟨U2,hU,X6,hbA⟩:∃V,V=U1.alloc (.cells #[.slice none 0 0,.bool false,.slice none 0 0,.slice none 0 0,.slice none 0 0] 144)/\Bk 144 V U1.heap.size [.slice none 0 0,.bool false,.slice none 0 0,.slice none 0 0,.slice none 0 0]/\Below U1.heap.size U1 V:=⟨_,rfl,Bk.new _ _ _,bl1 _⟩
      rw[<-hU]
      have hne:U1.heap.size≠g7:=by have:=X7.lt;omega
      replace X7:=X7.below hbA
      have hge6:W.heap.size<=U1.heap.size:=hB.size
      replace hB:=hB.trans (hbA.mono hB.size)
      clear hU hbA
      generalize U1.heap.size=g6 at *
      refine hK.out _ _ ?_ (fun hH=>?_)
      . (try dsimp only)
        exact zu2.out _ hB
      clear hK K
      try simp only[Act.put,pZ]
      have hge:W.heap.size<=g6/\W.heap.size<=g7:=⟨hge6,hge7⟩
      refine hCall (i:=10) rfl (by kernel_rfl) (by rfl) (fun K hK=>?_)
      obtain⟨y0,y1,y2,y3,y4,f0,f1,f2,f3,f4⟩:=X6.five;go_simp
      replace X6:=X6.set5U (.slice ra t.rg.length rc) (.bool t.al) (.slice pa t.pts.length pc) (.slice xa t.dx.length xc) (.slice ya t.dy.length yc)
      replace X7:=X7.other5 (b:=g6) (fun e=>hne e.symm) (.slice ra t.rg.length rc) (.bool t.al) (.slice pa t.pts.length pc) (.slice xa t.dx.length xc) (.slice ya t.dy.length yc)
      replace hB:=zdv (b:=g6) hB hge.1 (.slice ra t.rg.length rc) (.bool t.al) (.slice pa t.pts.length pc) (.slice xa t.dx.length xc) (.slice ya t.dy.length yc)
      clear y0 y1 y2 y3 y4 f0 f1 f2 f3 f4
      generalize (((((U2.setCell ⟨g6,0,none⟩ (.slice ra t.rg.length rc)).setCell ⟨g6,1,none⟩ (.bool t.al)).setCell ⟨g6,2,none⟩ (.slice pa t.pts.length pc)).setCell ⟨g6,3,none⟩ (.slice xa t.dx.length xc)).setCell ⟨g6,4,none⟩ (.slice ya t.dy.length yc))=U3 at *
      refine hK.out _ _ ?_ (fun hH=>?_)
      . (try dsimp only)
        exact zu2.out _ hB
      clear hK K
      try simp only[Act.put,pZ]
      refine hCall (i:=11) rfl (by kernel_rfl) (by rfl) (fun K hK=>?_)
      obtain⟨y0,y1,y2,y3,y4,f0,f1,f2,f3,f4⟩:=X7.five;go_simp
      replace X7:=X7.set5U (.slice ra' t.rg.length rc') (.bool t.al) (.slice pa' t.pts.length pc') (.slice xa' t.dx.length xc') (.slice ya' t.dy.length yc')
      replace X6:=X6.other5 (b:=g7) (hne) (.slice ra' t.rg.length rc') (.bool t.al) (.slice pa' t.pts.length pc') (.slice xa' t.dx.length xc') (.slice ya' t.dy.length yc')
      replace hB:=zdv (b:=g7) hB hge.2 (.slice ra' t.rg.length rc') (.bool t.al) (.slice pa' t.pts.length pc') (.slice xa' t.dx.length xc') (.slice ya' t.dy.length yc')
      clear y0 y1 y2 y3 y4 f0 f1 f2 f3 f4
      generalize (((((U3.setCell ⟨g7,0,none⟩ (.slice ra' t.rg.length rc')).setCell ⟨g7,1,none⟩ (.bool t.al)).setCell ⟨g7,2,none⟩ (.slice pa' t.pts.length pc')).setCell ⟨g7,3,none⟩ (.slice xa' t.dx.length xc')).setCell ⟨g7,4,none⟩ (.slice ya' t.dy.length yc'))=U4 at *
      refine hK.out _ _ ?_ (fun hH=>?_)
      . (try dsimp only)
        exact zu2.out _ hB
      clear hK K
      try simp only[Act.put,pZ]
      refine wpAnyH_done (by kernel_rfl) ?_ _
      clear hH hne
      have h1:=zcm pa pc pa' pc' t.pts U4 (HT1.out U4 hB).pts (HT2.out U4 hB).pts
      have h2:=fun U hU=>zcm xa xc xa' xc' t.dx U (HT1.out U hU).dx (HT2.out U hU).dx
      have h3:=fun U hU=>zcm ya yc ya' yc' t.dy U (HT1.out U hU).dy (HT2.out U hU).dy
      have gl:((t.rg.length:Int) != (t.rg.length:Int))=false:=by simp
      have gb:(t.al != t.al)=false:=by simp
      obtain⟨y0,y1,y2,y3,y4,-⟩:=X6.five;obtain⟨z0,z1,z2,z3,z4,-⟩:=X7.five
      go_wp2_with fail
      refine h1.mono ?_
      rintro e v1 ⟨rfl,hb⟩;replace X6:=X6.below hb;replace X7:=X7.below hb
      replace hB:=hB.trans (hb.mono hB.size)
      clear h1 hb y0 y1 y2 y3 y4 z0 z1 z2 z3 z4;obtain⟨y0,y1,y2,y3,y4,-⟩:=X6.five;obtain⟨z0,z1,z2,z3,z4,-⟩:=X7.five
      go_wp2_with fail
      refine(h2 v1 hB).mono ?_
      rintro e v2 ⟨rfl,hb⟩;replace X6:=X6.below hb;replace X7:=X7.below hb
      replace hB:=hB.trans (hb.mono hB.size)
      clear h2 hb y0 y1 y2 y3 y4 z0 z1 z2 z3 z4;obtain⟨y0,y1,y2,y3,y4,-⟩:=X6.five;obtain⟨z0,z1,z2,z3,z4,-⟩:=X7.five
      go_wp2_with fail
      refine(h3 v2 hB).mono ?_
      rintro e v3 ⟨rfl,hb⟩;replace X6:=X6.below hb;replace X7:=X7.below hb
      replace hB:=hB.trans (hb.mono hB.size)
      clear h3 hb y0 y1 y2 y3 y4 z0 z1 z2 z3 z4;obtain⟨y0,y1,y2,y3,y4,-⟩:=X6.five;obtain⟨z0,z1,z2,z3,z4,-⟩:=X7.five
      have HX6:Hid (Bk 144 v3 g6 [.slice ra t.rg.length rc,.bool t.al,.slice pa t.pts.length pc,.slice xa t.dx.length xc,.slice ya t.dy.length yc]):=X6
      have HX7:Hid (Bk 144 v3 g7 [.slice ra' t.rg.length rc',.bool t.al,.slice pa' t.pts.length pc',.slice xa' t.dx.length xc',.slice ya' t.dy.length yc']):=X7
      have HP1:Hid (Tz v3 ra rc t.rg):=(HT1.out v3 hB).tz
      have HP2:Hid (Tz v3 ra' rc' t.rg):=(HT2.out v3 hB).tz
      have HBV:Hid (Below W.heap.size W v3):=hB
      clear X6 X7 hB;go_wp2;clear y0 y1 y2 y3 y4 z0 z1 z2 z3 z4 gl gb
      go_loopw [8] (fun i wr2=>∃j:Nat,j<=t.rg.length/\i=.int .i64 j/\Below v3.heap.size v3 wr2) (fun i _=>t.rg.length-(intOf i).toNat)
      case atStart=>exact⟨0,Nat.zero_le _,rfl,Below.refl _ _⟩
      case round =>
       obtain⟨j,hj,rfl,hny⟩:=hrel
       obtain⟨y0,-⟩:=(HX6.out.below hny).five
       obtain⟨z0,-⟩:=(HX7.out.below hny).five
       by_cases hjn:j<t.rg.length
       . obtain⟨b3,o3,ec,_,m0,m1,m2⟩:=HP1.out.at hny j hjn
         obtain⟨b4,o4,ed,_,d0,d1,d2⟩:=HP2.out.at hny j hjn
         generalize t.rg.getD j Te.none=te at *
         obtain⟨x,y,z⟩:=te;dsimp only at m0 m1 m2 d0 d1 d2;subst ec ed
         have i3:(0:Int)<=(j:Int):=by omega
         have i4:(j:Int)<(t.rg.length:Int):=by omega
         go_wp2_with fail
         go_quiet (fail)
         go_wp2
         go_roundw
         case rel=>exact⟨j+1,by omega,by go_num,below_drewN hny _⟩
         case measure=>simp[intOf];omega
       . have g1:¬(j:Int)<(t.rg.length:Int):=by omega
         have hBf:Below W.heap.size W wr:=HBV.out.trans (hny.mono HBV.out.size)
         go_wp2
         go_roundw
         case rel=>exact⟨k+1,by omega,by go_num,hBf⟩
         case measure=>simp[intOf];omega
  . have g1:¬(k:Int)<(l.length:Int):=by omega
    go_wp2
    go_ret
    exact⟨rfl,hB⟩
theorem zpi(S S2:Nat->Prop)(a:OA)(ca:Nat)(b:OA)(cb:Nat)(l:List Gl)(w:World)(ha:Gr GlE S w a ca l)(hb:Gr GlE S2 w b cb l) :
 Calls Tryz.prog 26 #[.slice a l.length ca,.slice b l.length cb] w fun e w'=>e=.returned (.bool true)/\Below w.heap.size w w':=by
 have kl:=ha.lenB
 have HA:Hid (Gr GlE S w a ca l):=ha
 have HB:Hid (Gr GlE S2 w b cb l):=hb
 clear ha hb
 go_enter Tryz.func26,Tryz.ntmps26
 go_wp2
 go_loopw [5] (fun i wr=>∃k:Nat,k<=l.length/\i=.int .i64 k/\Below w.heap.size w wr) (fun i _=>l.length-(intOf i).toNat)
 case atStart=>exact⟨0,Nat.zero_le _,rfl,Below.refl _ _⟩
 case round =>
  obtain⟨k,hk,rfl,hB⟩:=hrel
  by_cases hkn:k<l.length
  . obtain⟨b1,o1,xa,xc,qa,qc,ta,tc,ea,hb1,hG1,d0,d1,d2,d3,d4,d5⟩:=HA.out.gl hB k hkn
    obtain⟨b2,o2,xa',xc',qa',qc',ta',tc',eb,hb2,hG2,e0,e1,e2,e3,e4,e5⟩:=HB.out.gl hB k hkn
    generalize l.getD k Gl.none=x at *
    subst ea eb
    have i1:(0:Int)<=(k:Int):=by omega
    have i2:(k:Int)<(l.length:Int):=by omega
    have hws:=hB.size
    have k1:=hG1.cs.lenB
    have k2:=hG1.ps.lenB
    have k3:=hG1.ts.lenB
    have hc1:=fun U (hU:Below wr.heap.size wr U)=>zph S S2 xa xc qa qc xa' xc' qa' qc' x.o U (hG1.below hU).cs (hG1.below hU).ps (hG2.below hU).cs (hG2.below hU).ps
    have hc2:=fun U (hU:Below wr.heap.size wr U)=>zpg S S2 ta tc ta' tc' x.ts U (hG1.below hU).ts (hG2.below hU).ts
    clear hG1 hG2
    go_upto_region 6 with fail
    refine wp_region_held_drew (S:=fun w9=>w9.cell? ⟨b1,o1+k*6,none⟩=some (.slice xa x.o.cs.length xc)/\w9.cell? ⟨b1,o1+k*6+1,none⟩=some (.slice qa x.o.ps.length qc)/\w9.cell? ⟨b1,o1+k*6+2,none⟩=some (.slice ta x.ts.length tc)/\w9.cell? ⟨b1,o1+k*6+3,none⟩=some (.int .i64 x.ab)/\w9.cell? ⟨b1,o1+k*6+4,none⟩=some (.int .i64 x.ar)/\w9.cell? ⟨b1,o1+k*6+5,none⟩=some (.bool x.mr)/\w9.cell? ⟨b2,o2+k*6,none⟩=some (.slice xa' x.o.cs.length xc')/\w9.cell? ⟨b2,o2+k*6+1,none⟩=some (.slice qa' x.o.ps.length qc')/\w9.cell? ⟨b2,o2+k*6+2,none⟩=some (.slice ta' x.ts.length tc')/\w9.cell? ⟨b2,o2+k*6+3,none⟩=some (.int .i64 x.ab)/\w9.cell? ⟨b2,o2+k*6+4,none⟩=some (.int .i64 x.ar)/\w9.cell? ⟨b2,o2+k*6+5,none⟩=some (.bool x.mr)) (by kernel_rfl) ?_ (fun hH=>?_)
    . (try dsimp only)
      go_keep
    have hdr:Below wr.heap.size wr wr.drew:=Below.drew1
    generalize wr.drew=Z at hdr hH ⊢
    replace d0:=(hdr.cell (p:=⟨b1,o1+k*6,none⟩) (by show b1<_;omega)).trans d0
    replace d1:=(hdr.cell (p:=⟨b1,o1+k*6+1,none⟩) (by show b1<_;omega)).trans d1
    replace d2:=(hdr.cell (p:=⟨b1,o1+k*6+2,none⟩) (by show b1<_;omega)).trans d2
    replace d3:=(hdr.cell (p:=⟨b1,o1+k*6+3,none⟩) (by show b1<_;omega)).trans d3
    replace d4:=(hdr.cell (p:=⟨b1,o1+k*6+4,none⟩) (by show b1<_;omega)).trans d4
    replace d5:=(hdr.cell (p:=⟨b1,o1+k*6+5,none⟩) (by show b1<_;omega)).trans d5
    replace e0:=(hdr.cell (p:=⟨b2,o2+k*6,none⟩) (by show b2<_;omega)).trans e0
    replace e1:=(hdr.cell (p:=⟨b2,o2+k*6+1,none⟩) (by show b2<_;omega)).trans e1
    replace e2:=(hdr.cell (p:=⟨b2,o2+k*6+2,none⟩) (by show b2<_;omega)).trans e2
    replace e3:=(hdr.cell (p:=⟨b2,o2+k*6+3,none⟩) (by show b2<_;omega)).trans e3
    replace e4:=(hdr.cell (p:=⟨b2,o2+k*6+4,none⟩) (by show b2<_;omega)).trans e4
    replace e5:=(hdr.cell (p:=⟨b2,o2+k*6+5,none⟩) (by show b2<_;omega)).trans e5
    have hzs:=hdr.size
    refine hT 0 hH ?_;refine hT 1 hH ?_;refine hT 2 hH ?_;refine hT 3 hH ?_;refine hT 4 hH ?_;refine hT 5 hH ?_;refine hT 6 hH ?_;refine hT 7 hH ?_;refine hT 8 hH ?_;refine hT 9 hH ?_
    refine hCall (i:=10) rfl (by kernel_rfl) (by rfl) (fun K hK=>?_)
    go_simp
    refine(hc1 _ hdr).mono ?_
    rintro e u1 ⟨rfl,hu1⟩
    replace d0:=(hu1.cell (p:=⟨b1,o1+k*6,none⟩) (by show b1<_;omega)).trans d0
    replace d1:=(hu1.cell (p:=⟨b1,o1+k*6+1,none⟩) (by show b1<_;omega)).trans d1
    replace d2:=(hu1.cell (p:=⟨b1,o1+k*6+2,none⟩) (by show b1<_;omega)).trans d2
    replace d3:=(hu1.cell (p:=⟨b1,o1+k*6+3,none⟩) (by show b1<_;omega)).trans d3
    replace d4:=(hu1.cell (p:=⟨b1,o1+k*6+4,none⟩) (by show b1<_;omega)).trans d4
    replace d5:=(hu1.cell (p:=⟨b1,o1+k*6+5,none⟩) (by show b1<_;omega)).trans d5
    replace e0:=(hu1.cell (p:=⟨b2,o2+k*6,none⟩) (by show b2<_;omega)).trans e0
    replace e1:=(hu1.cell (p:=⟨b2,o2+k*6+1,none⟩) (by show b2<_;omega)).trans e1
    replace e2:=(hu1.cell (p:=⟨b2,o2+k*6+2,none⟩) (by show b2<_;omega)).trans e2
    replace e3:=(hu1.cell (p:=⟨b2,o2+k*6+3,none⟩) (by show b2<_;omega)).trans e3
    replace e4:=(hu1.cell (p:=⟨b2,o2+k*6+4,none⟩) (by show b2<_;omega)).trans e4
    replace e5:=(hu1.cell (p:=⟨b2,o2+k*6+5,none⟩) (by show b2<_;omega)).trans e5
    replace hdr:=hdr.trans (hu1.mono hdr.size)
    have hus:=hu1.size
    clear hu1 hc1
    go_wp2_with fail
    refine hK.out _ _ ?_ (fun hH=>?_)
    . (try dsimp only)
      exact⟨d0,d1,d2,d3,d4,d5,e0,e1,e2,e3,e4,e5⟩
    clear hK K
    try simp only[Act.put,pZ]
    refine hT 11 hH ?_;refine hT 12 hH ?_;refine hT 13 hH ?_;refine hT 14 hH ?_;refine hT 15 hH ?_;refine hT 16 hH ?_;refine hT 17 hH ?_;refine hT 18 hH ?_;refine hT 19 hH ?_;refine hT 20 hH ?_;refine hT 21 hH ?_;refine hT 22 hH ?_
    refine hCall (i:=23) rfl (by kernel_rfl) (by rfl) (fun K hK=>?_)
    go_simp
    refine(hc2 _ hdr).mono ?_
    rintro e u2 ⟨rfl,hu2⟩
    replace d0:=(hu2.cell (p:=⟨b1,o1+k*6,none⟩) (by show b1<_;omega)).trans d0
    replace d1:=(hu2.cell (p:=⟨b1,o1+k*6+1,none⟩) (by show b1<_;omega)).trans d1
    replace d2:=(hu2.cell (p:=⟨b1,o1+k*6+2,none⟩) (by show b1<_;omega)).trans d2
    replace d3:=(hu2.cell (p:=⟨b1,o1+k*6+3,none⟩) (by show b1<_;omega)).trans d3
    replace d4:=(hu2.cell (p:=⟨b1,o1+k*6+4,none⟩) (by show b1<_;omega)).trans d4
    replace d5:=(hu2.cell (p:=⟨b1,o1+k*6+5,none⟩) (by show b1<_;omega)).trans d5
    replace e0:=(hu2.cell (p:=⟨b2,o2+k*6,none⟩) (by show b2<_;omega)).trans e0
    replace e1:=(hu2.cell (p:=⟨b2,o2+k*6+1,none⟩) (by show b2<_;omega)).trans e1
    replace e2:=(hu2.cell (p:=⟨b2,o2+k*6+2,none⟩) (by show b2<_;omega)).trans e2
    replace e3:=(hu2.cell (p:=⟨b2,o2+k*6+3,none⟩) (by show b2<_;omega)).trans e3
    replace e4:=(hu2.cell (p:=⟨b2,o2+k*6+4,none⟩) (by show b2<_;omega)).trans e4
    replace e5:=(hu2.cell (p:=⟨b2,o2+k*6+5,none⟩) (by show b2<_;omega)).trans e5
    replace hdr:=hdr.trans (hu2.mono hdr.size)
    clear hu2 hc2
    go_wp2_with fail
    refine hK.out _ _ ?_ (fun hH=>?_)
    . (try dsimp only)
      exact⟨d0,d1,d2,d3,d4,d5,e0,e1,e2,e3,e4,e5⟩
    clear hK K
    try simp only[Act.put,pZ]
    refine hT 24 hH ?_;refine hT 25 hH ?_;refine hT 26 hH ?_;refine hT 27 hH ?_;refine hT 28 hH ?_;refine hT 29 hH ?_;refine hT 30 hH ?_;refine hT 31 hH ?_;refine hT 32 hH ?_;refine hT 33 hH ?_;refine hT 34 hH ?_;refine hT 35 hH ?_;refine hT 36 hH ?_
    refine hT 37 hH ?_;refine hT 38 hH ?_;refine hT 39 hH ?_;refine hT 40 hH ?_;refine hT 41 hH ?_;refine hT 42 hH ?_;refine hT 43 hH ?_;refine hT 44 hH ?_;refine hT 45 hH ?_;refine hT 46 hH ?_;refine hT 47 hH ?_;refine hT 48 hH ?_;refine hT 49 hH ?_
    refine hT 50 hH ?_;refine hT 51 hH ?_
    refine wpAnyH_done (by kernel_rfl) ?_ _
    have hB9:=hB.trans (hdr.mono hB.size)
    clear hH d0 d1 d2 d3 d4 d5 e0 e1 e2 e3 e4 e5 hB hdr;go_wp2
    go_roundw
    case rel=>exact⟨k+1,by omega,by go_num,hB9⟩
    case measure=>simp[intOf];omega
  . have g4:¬(k:Int)<(l.length:Int):=by omega
    go_wp2
    go_ret
    exact⟨rfl,hB⟩
theorem zq3{o:Ol}{l:List Tu}{ax:Int}(h:foT o l ax=true)(hl:l.length<=30):(tuBt l).length<=24002:=by
 obtain⟨h1,h2,h3,h4⟩:=zbc.1 h
 have:=zqz h1 h2.2 (l:=l) (fun t ht=>by
  obtain⟨k,hk,e⟩:=List.getElem_of_mem ht
  have:=h4 k hk
  rw[List.getD_eq_getElem?_getD,List.getElem?_eq_getElem hk,Option.getD_some,e]at this
  exact this)
 unfold tuBt
 rw[List.length_append]
 have:(be2 ((l.length:Nat):Int)).length=2:=rfl
 omega
theorem z2k{ax:Int}:∀ {l:List Gl},(∀x∈l,foT x.o x.ts ax=true/\x.ts.length<=30)->(glsB l).length<=24615*l.length:=by
 intro l
 induction l with
 | nil=>intro _;exact Nat.zero_le _
 | cons x l ih =>
  intro h
  have h1:=ih (fun y hy=>h y (by simp[hy]))
  obtain⟨h2,h3⟩:=h x (by simp)
  have h4:=zq3 h2 h3
  have h5:=(zjm x.o).2
  have h6:=zi8 x
  rw[glsB,List.length_append,List.length_cons]
  omega
theorem zzg{l:List Gl}{s:Sr}{ax:Int}(h:foG l s ax=true)(h30:∀x∈l,x.ts.length<=30)(h40:l.length<=40):(gsB l).length<=1048000:=by
 obtain⟨_,_,h3⟩:=zcd.1 h
 have h4:=z2k (ax:=ax) (l:=l) (fun x hx=>by
  obtain⟨k,hk,e⟩:=List.getElem_of_mem hx
  have h5:=(zf2.1 (h3 k hk)).2.2.1
  rw[List.getD_eq_getElem?_getD,List.getElem?_eq_getElem hk,Option.getD_some,e]at h5
  exact⟨h5,h30 x hx⟩)
 unfold gsB
 rw[List.length_append]
 have:(be2 ((l.length:Nat):Int)).length=2:=rfl
 omega
