import Derived.Test.YtkmcodofnckdmaaGreatZK33
set_option maxHeartbeats 4000000
set_option maxRecDepth 100000
set_option linter.unusedSimpArgs false
set_option linter.unusedVariables false
namespace Go.Proofs.YtkmcodofnckdmaaGreat
open Go.RowKit Go.Maps
theorem zjj(n:Nat)(g:Nat)(pa:OA)(pc:Nat)(xs:LN)(p:Nat)(w:World)(h:Sc 200 w g pa pc xs p)(hp:p<=100000)(hn:n<=80)(hpb:∀b o,pa=some ⟨b,o,none⟩->xs≠[]->b<w.heap.size) :
 Calls Tryz.prog 248 #[pg g,.int .i64 (n:Int)] w fun e w'=>∃a' c',e=.returned (.slice a' (ptK n (xs.drop p)).length c')/\Gr PnE (fun _=>False) w' a' c' (ptK n (xs.drop p))/\(∀b o,a'=some ⟨b,o,none⟩->w.heap.size<=b/\b<w'.heap.size)/\Kp g w w':=by
 have hgl:g<w.heap.size:=h.bk.lt
 have hby:=h.rb.lim.drop p
 have HB1:Hid (Byt (fgK n (xs.drop p)).2):=ztu hby
 have HB2:Hid (Byt (xsK n (xs.drop p)).2):=zzu hby
 have HBF:Hid (Byt (fsK n (xs.drop p))):=z2k hby
 have HFL:Hid ((fsK n (xs.drop p)).length=n):=zl9 _ _
 have HPA:Hid (∀(L:List Pn),L.length=n->(∀i,i<n->L.getD i Pn.none=pYk (xsK n (xs.drop p)).1 (ysK n (xs.drop p)).1 (fsK n (xs.drop p)) n i)->L=ptK n (xs.drop p)):=fun L=>z02
 have HPL:Hid ((ptK n (xs.drop p)).length=n):=zlp _ _
 have HXE:Hid (xsK n (xs.drop p)=rdD 2 16 (fsK n (xs.drop p)) (fgK n (xs.drop p)).2 0):=rfl
 have HYE:Hid (ysK n (xs.drop p)=rdD 4 32 (fsK n (xs.drop p)) (xsK n (xs.drop p)).2 0):=rfl
 have htf:=zhl n g pa pc xs p w h hp hn hpb
 clear h hby
 generalize ptK n (xs.drop p)=PT at *
 generalize ysK n (xs.drop p)=YY at *
 generalize xsK n (xs.drop p)=XX at *
 generalize fsK n (xs.drop p)=fs at *
 generalize fgK n (xs.drop p)=FG at *
 have HNL:Hid ((nI fs).length=n):=by show _=_;rw[zgt];exact HFL.out
 rw[HNL.out]at htf
 go_enter Tryz.func248,Tryz.ntmps248
 go_wp2_with fail
 refine htf.mono ?_
 rintro e u1 ⟨a5,c5,rfl,hri,hbk,q,hS,hq,hqp,hK⟩;clear htf
 obtain⟨i0,hi0,hz0,hz1,hz2⟩:=info_parts zcx
 obtain⟨u2,hmk,hown,hgrow⟩:=run_makeSlice_full u1 u1.heap.size 63 65 i0 _ 3 Tryz.underlying63 hi0 hz0 hz1 .i64 .i64 n (by omega) (by rw[hz2];omega) (by unfold maxLen;omega) (Nat.le_refl _)
 have hG0:Gw PnE 65 u1.heap.size (fun _=>False) u2 (.slice (some ⟨u1.heap.size,0,none⟩) n n) (List.replicate n Pn.none):=Gw.zeros hown rfl (by decide) (zaz.2 ⟨rfl,⟨by decide,by decide⟩,⟨by decide,by decide⟩⟩)
 have hB2:Below u1.heap.size u1 u2:=(Below.refl _ _).grown hgrow (Nat.le_refl _) (fun k hk=>by cases hk)
 have hS2:=hS.below hB2
 have HRI:Hid (Ri u1 a5 c5 (nI fs)):=hri
 have HBK:Hid (∀b o,a5=some ⟨b,o,none⟩->b<u1.heap.size/\b≠g):=fun b o e=>⟨(hbk b o e).2,by have:=(hbk b o e).1;omega⟩
 have HPB:Hid (∀b o,pa=some ⟨b,o,none⟩->xs≠[]->b≠u1.heap.size):=fun b o e hne=>by have:=hpb b o e hne;have:=hK.size;omega
 have HS2:Hid (Sc 200 u2 g pa pc xs q):=hS2
 have HK2:Hid (Kp g u1 u2):=Kp.of hB2
 have HQ:Hid (xs.drop q=FG.2):=hq
 have HG0:Hid (Gw PnE 65 u1.heap.size (fun _=>False) u2 (.slice (some ⟨u1.heap.size,0,none⟩) n n) (List.replicate n Pn.none)):=hG0
 have HKW:Hid (Kp g w u1):=hK
 have hgP:g<u1.heap.size:=hS.bk.lt
 have HSZ:Hid (w.heap.size<=u1.heap.size):=hK.size
 clear hi0 hz0 hz1 hz2 hown hgrow hB2 hS2 hS hri hbk hq hG0 hK hpb;go_wp2;clear hmk
 obtain⟨gP,hgPe⟩:∃gP,u1.heap.size=gP:=⟨_,rfl⟩
 have hgPl:u1.heap.size<=gP:=by omega
 have hgne:g≠gP:=by omega
 rw[hgPe]at HG0 HPB ⊢
 have HGP:Hid (w.heap.size<=gP/\gP<u2.heap.size):=⟨by have:=HSZ.out;omega,by have:=(HG0.out.lo (g:=gP) rfl).2;exact this⟩
 clear hgPe hgP
 go_loopw [7,20] (fun xv i wr=>∃(k q1:Nat) (x:Int) (L:List Pn),k<=n/\i=.int .i64 k/\xv=.int .i64 x/\x=(if k=0 then 0 else XX.1.getD (k-1) 0)/\L.length=n/\(∀i,i<n->L.getD i Pn.none=pXk XX.1 fs k i)/\Gw PnE 65 gP (fun _=>False) wr (.slice (some ⟨gP,0,none⟩) n n) L/\Sc 200 wr g pa pc xs q1/\q1<=q+2*k/\xs.drop q1=rdR 2 16 fs FG.2 0 k/\Kp g u1 wr) (fun _ i _=>n-(intOf i).toNat)
 case atStart=>exact⟨0,q,0,List.replicate n Pn.none,Nat.zero_le _,rfl,rfl,rfl,List.length_replicate,(fun i hi=>by simp[List.getD,hi,pXk]),HG0.out,HS2.out,by omega,by rw[znm];exact HQ.out,HK2.out⟩
 case round =>
  clear HG0 HS2 HK2;obtain⟨k,q1,x,L,hk,rfl,rfl,hx,hLl,hL,hG,hS,hq1,hr,hK⟩:=hrel
  by_cases hkn:k<n
  . obtain⟨b5,o5,ea,hb5,d0⟩:=(Ri.kept HRI.out hK HBK.out).get k (by rw[HNL.out];exact hkn)
    rw[zsv]at d0
    have hfb:fs.getD k 0<256:=HBF.out.getD k
    obtain⟨zgx,zl2⟩:=zkb 2 16 fs FG.2 0 k (by rw[HFL.out];exact hkn)
    have hxl:=zyu (sh:=2) (sm:=16) (fs:=fs) HB1.out k (by rw[HFL.out];exact hkn)
    rw[<-HXE.out]at zgx hxl;rw[<-hr]at zgx zl2
    have hst:=zp7 (fs.getD k 0) g pa pc xs q1 wr hS (by omega) hfb
    have hon:onK fs k=decide (fs.getD k 0%2=1):=rfl
    have hdl:=zop (fs.getD k 0) 2 16 (hS.rb.lim.drop q1)
    have hand:=z5q hfb
    subst ea
    obtain⟨f,hf⟩:∃f,fs.getD k 0=f:=⟨_,rfl⟩
    rw[hf]at d0 zgx zl2 hst hon hfb hdl hand;rw[<-hx]at zgx
    have z3m:Hid (_):=zl2
    obtain⟨dd,hdd⟩:∃d,(dfR f 2 16 (xs.drop q1)).1=d:=⟨_,rfl⟩
    rw[hdd]at zgx hst hdl
    obtain⟨x2,hx2⟩:∃z,x+dd=z:=⟨_,rfl⟩
    rw[hx2]at zgx
    have HX2:Hid (XX.1.getD k 0=x2):=zgx
    rw[zgx]at hxl
    have hx2b:-9223372036854775808<=x2/\x2<=9223372036854775807:=by omega
    have hx2i:I64 x2:=hx2b
    have i1:(0:Int)<=(k:Int):=by omega
    have i2:(k:Int)<(n:Int):=by omega
    have HL:Hid (∀i,i<n->L.getD i Pn.none=pXk XX.1 fs k i):=hL
    have HLK:Hid (L.getD k Pn.none=Pn.none):=by show _=_;rw[hL k hkn];unfold pXk;rw[if_neg (by omega)]
    have HON:Hid (onK fs k=decide (f%2=1)):=hon
    clear hr zgx zl2 hx hf hdd hL hxl hon
    go_wp2_with fail
    refine hst.mono ?_
    rintro e v1 ⟨q2,rfl,hS1,hq2,hq2l,hK1⟩
    have hG1:=hG.kp hS.bk (by decide) hK1
    have hK2:=hK.trans hK1
    have HQ2:Hid (xs.drop q2=rdR 2 16 fs FG.2 0 (k+1)):=by show _=_;rw[hq2,z3m.out]
    clear hst hS hK hK1 hG hq2 d0
    obtain⟨sx,_,so,fz,c0,c1,c2⟩:=hG1.pnSet (k:=k) (by rw[hLl];exact hkn)
    have hGa:=sx x2 hx2i
    obtain⟨_,_,so2,fz2,e0,e1,e2⟩:=hGa.pnSet (k:=k) (by rw[List.length_set,hLl];exact hkn)
    rw[HLK.out]at c0 c1 c2
    have hkL:k<L.length:=by rw[hLl];exact hkn
    have hsel:(L.set k ⟨x2,(L.getD k Pn.none).y,(L.getD k Pn.none).on⟩).getD k Pn.none=⟨x2,0,false⟩:=by rw[zen hkL,if_pos rfl,HLK.out];rfl
    rw[hsel]at e0 e1 e2 so2;dsimp only at so2 e0 e1 e2
    have zqm:Hid (∀o:Bool,o=decide (f%2=1)->∀i,i<n->((L.set k ⟨x2,(L.getD k Pn.none).y,(L.getD k Pn.none).on⟩).set k ⟨x2,0,o⟩).getD i Pn.none=pXk XX.1 fs (k+1) i):=fun o ho i hi=>by
     rw[zen (by rw[List.length_set];exact hkL),zen hkL]
     by_cases hik:i=k
     . rw[if_pos hik,hik]
       unfold pXk
       rw[if_pos (by omega),HX2.out,HON.out,ho]
     . rw[if_neg hik,if_neg hik,HL.out i hi]
       unfold pXk
       by_cases h1:i<k
       . rw[if_pos h1,if_pos (by omega)]
       . rw[if_neg h1,if_neg (by omega)]
    have HS2:Hid (∀o:Bool,Sc 200 ((v1.setCell ⟨gP,k*3,none⟩ (.int .i64 x2)).setCell ⟨gP,k*3+2,none⟩ (.bool o)) g pa pc xs q2):=fun o=>(hS1.other _ _ hgne HPB.out).other _ _ hgne HPB.out
    have HKK:Hid (∀o:Bool,Kp g u1 ((v1.setCell ⟨gP,k*3,none⟩ (.int .i64 x2)).setCell ⟨gP,k*3+2,none⟩ (.bool o))):=fun o=>(hK2.other _ _ hgPl).other _ _ hgPl
    have HGG:Hid (_):=so2
    have HLL:Hid (∀o:Bool,((L.set k ⟨x2,(L.getD k Pn.none).y,(L.getD k Pn.none).on⟩).set k ⟨x2,0,o⟩).length=n):=fun o=>by rw[List.length_set,List.length_set,hLl]
    have hfz0:=fz (k*3)
    have hfz2:=fz2 (k*3+2)
    have hfz3:=fz (k*3+2)
    have hXk:x2=(if k+1=0 then 0 else XX.1.getD (k+1-1) 0):=by rw[if_neg (by omega),Nat.add_sub_cancel,HX2.out]
    have HXK:Hid (_):=hXk
    clear sx so so2 fz fz2 hGa hG1 hS1 hK2 hsel hXk HL HLK hLl hkL z3m hdl hx2i
    by_cases ho:f%2=1
    . rw[if_pos ho]at hand
      have HO:Hid (true=decide (f%2=1)):=(decide_eq_true ho).symm
      clear ho;go_wp2
      go_roundw
      case rel=>exact⟨k+1,q2,x2,_,by omega,by go_num,rfl,HXK.out,HLL.out true,zqm.out true HO.out,HGG.out true,HS2.out true,by omega,HQ2.out,HKK.out true⟩
      case measure=>simp[intOf];omega
    . rw[if_neg ho]at hand
      have HO:Hid (false=decide (f%2=1)):=(decide_eq_false ho).symm
      clear ho;go_wp2
      go_roundw
      case rel=>exact⟨k+1,q2,x2,_,by omega,by go_num,rfl,HXK.out,HLL.out false,zqm.out false HO.out,HGG.out false,HS2.out false,by omega,HQ2.out,HKK.out false⟩
      case measure=>simp[intOf];omega
  . obtain rfl:k=n:=by omega
    have g1:¬(k:Int)<(k:Int):=by omega
    have hr2:xs.drop q1=XX.2:=by
     have:=zrv 2 16 fs FG.2 0
     rw[HFL.out,<-HXE.out]at this;rw[hr,this]
    have HR2:Hid (xs.drop q1=XX.2):=hr2
    have HL1:Hid (∀i,i<k->L.getD i Pn.none=pYk XX.1 YY.1 fs 0 i):=fun i hi=>by
     rw[hL i hi]
     unfold pXk pYk
     rw[if_pos hi,if_neg (by omega)]
    have HG1:Hid (Gw PnE 65 gP (fun _=>False) wr (.slice (some ⟨gP,0,none⟩) k k) L):=hG
    have HS1:Hid (Sc 200 wr g pa pc xs q1):=hS
    have HK1:Hid (Kp g u1 wr):=hK
    have HLL:Hid (L.length=k):=hLl
    clear hx hLl hL hG hS hr hK hr2 hkn hk;go_wp2
    obtain⟨n,hnk⟩:∃n,k=n:=⟨_,rfl⟩
    subst hnk
    go_loopw [8,45] (fun yv i wr=>∃(j q2:Nat) (y:Int) (M:List Pn),j<=k/\i=.int .i64 j/\yv=.int .i64 y/\y=(if j=0 then 0 else YY.1.getD (j-1) 0)/\M.length=k/\(∀i,i<k->M.getD i Pn.none=pYk XX.1 YY.1 fs j i)/\Gw PnE 65 gP (fun _=>False) wr (.slice (some ⟨gP,0,none⟩) k k) M/\Sc 200 wr g pa pc xs q2/\q2<=q1+2*j/\xs.drop q2=rdR 4 32 fs XX.2 0 j/\Kp g u1 wr) (fun _ i _=>k-(intOf i).toNat)
    case atStart=>exact⟨0,q1,0,L,Nat.zero_le _,rfl,rfl,rfl,HLL.out,HL1.out,HG1.out,HS1.out,by omega,by rw[znm];exact HR2.out,HK1.out⟩
    case round =>
     clear HG1 HS1 HK1 HLL HL1;obtain⟨j,q2,y,M,hj,rfl,rfl,hy,hMl,hM,hG,hS,hq2,hr,hK⟩:=hrel
     by_cases hjn:j<k
     . obtain⟨b5,o5,ea,hb5,d0⟩:=(Ri.kept HRI.out hK HBK.out).get j (by rw[HNL.out];exact hjn)
       rw[zsv]at d0
       have hfb:fs.getD j 0<256:=HBF.out.getD j
       obtain⟨zgx,zl2⟩:=zkb 4 32 fs XX.2 0 j (by rw[HFL.out];exact hjn)
       have hyl:=zyu (sh:=4) (sm:=32) (fs:=fs) HB2.out j (by rw[HFL.out];exact hjn)
       rw[<-HYE.out]at zgx hyl;rw[<-hr]at zgx zl2
       have hst:=zp6 (fs.getD j 0) g pa pc xs q2 wr hS (by omega) hfb
       have hdl:=zop (fs.getD j 0) 4 32 (hS.rb.lim.drop q2)
       subst ea
       obtain⟨f,hf⟩:∃f,fs.getD j 0=f:=⟨_,rfl⟩
       rw[hf]at d0 zgx zl2 hst hfb hdl;rw[<-hy]at zgx
       have z3m:Hid (_):=zl2
       obtain⟨dd,hdd⟩:∃d,(dfR f 4 32 (xs.drop q2)).1=d:=⟨_,rfl⟩
       rw[hdd]at zgx hst hdl
       obtain⟨y2,hy2⟩:∃z,y+dd=z:=⟨_,rfl⟩
       rw[hy2]at zgx
       have HY2:Hid (YY.1.getD j 0=y2):=zgx
       rw[zgx]at hyl
       have hy2b:-9223372036854775808<=y2/\y2<=9223372036854775807:=by omega
       have hy2i:I64 y2:=hy2b
       have i1:(0:Int)<=(j:Int):=by omega
       have i2:(j:Int)<(k:Int):=by omega
       have HM:Hid (∀i,i<k->M.getD i Pn.none=pYk XX.1 YY.1 fs j i):=hM
       clear hr zgx zl2 hy hf hdd hM hyl
       go_wp2_with fail
       refine hst.mono ?_
       rintro e v1 ⟨q3,rfl,hS1,hq3,hq3l,hK1⟩
       have hG1:=hG.kp hS.bk (by decide) hK1
       have hK2:=hK.trans hK1
       have HQ3:Hid (xs.drop q3=rdR 4 32 fs XX.2 0 (j+1)):=by show _=_;rw[hq3,z3m.out]
       clear hst hS hK hK1 hG hq3 d0
       have hjM:j<M.length:=by rw[hMl];exact hjn
       obtain⟨_,sy,_,fz,c0,c1,c2⟩:=hG1.pnSet (k:=j) hjM
       have hGa:=sy y2 hy2i
       have zqm:Hid (∀i,i<k->(M.set j ⟨(M.getD j Pn.none).x,y2,(M.getD j Pn.none).on⟩).getD i Pn.none=pYk XX.1 YY.1 fs (j+1) i):=fun i hi=>by
        rw[zen hjM]
        by_cases hij:i=j
        . rw[if_pos hij,hij,HM.out j hjn]
          simp only[pYk,if_pos (show j<j+1 by omega),HY2.out]
        . rw[if_neg hij,HM.out i hi]
          unfold pYk
          by_cases h1:i<j
          . rw[if_pos h1,if_pos (by omega)]
          . rw[if_neg h1,if_neg (by omega)]
       have hS3:=hS1.other (j*3+1) (.int .i64 y2) hgne HPB.out
       have hK3:=hK2.other (j*3+1) (.int .i64 y2) hgPl
       have HLL:Hid ((M.set j ⟨(M.getD j Pn.none).x,y2,(M.getD j Pn.none).on⟩).length=k):=by show _=_;rw[List.length_set,hMl]
       have hfz1:=fz (j*3+1)
       have hYk:y2=(if j+1=0 then 0 else YY.1.getD (j+1-1) 0):=by rw[if_neg (by omega),Nat.add_sub_cancel,HY2.out]
       have HYK:Hid (_):=hYk
       have HGA:Hid (_):=hGa
       have HS3:Hid (_):=hS3
       have HK3:Hid (_):=hK3
       clear sy fz hGa hG1 hS1 hK2 hYk HM hMl hjM z3m hdl hy2i hS3 hK3;go_wp2
       go_roundw
       case rel=>exact⟨j+1,q3,y2,_,by omega,by go_num,rfl,HYK.out,HLL.out,zqm.out,HGA.out,HS3.out,by omega,HQ3.out,HK3.out⟩
       case measure=>simp[intOf];omega
     . obtain rfl:j=k:=by omega
       have g2:¬(j:Int)<(j:Int):=by omega
       have hME:=HPA.out M hMl hM
       subst hME;obtain⟨a9,c9,ev,hgr,hb9⟩:=hG.slice
       have HGR:Hid (Gr PnE (fun _=>False) wr (some ⟨gP,0,none⟩) j M):=by
        injection ev with e1 e2 e3;subst e1 e3
        exact hgr
       have HSL:Hid (∀b o,(some ⟨gP,0,none⟩:OA)=some ⟨b,o,none⟩->w.heap.size<=b/\b<wr.heap.size):=fun b o e=>by
        cases e
        exact⟨HGP.out.1,(hG.lo (g:=gP) rfl).2⟩
       have HKF:Hid (Kp g w wr):=HKW.out.trans hK
       clear hG hgr hb9 ev hS hr hy hM;go_wp2
       go_ret
       exact⟨_,j,by first | rfl | rw[HPL.out];rfl,HGR.out,HSL.out,HKF.out⟩
theorem zso(L:Nat)(es:LN)(p:Nat):numK L es p 0=p:=by cases es <;> rfl
def cntF(E:LN)(k:Nat):Nat:=if k=0 then 0 else min (E.getD (k-1) 0+1) 80
theorem z28(E:LN)(k:Nat):cntF E k<=80:=by unfold cntF;split <;> omega
theorem z4a{m:Nat}{xs:LN}{p k:Nat}(hk:k<m):(rdE m (xs.drop p)).1.getD k 0=hd2 (xs.drop (p+2*k)):=by rw[z0z m _ k hk,List.drop_drop]
theorem z1h{E:LN}{k e:Nat}(hk:k<E.length)(he:E.getD k 0=e):nI (E.take (k+1))=nI (E.take k)++[(e:Int)]:=by rw[zaj (d:=0) hk,zsw,he];rfl
theorem zhk{l:List Pn}{a j:Nat}{q:Pn}(h:a+j<l.length)(hq:l.getD (a+j) Pn.none=q):(l.drop a).take (j+1)=(l.drop a).take j++[q]:=by
 rw[zaj (d:=Pn.none) (by rw[List.length_drop];omega)]
 congr 2
 rw[<-hq]
 simp[List.getD]
theorem Gw.widen{α:Type}{E:El α}{t:TypeId}{base:Nat}{S S':Nat->Prop}{w:World}{v:Value}{l:List α}(h:Gw E t base S w v l)(hS:∀k,S k->k<w.heap.size->S' k):Gw E t base S' w v l :=
 h.stay (Nat.le_refl _) (fun k h1 _ h2=>⟨hS k h1 h2,rfl⟩) (fun _ _=>rfl)
theorem zha(n:Int)(m:Nat)(g:Nat)(pa:OA)(pc:Nat)(xs:LN)(p:Nat)(w:World)(h:Sc 200 w g pa pc xs p)(hp:p<=1000)(hm:(min n 10).toNat=m)(hpb:∀b o,pa=some ⟨b,o,none⟩->xs≠[]->b<w.heap.size)(hn:I64 n) :
 Calls Tryz.prog 193 #[pg g,.int .i64 n] w fun e w'=>∃a' c',e=.returned (.slice a' (conK m (xs.drop p)).length c')/\Gr PnE.row (fun b=>w.heap.size<=b) w' a' c' (conK m (xs.drop p))/\(∀b o,a'=some ⟨b,o,none⟩->w.heap.size<=b)/\Kp g w w':=by
 have hm10:m<=10:=by omega
 have hn1:-9223372036854775808<=n/\n<=9223372036854775807:=hn
 obtain⟨mz,hmz⟩:∃mz:Int,min n 10=mz:=⟨_,rfl⟩
 have hmz1:mz.toNat=m:=by rw[<-hmz];exact hm
 have hgl:g<w.heap.size:=h.bk.lt
 have HPB:Hid (∀b o,pa=some ⟨b,o,none⟩->xs≠[]->b<w.heap.size):=hpb
 have HCO:Hid (conK m (xs.drop p)=cutK (rdE m (xs.drop p)).1 0 (ptK (cntF (rdE m (xs.drop p)).1 m) (xs.drop (p+2*m)))):=by
  show _=_
  unfold conK
  rw[zv6,List.drop_drop]
  rfl
 have HEL:Hid ((rdE m (xs.drop p)).1.length=m):=z0y _ _
 have HEG:Hid (∀k,k<m->(rdE m (xs.drop p)).1.getD k 0=hd2 (xs.drop (p+2*k))):=fun k hk=>z4a hk
 generalize conK m (xs.drop p)=C at *
 generalize (rdE m (xs.drop p)).1=E at *
 clear hm hpb
 go_enter Tryz.func193,Tryz.ntmps193
 go_wp2;clear hmz
 go_loopw [5,6,16] (fun v cv i wr=>∃k:Nat,k<=m/\i=.int .i64 k/\cv=.int .i64 (cntF E k:Int)/\v.ownBlock≠some g/\Gi w.heap.size wr v (nI (E.take k))/\Sc 200 wr g pa pc xs (p+2*k)/\Kp g w wr) (fun _ _ i _=>m-(intOf i).toNat)
 case atStart=>exact⟨0,Nat.zero_le _,rfl,rfl,(fun e=>by cases e),Gi.nil _ _,h,Kp.refl _ _⟩
 case round =>
  clear h;obtain⟨k,hk,rfl,rfl,hvg,hG,hS,hK⟩:=hrel;obtain⟨a5,c5,rfl,hri,hbk⟩:=hG.slice
  by_cases hkm:k<m
  . have g1:(k:Int)<mz:=by omega
    have hu:=zhc g pa pc xs (p+2*k) wr hS (by omega)
    have heq:=HEG.out k hkm
    have hlt:=zht (hS.rb.lim.drop (p+2*k))
    rw[<-heq]at hu hlt
    obtain⟨e,he⟩:∃e,E.getD k 0=e:=⟨_,rfl⟩
    have HSN:Hid (_):=z1h (by rw[HEL.out];exact hkm) he
    have HCN:Hid (cntF E (k+1)=min (e+1) 80):=by show _=_;unfold cntF;rw[if_neg (by omega),Nat.add_sub_cancel,he]
    rw[he]at hu hlt
    have hll:(nI (E.take k)).length+1<=1000000:=by rw[zgt,List.length_take];omega
    clear heq he hri hbk
    generalize nI (E.take k)=L at *
    generalize cntF E k=cq at *
    go_wp2_with fail
    refine hu.mono ?_
    rintro e' u1 ⟨rfl,hS1,hK1⟩
    have hG1:=hG.kp hS.bk (by decide) hK1
    have hK2:=hK.trans hK1
    clear hu hS hK hK1 hG
    have bp:=bl1 (w:=u1) (.cells #[.int .i64 (e:Int)] 3)
    have hGb:=hG1.below bp
    have hSb:=hS1.below bp
    have hN:=Bk.new 3 u1 [.int .i64 (e:Int)]
    have n0:=hN.cell 0 (by simp)
    have zy6:u1.heap.size<(u1.alloc (.cells #[.int .i64 (e:Int)] 3)).heap.size:=hN.lt
    have hKb:Kp g w (u1.alloc (.cells #[.int .i64 (e:Int)] 3)):=hK2.alloc _
    have hbs:=hKb.size
    have hei:I64 (e:Int):=⟨by omega,by omega⟩
    obtain⟨cz,hcz⟩:∃c:Nat,min ((e:Int)+1) 80=(c:Int):=⟨min (e+1) 80,by omega⟩
    have hcz2:min (e+1) 80=cz:=by omega
    rw[hcz2]at HCN;clear hN bp hG1 hK2 hcz2
    go_wp2_with (at_builtin;refine zaf rfl _ _ rfl w.heap.size _ L rfl hGb u1.heap.size (e:Int) rfl zy6 n0 hei hll hbs ?_)
    intro v9 w9 hG9 hgrow hown
    have hS9:=hSb.grown hgrow hvg (fun b o e' hne e2=>by
     have:=(hGb.lo e2).1
     have:=HPB.out b o e' hne
     omega)
    have hK9:Kp g w w9:=hKb.grown hgrow (fun k hk=>(hGb.lo hk).1)
    have HV9:Hid (v9.ownBlock≠some g):=by
     rcases hown with ho|ho
     . show _≠_
       rw[ho]
       exact hvg
     . show _≠_
       rw[ho]
       intro e'
       have h1:=Option.some.inj e'
       have h2:=hS1.bk.lt
       (try simp at h1)
       omega
    rw[<-HSN.out]at hG9;clear hgrow hown hGb hSb n0 zy6 hKb hbs hvg hll HSN hS1;go_wp2
    go_roundw
    case rel=>exact⟨k+1,by omega,by go_num,by rw[HCN.out],HV9.out,hG9,by rw[show p+2*(k+1)=p+2*k+2 by omega];exact hS9,hK9⟩
    case measure=>simp[intOf];omega
  . obtain rfl:k=m:=by omega
    have g1:¬(k:Int)<mz:=by omega
    have hcl:=z28 E k
    have hpo:=zjj (cntF E k) g pa pc xs (p+2*k) wr hS (by omega) hcl (fun b o e hne=>Nat.lt_of_lt_of_le (HPB.out b o e hne) hK.size)
    have hpl:=zlp (cntF E k) (xs.drop (p+2*k))
    rw[List.take_of_length_le (by rw[HEL.out];exact Nat.le_refl _)]at hri hG ⊢
    rw[hpl]at hpo
    have HPL:Hid (_):=hpl
    generalize ptK (cntF E k) (xs.drop (p+2*k))=PT at *
    generalize cntF E k=cnt at *
    have HNL:Hid ((nI E).length=k):=by show _=_;rw[zgt];exact HEL.out
    rw[HNL.out];clear hpl hvg hG
    go_wp2_with fail
    refine hpo.mono ?_
    rintro e u3 ⟨a8,c8,rfl,hpts,hbk8,hK8⟩
    have HRI:Hid (Ri u3 a5 c5 (nI E)):=Ri.kept hri hK8 (fun b o e=>⟨(hbk b o e).2,by have:=(hbk b o e).1;omega⟩)
    have HPT:Hid (Gr PnE (fun _=>False) u3 a8 c8 PT):=hpts
    have HKK:Hid (Kp g w u3):=hK.trans hK8
    have HSZ:Hid (w.heap.size<=u3.heap.size):=HKK.out.size
    clear hpo hpts hbk8 hK8 hri hbk hS hK g1 hk hkm hmz1;go_wp2
    go_loopw [9,10,33] (fun v nv i wr=>∃r:Nat,r<=k/\i=.int .i64 r/\nv=.int .i64 (numK cnt E 0 r:Int)/\Gw PnE.row 63 u3.heap.size (fun b=>u3.heap.size<=b/\b<wr.heap.size) wr v ((cutK E 0 PT).take r)/\Below u3.heap.size u3 wr) (fun _ _ i _=>k-(intOf i).toNat)
    case atStart=>exact⟨0,Nat.zero_le _,rfl,by rw[zso];rfl,Gw.nil _ _ _ _ _,Below.refl _ _⟩
    case round =>
     obtain⟨r,hr,rfl,rfl,hG,hB⟩:=hrel;obtain⟨a9,c9,rfl,zy5,hb9⟩:=hG.slice
     have HCL:Hid ((cutK E 0 PT).length=k):=by show _=_;rw[zx0];exact HEL.out
     by_cases hrk:r<k
     . obtain⟨b5,o5,ea,hb5,d0⟩:=HRI.out.at hB r (by rw[HNL.out];exact hrk)
       rw[zsv]at d0;subst ea
       have hnl:=z1a (L:=cnt) E 0 r (Nat.zero_le _)
       obtain⟨zgx,zl2⟩:=z26 E 0 PT r (by rw[HEL.out];exact hrk)
       rw[HPL.out]at zgx zl2
       have hll:((cutK E 0 PT).take r).length+1<=1000000:=by rw[List.length_take];omega
       have HSN:Hid (_):=zaj (m:=cutK E 0 PT) (d:=[]) (k:=r) (by rw[HCL.out];exact hrk)
       rw[zgx]at HSN
       generalize E.getD r 0=ed at *
       obtain⟨nm,hnm⟩:∃z,numK cnt E 0 r=z:=⟨_,rfl⟩
       rw[hnm]at hnl zl2 HSN ⊢
       obtain⟨lim,hlim⟩:∃z,min (ed+1) cnt=z:=⟨_,rfl⟩
       rw[hlim]at zl2 HSN
       have z4u:(lim=ed+1/\ed+1<=cnt)\/(lim=cnt/\cnt<=ed+1):=by omega
       have z3m:Hid (numK cnt E 0 (r+1)=max nm lim):=zl2
       generalize (cutK E 0 PT).take r=L at *
       have i1:(0:Int)<=(r:Int):=by omega
       have i2:(r:Int)<(k:Int):=by omega
       have HG:Hid (Gw PnE.row 63 u3.heap.size (fun b=>u3.heap.size<=b/\b<wr.heap.size) wr (.slice a9 L.length c9) L):=hG
       have HB:Hid (Below u3.heap.size u3 wr):=hB
       obtain⟨wo,rfl⟩:∃wo,wo=wr:=⟨_,rfl⟩
       clear zgx zl2 hnm hlim zy5 hb9 hG;go_wp2;clear d0 hB
       go_loopw [10,13] (fun nv v wr=>∃j:Nat,nm+j<=max nm lim/\nv=.int .i64 ((nm+j:Nat):Int)/\Gw PnE 65 wo.heap.size (fun _=>False) wr v ((PT.drop nm).take j)/\Below wo.heap.size wo wr) (fun nv _ _=>max nm lim-(intOf nv).toNat)
       case atStart=>exact⟨0,by omega,rfl,Gw.nil _ _ _ _ _,Below.refl _ _⟩
       case round =>
        obtain⟨j,hj,rfl,hV,hBo⟩:=hrel;obtain⟨a13,c13,rfl,z14,hb13⟩:=hV.slice
        obtain⟨nj,hnj⟩:∃z,nm+j=z:=⟨_,rfl⟩
        have HNJ:Hid (nm+j=nj):=hnj
        rw[hnj]at hj ⊢
        by_cases hgo:nj<lim
        . have hB3:=HB.out.trans (hBo.mono HB.out.size)
          obtain⟨b8,o8,eb,hb8,⟨w0,w1⟩,q0,q1,q2⟩:=HPT.out.pn hB3 nj (by rw[HPL.out];omega)
          subst eb
          have HDT:Hid (_):=zhk (l:=PT) (a:=nm) (j:=j) (by rw[HPL.out,hnj];omega) (by rw[hnj])
          generalize PT.getD nj Pn.none=q at *
          obtain⟨x,y,on⟩:=q;dsimp only at w0 w1 q0 q1 q2
          have hl13:((PT.drop nm).take j).length+1<=1000000:=by rw[List.length_take,List.length_drop,HPL.out];omega
          have g2:decide (nj<=ed)=true:=decide_eq_true (by omega)
          have g3:decide (nj<cnt)=true:=decide_eq_true (by omega)
          have j1:(0:Int)<=(nj:Int):=by omega
          have j2:(nj:Int)<(cnt:Int):=by omega
          have bp:=bl1 (w:=wr) (.cells #[.int .i64 x,.int .i64 y,.bool on] 65)
          have hVb:=hV.below bp
          have zba:Gr PnE (fun k=>False/\(Value.slice a13 ((PT.drop nm).take j).length c13).ownBlock≠some k) (wr.alloc (.cells #[.int .i64 x,.int .i64 y,.bool on] 65)) (some ⟨wr.heap.size,0,none⟩) 1 [⟨x,y,on⟩]:=Gr.one_new (E:=PnE) (pnC ⟨x,y,on⟩) 65 (zaz.2 ⟨rfl,w0,w1⟩)
          have hBb:=hBo.trans (bp.mono hBo.size)
          have hbs:=hBb.size
          clear hnj bp z14 hb13 hB3 z4u
          generalize (PT.drop nm).take j=K1 at *
          go_wp2_with (at_builtin;refine zad 63 65 Tryz.underlying63 zcx rfl (by decide) (by decide) rfl _ _ rfl wo.heap.size (fun _=>False) _ K1 rfl hVb (some ⟨wr.heap.size,0,none⟩) 1 1 [⟨x,y,on⟩] rfl rfl zba hl13 hbs ?_)
          intro v9 w9 hT9 hgrow _
          have hB9:Below wo.heap.size wo w9:=hBb.grown hgrow hbs (fun k hk=>(hVb.lo hk).1)
          rw[<-HDT.out]at hT9;clear hgrow hVb zba hbs hl13 HDT hBb;go_wp2
          go_roundw
          case rel=>exact⟨j+1,by have:=HNJ.out;omega,by rw[<-HNJ.out];go_num,hT9,hB9⟩
          case measure=>have:=HNJ.out;simp[intOf];omega
        . have HMX:Hid (nj=max nm lim):=by show _=_;omega
          have HJ:Hid (j=lim-nm):=by show _=_;omega
          have hg2:(decide (nj<=ed)=true/\decide (nj<cnt)=false)\/decide (nj<=ed)=false:=by
           by_cases h1:nj<=ed
           . exact .inl ⟨decide_eq_true h1,decide_eq_false (by omega)⟩
           . exact .inr (decide_eq_false h1)
          have hcb:((PT.drop nm).take j).length<=140737488351232:=by rw[List.length_take,List.length_drop,HPL.out];omega
          rw[<-HJ.out]at HSN
          generalize (PT.drop nm).take j=K1 at *
          have bp:=bl1 (w:=wr) (.cells #[.slice a13 K1.length c13] 63)
          have hG1:=(HG.out.below hBo).below bp
          have hG2:Gw PnE.row 63 u3.heap.size (fun b=>u3.heap.size<=b/\b<(wr.alloc (.cells #[.slice a13 K1.length c13] 63)).heap.size) (wr.alloc (.cells #[.slice a13 K1.length c13] 63)) (.slice a9 L.length c9) L:=hG1.widen (fun k h1 h2=>⟨h1.1,h2⟩)
          have hVb:=hV.below bp
          have hgrb:=z14.below bp
          have zju:PnE.row.rep (fun k=>(u3.heap.size<=k/\k<(wr.alloc (.cells #[.slice a13 K1.length c13] 63)).heap.size)/\(Value.slice a9 L.length c9).ownBlock≠some k) (wr.alloc (.cells #[.slice a13 K1.length c13] 63)) [.slice a13 K1.length c13] K1:=by
           refine⟨a13,c13,rfl,fun b o e hne=>?_,hgrb.anyP,hcb⟩
           have hbb:=hb13 b o e
           have hsz:=HB.out.size
           have hsz2:=bp.size
           refine⟨⟨by omega,by omega⟩,fun e2=>?_⟩
           exact hG2.ne hVb (by decide) e2 (by rw[e];rfl)
          have hN:=Bk.new 63 wr [.slice a13 K1.length c13]
          have zba:=Gr.one (E:=PnE.row) zju hN.lt (fun jj hjj=>by
           obtain rfl:jj=0:=by have h1:jj<1:=hjj;omega
           exact hN.cell 0 (by simp))
          have hBb:=(HB.out.trans (hBo.mono HB.out.size)).trans (bp.mono (Nat.le_trans HB.out.size hBo.size))
          have hbs:=hBb.size
          have g4:((nj:Nat):Int)=((nj:Nat):Int):=rfl
          have HNN:Hid (numK cnt E 0 (r+1)=nj):=by show _=_;rw[z3m.out,<-HMX.out]
          clear hnj HNJ z14 hb13 z4u hj hG1 hVb hgrb zju hN bp hV HJ HMX HG hgo g4
          rcases hg2 with ⟨g2,g3⟩|g2
          . go_wp2_with (at_builtin;refine zad 37 63 Tryz.underlying37 zdr rfl Nat.one_pos (by decide) rfl _ _ rfl u3.heap.size _ _ L rfl hG2 (some ⟨wr.heap.size,0,none⟩) 1 1 [K1] rfl rfl zba hll hbs ?_)
            intro v9 w9 hT9 hgrow _
            have hB9:Below u3.heap.size u3 w9:=hBb.grown hgrow hbs (fun k hk=>(hG2.lo hk).1)
            have hT9:=hT9.widen (S':=fun b=>u3.heap.size<=b/\b<w9.heap.size) (fun k h1 h2=>⟨h1.1,h2⟩)
            rw[<-HSN.out]at hT9;clear hgrow hG2 zba hbs hll HSN hBb;go_wp2
            go_roundw
            case rel=>exact⟨r+1,by omega,by go_num,by rw[HNN.out],hT9,hB9⟩
            case measure=>simp[intOf];omega
          . go_wp2_with (at_builtin;refine zad 37 63 Tryz.underlying37 zdr rfl Nat.one_pos (by decide) rfl _ _ rfl u3.heap.size _ _ L rfl hG2 (some ⟨wr.heap.size,0,none⟩) 1 1 [K1] rfl rfl zba hll hbs ?_)
            intro v9 w9 hT9 hgrow _
            have hB9:Below u3.heap.size u3 w9:=hBb.grown hgrow hbs (fun k hk=>(hG2.lo hk).1)
            have hT9:=hT9.widen (S':=fun b=>u3.heap.size<=b/\b<w9.heap.size) (fun k h1 h2=>⟨h1.1,h2⟩)
            rw[<-HSN.out]at hT9;clear hgrow hG2 zba hbs hll HSN hBb;go_wp2
            go_roundw
            case rel=>exact⟨r+1,by omega,by go_num,by rw[HNN.out],hT9,hB9⟩
            case measure=>simp[intOf];omega
     . obtain rfl:r=k:=by omega
       have g2:¬(r:Int)<(r:Int):=by omega
       rw[List.take_of_length_le (by rw[HCL.out];exact Nat.le_refl _)]at zy5 ⊢
       rw[<-HCO.out]at zy5 ⊢
       have HGR:Hid (Gr PnE.row (fun b=>w.heap.size<=b) wr a9 c9 C):=zy5.wide (fun k h1 _=>Nat.le_trans HSZ.out h1.1)
       have HB9:Hid (∀b o,a9=some ⟨b,o,none⟩->w.heap.size<=b):=fun b o e=>Nat.le_trans HSZ.out (hb9 b o e).1
       have HKF:Hid (Kp g w wr):=HKK.out.trans (Kp.of hB)
       clear hG zy5 hb9;go_wp2
       go_ret
       exact⟨a9,c9,rfl,HGR.out,HB9.out,HKF.out⟩
theorem zwa(s:LN)(k:Nat):psR s (k+1)=psR s k++[paR (s.drop (6*k))]:=by unfold psR;rw[List.range_succ,List.map_append];rfl
theorem z04(s:LN)(k:Nat):(psR s k).length=k:=by unfold psR;rw[List.length_map,List.length_range]
theorem Gw.neBk{α:Type}{E:El α}{t u:TypeId}{base g:Nat}{S:Nat->Prop}{w:World}{v:Value}{l:List α}{cs:LV}(h:Gw E t base S w v l)(hb:Bk u w g cs)(ht:u≠t):v.ownBlock≠some g:=by
 intro e
 obtain⟨cur,k1⟩:=h.ty e
 rw[hb]at k1
 simp at k1
 exact ht k1.2
theorem zlh{v:Nat}(h:v<65536):-32768<=sx16 v/\sx16 v<=32767:=by unfold sx16;split <;> omega
theorem zk4(g:Nat)(pa:OA)(pc:Nat)(xs:LN)(p m:Nat)(w:World)(h:Sc 200 w g pa pc xs p)(hp:p<=1000)(hm:min (hd2 (xs.drop p)) 6=m)(hpb:∀b o,pa=some ⟨b,o,none⟩->xs≠[]->b<w.heap.size) :
 Calls Tryz.prog 192 #[pg g] w fun e w'=>∃a' c',e=.returned (.slice a' (psR (xs.drop (p+2)) m).length c')/\Gr PaE (fun _=>False) w' a' c' (psR (xs.drop (p+2)) m)/\(∀b o,a'=some ⟨b,o,none⟩->w.heap.size<=b)/\Kp g w w':=by
 have hu:=zhc g pa pc xs p w h (by omega)
 have hlt:=zht (h.rb.lim.drop p)
 have HPB:Hid (∀b o,pa=some ⟨b,o,none⟩->xs≠[]->b<w.heap.size):=hpb
 generalize hd2 (xs.drop p)=z at *
 have hmz:min (z:Int) 6=(m:Int):=by omega
 have hm6:m<=6:=by omega
 clear h hm hpb
 go_enter Tryz.func192,Tryz.ntmps192
 go_wp2_with fail
 refine hu.mono ?_
 rintro e u1 ⟨rfl,hS0,hK0⟩
 have HS0:Hid (Sc 200 u1 g pa pc xs (p+2)):=hS0
 have HK0:Hid (Kp g w u1):=hK0
 clear hu hS0 hK0;go_wp2;clear hmz
 go_loopw [3,10] (fun v i wr=>∃k:Nat,k<=m/\i=.int .i64 k/\Gw PaE 54 w.heap.size (fun _=>False) wr v (psR (xs.drop (p+2)) k)/\Sc 200 wr g pa pc xs (p+2+6*k)/\Kp g w wr) (fun _ i _=>m-(intOf i).toNat)
 case atStart=>exact⟨0,Nat.zero_le _,rfl,Gw.nil _ _ _ _ _,HS0.out,HK0.out⟩
 case round =>
  clear HS0 HK0;obtain⟨k,hk,rfl,hG,hS,hK⟩:=hrel;obtain⟨a3,c3,rfl,hgr,hbk⟩:=hG.slice
  by_cases hkm:k<m
  . have g1:(k:Int)<(m:Int):=by omega
    have HPS:Hid (psR (xs.drop (p+2)) (k+1)=psR (xs.drop (p+2)) k++[⟨(hd2 (xs.drop (p+2+6*k)):Int),sx16 (hd2 (xs.drop (p+2+6*k+2))),sx16 (hd2 (xs.drop (p+2+6*k+2+2)))⟩]):=by
     show _=_
     rw[zwa,List.drop_drop]
     unfold paR
     rw[List.drop_drop,List.drop_drop]
    have hll:(psR (xs.drop (p+2)) k).length+1<=1000000:=by rw[z04];omega
    have hy1:=zht (hS.rb.lim.drop (p+2+6*k))
    have hy2:=zlh (zht (hS.rb.lim.drop (p+2+6*k+2)))
    have hy3:=zlh (zht (hS.rb.lim.drop (p+2+6*k+2+2)))
    have hu1:=zhc g pa pc xs (p+2+6*k) wr hS (by omega)
    obtain⟨gl,hgl⟩:∃z,hd2 (xs.drop (p+2+6*k))=z:=⟨_,rfl⟩
    rw[hgl]at hu1 HPS hy1;clear hgl hgr hbk
    generalize psR (xs.drop (p+2)) k=L at *
    go_wp2_with fail
    refine hu1.mono ?_
    rintro e v1 ⟨rfl,hS1,hK1⟩
    have hG1:=hG.kp hS.bk (by decide) hK1
    have hKa:=hK.trans hK1
    clear hu1 hS hK hK1 hG
    have hu2:=zdl g pa pc xs (p+2+6*k+2) v1 hS1 (by omega)
    obtain⟨dx,hdx⟩:∃z,sx16 (hd2 (xs.drop (p+2+6*k+2)))=z:=⟨_,rfl⟩
    rw[hdx]at hu2 HPS hy2;clear hdx
    go_wp2_with fail
    refine hu2.mono ?_
    rintro e v2 ⟨rfl,hS2,hK2⟩
    have hG2:=hG1.kp hS1.bk (by decide) hK2
    replace hKa:=hKa.trans hK2
    clear hu2 hS1 hK2 hG1
    have hu3:=zdl g pa pc xs (p+2+6*k+2+2) v2 hS2 (by omega)
    obtain⟨dy,hdy⟩:∃z,sx16 (hd2 (xs.drop (p+2+6*k+2+2)))=z:=⟨_,rfl⟩
    rw[hdy]at hu3 HPS hy3;clear hdy
    go_wp2_with fail
    refine hu3.mono ?_
    rintro e v3 ⟨rfl,hS3,hK3⟩
    have hG3:=hG2.kp hS2.bk (by decide) hK3
    replace hKa:=hKa.trans hK3
    clear hu3 hS2 hK3 hG2
    have hI1:I64 (gl:Int):=⟨by omega,by omega⟩
    have hI2:I64 dx:=⟨by omega,by omega⟩
    have hI3:I64 dy:=⟨by omega,by omega⟩
    have bp:=bl1 (w:=v3) (.cells #[.int .i64 (gl:Int),.int .i64 dx,.int .i64 dy] 54)
    have hGb:=hG3.below bp
    have hSb:=hS3.below bp
    have zba:Gr PaE (fun k=>False/\(Value.slice a3 L.length c3).ownBlock≠some k) (v3.alloc (.cells #[.int .i64 (gl:Int),.int .i64 dx,.int .i64 dy] 54)) (some ⟨v3.heap.size,0,none⟩) 1 [⟨(gl:Int),dx,dy⟩]:=Gr.one_new (E:=PaE) (paC ⟨(gl:Int),dx,dy⟩) 54 (zcf.2 ⟨rfl,hI1,hI2,hI3⟩)
    have hKb:Kp g w (v3.alloc (.cells #[.int .i64 (gl:Int),.int .i64 dx,.int .i64 dy] 54)):=hKa.alloc _
    have hbs:=hKb.size
    have hvg:=hGb.neBk hSb.bk (by decide)
    clear bp hG3 hS3 hKa
    go_wp2_with (at_builtin;refine zad 55 54 Tryz.underlying55 zly rfl (by decide) (by decide) rfl _ _ rfl w.heap.size (fun _=>False) _ L rfl hGb (some ⟨v3.heap.size,0,none⟩) 1 1 [⟨(gl:Int),dx,dy⟩] rfl rfl zba hll hbs ?_)
    intro v9 w9 hT9 hgrow _
    have hS9:=hSb.grown hgrow hvg (fun b o e hne e2=>by
     have:=(hGb.lo e2).1
     have:=HPB.out b o e hne
     omega)
    have hK9:Kp g w w9:=hKb.grown hgrow (fun k hk=>(hGb.lo hk).1)
    rw[<-HPS.out]at hT9;clear hgrow hGb hSb zba hKb hbs hvg hll HPS;go_wp2
    go_roundw
    case rel=>exact⟨k+1,by omega,by go_num,hT9,by rw[show p+2+6*(k+1)=p+2+6*k+2+2+2 by omega];exact hS9,hK9⟩
    case measure=>simp[intOf];omega
  . obtain rfl:k=m:=by omega
    have g1:¬(k:Int)<(k:Int):=by omega
    have HB3:Hid (∀b o,a3=some ⟨b,o,none⟩->w.heap.size<=b):=fun b o e=>(hbk b o e).1
    clear hG hbk hS;go_wp2
    go_ret
    exact⟨a3,c3,rfl,hgr,HB3.out,hK⟩
theorem Bk.set2{t:TypeId}{w:World}{g:Nat}{x y:Value}(h:Bk t w g [x,y])(x' y':Value):Bk t ((w.setCell ⟨g,0,none⟩ x').setCell ⟨g,1,none⟩ y') g [x',y']:=(h.set 0 x').set 1 y'
theorem zb8{w:World}{g b:Nat}(x' y':Value)(hb:b≠g):((w.setCell ⟨g,0,none⟩ x').setCell ⟨g,1,none⟩ y').heap[b]?=w.heap[b]?:=by
 rw[Below.heap_setCell _ _ _ _ (fun e=>hb e),Below.heap_setCell _ _ _ _ (fun e=>hb e)]
theorem zed{w:World}{g:Nat}(x' y':Value):((w.setCell ⟨g,0,none⟩ x').setCell ⟨g,1,none⟩ y').heap.size=w.heap.size:=by simp[World.setCell]
theorem zhm(g:Nat)(pa:OA)(pc:Nat)(xs:LN)(w:World)(h:Sc 200 w g pa pc xs 0)(hpb:∀b o,pa=some ⟨b,o,none⟩->xs≠[]->b<w.heap.size) :
 Calls Tryz.prog 145 #[pg g] w fun e w'=>∃a ca b cb,e=.returned (.agg #[.slice a (candK xs).cs.length ca,.slice b (candK xs).ps.length cb])/\Gr PnE.row (fun k=>w.heap.size<k) w' a ca (candK xs).cs/\Gr PaE (fun _=>False) w' b cb (candK xs).ps/\(∀c o,a=some ⟨c,o,none⟩->w.heap.size<c)/\(∀c o,b=some ⟨c,o,none⟩->w.heap.size<c)/\Kp g w w':=by
 obtain⟨W,hW,X1,hbW⟩:∃W,W=w.alloc (.cells #[.slice none 0 0,.slice none 0 0] 57)/\Bk 57 W w.heap.size [.slice none 0 0,.slice none 0 0]/\Below w.heap.size w W:=⟨_,rfl,Bk.new _ _ _,bl1 _⟩
 have hWs:W.heap.size=w.heap.size+1:=by rw[hW];simp
 have hgl:g<w.heap.size:=h.bk.lt
 replace h:=h.below hbW
 have hKW:Kp g w W:=Kp.of hbW
 have hu:=zdl g pa pc xs 0 W h (by omega)
 have hn:=zlh (zht (h.rb.lim.drop 0))
 rw[List.drop_zero]at hu hn
 have HCK:Hid (candK xs=if sx16 (hd2 xs)=-1 then ⟨[],psR ((xs.drop 2).drop 2) (min (hd2 (xs.drop 2)) 6)⟩else ⟨conK (min (sx16 (hd2 xs)) 10).toNat (xs.drop 2),[]⟩):=rfl
 obtain⟨n,hn0⟩:∃n,sx16 (hd2 xs)=n:=⟨_,rfl⟩
 rw[hn0]at hu hn HCK;clear hn0 h
 go_enter Tryz.func145,Tryz.ntmps145
 go_wp2_with fail
 rw[<-hW];clear hW
 refine hu.mono ?_
 rintro e u1 ⟨rfl,hS,hK1⟩
 have hK:=hKW.trans hK1
 replace X1:=X1.kp hK1 (by omega)
 have hsz:=hK1.size
 clear hu hK1 hKW hbW
 have HPB:Hid (∀b o,pa=some ⟨b,o,none⟩->xs≠[]->b<u1.heap.size):=fun b o e hne=>Nat.lt_of_lt_of_le (hpb b o e hne) hK.size
 by_cases h1:n=-1
 . have HC:Hid (candK xs=⟨[],psR ((xs.drop 2).drop 2) (min (hd2 (xs.drop 2)) 6)⟩):=by show _=_;rw[HCK.out,if_pos h1]
   have g1:(n == -1)=true:=by simp[h1]
   have hpo:=zk4 g pa pc xs 2 (min (hd2 (xs.drop 2)) 6) u1 hS (by omega) rfl HPB.out
   rw[show 2+2=4 from rfl]at hpo
   rw[List.drop_drop,show 2+2=4 from rfl]at HC
   generalize psR (xs.drop 4) (min (hd2 (xs.drop 2)) 6)=P at *
   clear h1 HCK hpb
   go_wp2_with fail
   refine hpo.mono ?_
   rintro e u2 ⟨a2,c2,rfl,hgr,hbk,hK2⟩
   replace X1:=X1.kp hK2 (by omega)
   replace hK:=hK.trans hK2
   clear hpo hS
   obtain⟨U,hU⟩:∃U,U=(u2.setCell ⟨w.heap.size,0,none⟩ (.slice none 0 0)).setCell ⟨w.heap.size,1,none⟩ (.slice a2 P.length c2):=⟨_,rfl⟩
   have A:=X1.set2 (.slice none 0 0) (.slice a2 P.length c2)
   have hKU:=(hK.other (b:=w.heap.size) 0 (.slice none 0 0) (Nat.le_refl _)).other (b:=w.heap.size) 1 (.slice a2 P.length c2) (Nat.le_refl _)
   have hgU:Gr PaE (fun _=>False) ((u2.setCell ⟨w.heap.size,0,none⟩ (.slice none 0 0)).setCell ⟨w.heap.size,1,none⟩ (.slice a2 P.length c2)) a2 c2 P:=hgr.stay (by rw[zed];exact Nat.le_refl _) (fun k hk=>hk.elim) (fun b o e _ _=>zb8 _ _ (by have:=hbk b o e;omega))
   rw[<-hU]at A hKU hgU;obtain⟨x0,x1,f0,f1⟩:=X1.two
   have HBK:Hid (∀c o,a2=some ⟨c,o,none⟩->w.heap.size<c):=fun c o e=>by have:=hbk c o e;omega
   clear hK hgr hbk hK2;go_wp2;rw[<-hU];clear hU
   (try simp only[Exit.inBlock,Exit.then])
   refine bodyPost_ret (v:=.agg #[.slice none 0 0,.slice a2 P.length c2]) (by obtain⟨r0,r1,_⟩:=A.two;simp[results,Tryz.results145,go_sem,r0,r1]) rfl ⟨none,0,a2,c2,by rw[HC.out];rfl,by rw[HC.out];exact Gr.nil _ _ _ _ _ (Nat.zero_le _) (fun _=>rfl),by rw[HC.out];exact hgU,(fun c o e=>by cases e),HBK.out,hKU⟩
 . have HC:Hid (candK xs=⟨conK (min n 10).toNat (xs.drop 2),[]⟩):=by show _=_;rw[HCK.out,if_neg h1]
   have g1:(n == -1)=false:=by simp[h1]
   have hco:=zha n (min n 10).toNat g pa pc xs 2 u1 hS (by omega) rfl HPB.out ⟨by omega,by omega⟩
   generalize conK (min n 10).toNat (xs.drop 2)=C at *
   clear h1 HCK hpb
   go_wp2_with fail
   refine hco.mono ?_
   rintro e u2 ⟨a2,c2,rfl,hgr,hbk,hK2⟩
   replace X1:=X1.kp hK2 (by omega)
   replace hK:=hK.trans hK2
   clear hco hS
   obtain⟨U,hU⟩:∃U,U=(u2.setCell ⟨w.heap.size,0,none⟩ (.slice a2 C.length c2)).setCell ⟨w.heap.size,1,none⟩ (.slice none 0 0):=⟨_,rfl⟩
   have A:=X1.set2 (.slice a2 C.length c2) (.slice none 0 0)
   have hKU:=(hK.other (b:=w.heap.size) 0 (.slice a2 C.length c2) (Nat.le_refl _)).other (b:=w.heap.size) 1 (.slice none 0 0) (Nat.le_refl _)
   have hgU:Gr PnE.row (fun k=>w.heap.size<k) ((u2.setCell ⟨w.heap.size,0,none⟩ (.slice a2 C.length c2)).setCell ⟨w.heap.size,1,none⟩ (.slice none 0 0)) a2 c2 C:=hgr.stay (by rw[zed];exact Nat.le_refl _) (fun k hk _=>⟨by omega,zb8 _ _ (by omega)⟩) (fun b o e _ _=>zb8 _ _ (by have:=hbk b o e;omega))
   rw[<-hU]at A hKU hgU;obtain⟨x0,x1,f0,f1⟩:=X1.two
   have HBK:Hid (∀c o,a2=some ⟨c,o,none⟩->w.heap.size<c):=fun c o e=>by have:=hbk c o e;omega
   clear hK hgr hbk hK2;go_wp2;rw[<-hU];clear hU
   (try simp only[Exit.inBlock,Exit.then])
   refine bodyPost_ret (v:=.agg #[.slice a2 C.length c2,.slice none 0 0]) (by obtain⟨r0,r1,_⟩:=A.two;simp[results,Tryz.results145,go_sem,r0,r1]) rfl ⟨a2,c2,none,0,by rw[HC.out];rfl,by rw[HC.out];exact hgU,by rw[HC.out];exact Gr.nil _ _ _ _ _ (Nat.zero_le _) (fun _=>rfl),HBK.out,(fun c o e=>by cases e),hKU⟩
theorem rdO_K(b:LN):rdOE b=(if (decide (wrOE (candK b)=0)&&decide (wrOB (candK b)=b))=true then 0 else 2)/\rdOL b=(if (decide (wrOE (candK b)=0)&&decide (wrOB (candK b)=b))=true then candK b else Ol.none):=by
 obtain⟨h1,h2⟩:=zx8 b
 rw[h1]
 unfold rdOE rdOL
 cases h:rdOk b with
 | false=>exact⟨rfl,rfl⟩
 | true=>exact⟨rfl,by rw[h2 h]⟩
theorem zmi(pa:OA)(pc:Nat)(xs:LN)(w:World)(h:Rb w pa pc xs) :
 Calls Tryz.prog 87 #[.slice pa xs.length pc] w fun e w'=>∃a ca b cb,e=.returned (.tuple #[.agg #[.slice a (rdOL xs).cs.length ca,.slice b (rdOL xs).ps.length cb],.int .i64 (rdOE xs)])/\Gr PnE.row (fun k=>w.heap.size<=k) w' a ca (rdOL xs).cs/\Gr PaE (fun k=>w.heap.size<=k) w' b cb (rdOL xs).ps/\((∀c o,a=some ⟨c,o,none⟩->w.heap.size<=c)/\∀c o,b=some ⟨c,o,none⟩->w.heap.size<=c)/\Below w.heap.size w w':=by
 have hle:=h.le
 have hcm:=h.cap
 unfold maxLen at hcm
 have HB:Hid (∀b o,pa=some ⟨b,o,none⟩->xs≠[]->b<w.heap.size):=fun b o e hne=>by
  rcases h.2.2.2.2 with h0|⟨b',o',e',hb',_⟩
  . exact absurd h0 hne
  . rw[e]at e'
    cases e'
    exact hb'
 obtain⟨W,hW,X1,X2,hbW⟩:∃W,W=(w.alloc (.cells #[.slice none 0 0,.slice none 0 0] 57)).alloc (.cells #[.slice pa xs.length pc,.int .i64 0] 200)/\Bk 57 W w.heap.size [.slice none 0 0,.slice none 0 0]/\Bk 200 W (w.heap.size+1) [.slice pa xs.length pc,.int .i64 0]/\Below w.heap.size w W:=⟨_,rfl,(Bk.new _ _ _).below (bl1 _),Bk.new1 _ _ _ _,bl2 _ _⟩
 have hWs:W.heap.size=w.heap.size+2:=by rw[hW];simp
 have hrb:=h.below hbW
 have hS:Sc 200 W (w.heap.size+1) pa pc xs 0:=⟨X2,hrb,fun b o e hne=>by have:=HB.out b o e hne;omega⟩
 have hou:=zhm (w.heap.size+1) pa pc xs W hS (fun b o e hne=>Nat.lt_of_lt_of_le (HB.out b o e hne) hbW.size)
 have HRE:Hid (_):=(rdO_K xs).1
 have HRL:Hid (_):=(rdO_K xs).2
 generalize rdOE xs=re at *
 generalize rdOL xs=rl at *
 generalize candK xs=o at *
 have HRB:Hid (Rb w pa pc xs):=h
 have HWS:Hid (W.heap.size=w.heap.size+2):=hWs
 clear h hrb hS X2 hWs
 go_enter Tryz.func87,Tryz.ntmps87
 go_wp2_with fail
 rw[<-hW];clear hW
 refine hou.mono ?_
 rintro e u1 ⟨a1,c1,b1,d1,rfl,hgc,hgp,hba,hbb,hKp⟩
 have hWs:=HWS.out
 have hB1:Below w.heap.size w u1:=hbW.trans (hKp.below (by omega) (by omega))
 replace X1:=X1.kp hKp (by omega)
 have HBA:Hid (∀c o,a1=some ⟨c,o,none⟩->w.heap.size<c):=fun c o e=>by have:=hba c o e;omega
 have HBB:Hid (∀c o,b1=some ⟨c,o,none⟩->w.heap.size<c):=fun c o e=>by have:=hbb c o e;omega
 clear hou
 obtain⟨V,hV,Y1,hbV⟩:∃V,V=u1.alloc (.cells #[.slice a1 o.cs.length c1,.slice b1 o.ps.length d1] 57)/\Bk 57 V u1.heap.size [.slice a1 o.cs.length c1,.slice b1 o.ps.length d1]/\Below u1.heap.size u1 V:=⟨_,rfl,Bk.new _ _ _,bl1 _⟩
 have hgl:w.heap.size<u1.heap.size:=X1.lt
 replace X1:=X1.below hbV
 replace hgc:=(hgc.below hbV).wide (S':=fun k=>w.heap.size<k) (fun k h1 _=>by omega)
 replace hgp:=hgp.below hbV
 replace hB1:Below w.heap.size w V:=hB1.trans (hbV.mono hB1.size)
 have hwr:=zme _ a1 c1 b1 d1 o V hgc hgp.anyA
 have kc:=hgc.lenB
 have kp:=hgp.lenB
 clear hbV hKp hbW hba hbb hWs
 go_wp2_with fail
 rw[<-hV];clear hV
 refine hwr.mono ?_
 rintro e u2 ⟨a2,c2,rfl,hr2,hb2⟩;replace X1:=X1.below hb2;replace Y1:=Y1.below hb2;replace hgc:=hgc.below hb2;replace hgp:=hgp.below hb2
 replace hB1:Below w.heap.size w u2:=hB1.trans (hb2.mono hB1.size)
 clear hwr hb2
 have heq:=zk1 a2 pa c2 pc (wrOB o) xs u2 hr2 (HRB.out.below hB1)
 obtain⟨x0,x1,f0,f1⟩:=X1.two
 have hba:=HBA.out
 have hbb:=HBB.out
 have hOK:wrOE o=0\/wrOE o≠0:=by omega
 rcases hOK with h0|h0
 rotate_left
 . have HE:Hid (re=2/\rl=Ol.none):=by rw[decide_eq_false h0,Bool.false_and]at HRE HRL;exact⟨HRE.out,HRL.out⟩
   have g1:(wrOE o != 0)=true:=bne_iff_ne.2 h0
   clear h0 heq HRE HRL
   generalize wrOB o=ob at *
   generalize wrOE o=oe at *
   obtain⟨U,hU⟩:∃U,U=(u2.setCell ⟨w.heap.size,0,none⟩ (.slice none 0 0)).setCell ⟨w.heap.size,1,none⟩ (.slice none 0 0):=⟨_,rfl⟩
   have A:=X1.set2 (.slice none 0 0) (.slice none 0 0)
   have hbU:Below w.heap.size w ((u2.setCell ⟨w.heap.size,0,none⟩ (.slice none 0 0)).setCell ⟨w.heap.size,1,none⟩ (.slice none 0 0)):=(hB1.setCell (p:=⟨w.heap.size,0,none⟩) (Nat.le_refl _) _).setCell (p:=⟨w.heap.size,1,none⟩) (Nat.le_refl _) _
   rw[<-hU]at A hbU;clear hgc hgp hba hbb hB1;go_wp2;rw[<-hU];clear hU
   (try simp only[Exit.inBlock,Exit.then])
   refine bodyPost_ret (v:=.tuple #[.agg #[.slice none 0 0,.slice none 0 0],.int .i64 2]) (by obtain⟨r0,r1,_⟩:=A.two;simp[results,Tryz.results87,go_sem,r0,r1]) rfl ⟨none,0,none,0,by rw[HE.out.1,HE.out.2];rfl,by rw[HE.out.2];exact Gr.nil _ _ _ _ _ (Nat.zero_le _) (fun _=>rfl),by rw[HE.out.2];exact Gr.nil _ _ _ _ _ (Nat.zero_le _) (fun _=>rfl),⟨(fun c o e=>by cases e),(fun c o e=>by cases e)⟩,hbU⟩
 have g1:(wrOE o != 0)=false:=by rw[h0];rfl
 by_cases h1:wrOB o=xs
 rotate_left
 . have HE:Hid (re=2/\rl=Ol.none):=by rw[decide_eq_false h1,Bool.and_false]at HRE HRL;exact⟨HRE.out,HRL.out⟩
   rw[decide_eq_false h1]at heq;clear h0 h1 HRE HRL
   generalize wrOB o=ob at *
   generalize wrOE o=oe at *
   go_wp2_with fail
   refine heq.mono ?_
   rintro e v ⟨rfl,rfl⟩;clear heq
   obtain⟨U,hU⟩:∃U,U=(u2.setCell ⟨w.heap.size,0,none⟩ (.slice none 0 0)).setCell ⟨w.heap.size,1,none⟩ (.slice none 0 0):=⟨_,rfl⟩
   have A:=X1.set2 (.slice none 0 0) (.slice none 0 0)
   have hbU:Below w.heap.size w ((u2.setCell ⟨w.heap.size,0,none⟩ (.slice none 0 0)).setCell ⟨w.heap.size,1,none⟩ (.slice none 0 0)):=(hB1.setCell (p:=⟨w.heap.size,0,none⟩) (Nat.le_refl _) _).setCell (p:=⟨w.heap.size,1,none⟩) (Nat.le_refl _) _
   rw[<-hU]at A hbU;clear hgc hgp hba hbb hB1;go_wp2;rw[<-hU];clear hU
   (try simp only[Exit.inBlock,Exit.then])
   refine bodyPost_ret (v:=.tuple #[.agg #[.slice none 0 0,.slice none 0 0],.int .i64 2]) (by obtain⟨r0,r1,_⟩:=A.two;simp[results,Tryz.results87,go_sem,r0,r1]) rfl ⟨none,0,none,0,by rw[HE.out.1,HE.out.2];rfl,by rw[HE.out.2];exact Gr.nil _ _ _ _ _ (Nat.zero_le _) (fun _=>rfl),by rw[HE.out.2];exact Gr.nil _ _ _ _ _ (Nat.zero_le _) (fun _=>rfl),⟨(fun c o e=>by cases e),(fun c o e=>by cases e)⟩,hbU⟩
 have HE:Hid (re=0/\rl=o):=by rw[decide_eq_true h0,decide_eq_true h1,Bool.and_self]at HRE HRL;exact⟨HRE.out,HRL.out⟩
 rw[decide_eq_true h1]at heq;clear h0 h1 HRE HRL
 generalize wrOB o=ob at *
 generalize wrOE o=oe at *
 go_wp2_with fail
 refine heq.mono ?_
 rintro e v ⟨rfl,rfl⟩;clear heq;obtain⟨y0,y1,_⟩:=Y1.two
 obtain⟨U,hU⟩:∃U,U=(u2.setCell ⟨w.heap.size,0,none⟩ (.slice a1 o.cs.length c1)).setCell ⟨w.heap.size,1,none⟩ (.slice b1 o.ps.length d1):=⟨_,rfl⟩
 have A:=X1.set2 (.slice a1 o.cs.length c1) (.slice b1 o.ps.length d1)
 have hbU:Below w.heap.size w ((u2.setCell ⟨w.heap.size,0,none⟩ (.slice a1 o.cs.length c1)).setCell ⟨w.heap.size,1,none⟩ (.slice b1 o.ps.length d1)):=(hB1.setCell (p:=⟨w.heap.size,0,none⟩) (Nat.le_refl _) _).setCell (p:=⟨w.heap.size,1,none⟩) (Nat.le_refl _) _
 have hgcU:Gr PnE.row (fun k=>w.heap.size<=k) ((u2.setCell ⟨w.heap.size,0,none⟩ (.slice a1 o.cs.length c1)).setCell ⟨w.heap.size,1,none⟩ (.slice b1 o.ps.length d1)) a1 c1 o.cs:=hgc.stay (by rw[zed];exact Nat.le_refl _) (fun k hk _=>⟨by omega,zb8 _ _ (by omega)⟩) (fun b o e _ _=>zb8 _ _ (by have:=hba b o e;omega))
 have hgpU:Gr PaE (fun k=>w.heap.size<=k) ((u2.setCell ⟨w.heap.size,0,none⟩ (.slice a1 o.cs.length c1)).setCell ⟨w.heap.size,1,none⟩ (.slice b1 o.ps.length d1)) b1 d1 o.ps:=hgp.stay (by rw[zed];exact Nat.le_refl _) (fun k hk=>hk.elim) (fun b o e _ _=>zb8 _ _ (by have:=hbb b o e;omega))
 have hloc:(∀c o,a1=some ⟨c,o,none⟩->w.heap.size<=c)/\∀c o,b1=some ⟨c,o,none⟩->w.heap.size<=c:=⟨fun c o e=>by have:=hba c o e;omega,fun c o e=>by have:=hbb c o e;omega⟩
 rw[<-hU]at A hbU hgcU hgpU;clear hgc hgp hba hbb hB1;go_wp2;rw[<-hU];clear hU
 (try simp only[Exit.inBlock,Exit.then])
 refine bodyPost_ret (v:=.tuple #[.agg #[.slice a1 o.cs.length c1,.slice b1 o.ps.length d1],.int .i64 0]) (by obtain⟨r0,r1,_⟩:=A.two;simp[results,Tryz.results87,go_sem,r0,r1]) rfl ⟨a1,c1,b1,d1,by rw[HE.out.1,HE.out.2],by rw[HE.out.2];exact hgcU,by rw[HE.out.2];exact hgpU,hloc,hbU⟩
