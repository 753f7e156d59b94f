import Derived.Test.YtkmcodofnckdmaaGreatZK43
import Derived.Test.YtkmcodofnckdmaaGreatZK42
set_option maxHeartbeats 8000000
set_option maxRecDepth 100000
set_option linter.unusedSimpArgs false
set_option linter.unusedVariables false
namespace Go.Proofs.YtkmcodofnckdmaaGreat
open Tryz Go.RowKit Go.Maps
theorem zr4(L:Nat)(es:LN)(p:Nat):numK L es p 0=p:=by cases es <;> rfl
def cntF(E:LN)(k:Nat):Nat:=if k=0 then 0 else min (E.getD (k-1) 0+1) 80
theorem z0o(E:LN)(k:Nat):cntF E k<=80:=by unfold cntF;split <;> omega
theorem z1f{m:Nat}{xs:LN}{p k:Nat}(hk:k<m):(rdE m (xs.drop p)).1.getD k 0=hd2 (xs.drop (p+2*k)):=by rw[zrm m _ k hk,List.drop_drop]
theorem zza{E:LN}{k e:Nat}(hk:k<E.length)(he:E.getD k 0=e):nI (E.take (k+1))=nI (E.take k)++[(e:Int)]:=by rw[zak (d:=0) hk,zk4,he];rfl
theorem zih{l:List Pn}{a j:Nat}{q:Pn}(h:a+j<l.length)(hq:l.getD (a+j) Pn.none=q):(l.drop a).take (j+1)=(l.drop a).take j++[q]:=by
 rw[zak (d:=Pn.none) (by rw[qJ];omega)];congr 2;rw[<-hq];simp[List.getD]
theorem Gw.widen{α:Type}{E:El α}{t:TypeId}{base:Nat}{S S':Nat->Prop}{w:World}{v:Value}{l:List α}(h:Gw E t base S w v l)(hS:∀k,S k->k<w.heap.size->S' k):Gw E t base S' w v l :=
 h.stay (qE _) (fun k h1 _ h2=>⟨hS k h1 h2,rfl⟩) (fun _ _=>rfl)
theorem zh7(n:Int)(m:Nat)(g:Nat)(pa:OA)(pc:Nat)(xs:LN)(p:Nat)(w:World)(h:Sc 200 w g pa pc xs p)(hp:p<=1000)(hm:(min n 10).toNat=m)(hpb:∀b o,pa=some ⟨b,o,none⟩->xs≠[]->b<w.heap.size)(hn:I64 n) :
 Calls Tryz.prog 193 #[pg g,.int .i64 n] w fun e w'=>∃a' c',e=.returned (.slice a' (conK m (xs.drop p)).length c')/\Gr PnE.row (fun b=>w.heap.size<=b) w' a' c' (conK m (xs.drop p))/\(∀b o,a'=some ⟨b,o,none⟩->w.heap.size<=b)/\Kp g w w':=by
 have hm10:m<=10:=by omega
 have hn1:-9223372036854775808<=n/\n<=9223372036854775807:=hn;obtain⟨mz,hmz⟩:∃mz:Int,min n 10=mz:=⟨_,rfl⟩;have hmz1:mz.toNat=m:=by rw[<-hmz];exact hm
 have hgl:g<w.heap.size:=h.bk.lt;have HPB:Hid (∀b o,pa=some ⟨b,o,none⟩->xs≠[]->b<w.heap.size):=hpb;have HCO:Hid (conK m (xs.drop p)=cutK (rdE m (xs.drop p)).1 0 (ptK (cntF (rdE m (xs.drop p)).1 m) (xs.drop (p+2*m)))):=by
  show _=_;unfold conK;rw[zns,List.drop_drop];rfl
 have HEL:Hid ((rdE m (xs.drop p)).1.length=m):=zl1 _ _;have HEG:Hid (∀k,k<m->(rdE m (xs.drop p)).1.getD k 0=hd2 (xs.drop (p+2*k))):=fun k hk=>z1f hk;generalize conK m (xs.drop p)=C at *;generalize (rdE m (xs.drop p)).1=E at *;clear hm hpb;go_enter func193,ntmps193;go_wp2;clear hmz
 go_loopw [5,6,16] (fun v cv i wr=>∃k:Nat,k<=m/\i=.int .i64 k/\cv=.int .i64 (cntF E k:Int)/\v.ownBlock≠some g/\Gi w.heap.size wr v (nI (E.take k))/\Sc 200 wr g pa pc xs (p+2*k)/\Kp g w wr) (fun _ _ i _=>m-(intOf i).toNat)
 case atStart=>exact⟨0,qD _,rfl,rfl,(fun e=>by cases e),Gi.nil _ _,h,Kp.refl _ _⟩
 case round =>
  clear h;obtain⟨k,hk,rfl,rfl,hvg,hG,hS,hK⟩:=hrel;obtain⟨a5,c5,rfl,hri,hbk⟩:=hG.slice;by_cases hkm:k<m
  . have g1:(k:Int)<mz:=by omega
    have hu:=zh9 g pa pc xs (p+2*k) wr hS (by omega);have heq:=HEG.out k hkm;have hlt:=zdf (hS.rb.lim.drop (p+2*k));rw[<-heq]at hu hlt;obtain⟨e,he⟩:∃e,E.getD k 0=e:=⟨_,rfl⟩;have HSN:Hid (_):=zza (by rw[HEL.out];exact hkm) he;have HCN:Hid (cntF E (k+1)=min (e+1) 80):=(by show _=_;unfold cntF;rw[if_neg (by omega),Nat.add_sub_cancel,he]);rw[he]at hu hlt;have hll:(nI (E.take k)).length+1<=1000000:=(by rw[zdd,qL];omega);clear heq he hri hbk;generalize nI (E.take k)=L at *;generalize cntF E k=cq at *;go_wp2_with fail
    refine hu.mono ?_;rintro e' u1 ⟨rfl,hS1,hK1⟩;have hG1:=hG.kp hS.bk (by decide) hK1;have hK2:=hK.trans hK1;clear hu hS hK hK1 hG;have bp:=bl1 (w:=u1) (.cells #[.int .i64 (e:Int)] 3);have hGb:=hG1.below bp;have hSb:=hS1.below bp;have hN:=Bk.new 3 u1 [.int .i64 (e:Int)];have n0:=hN.cell 0 (by simp);have zk6:u1.heap.size<(u1.alloc (.cells #[.int .i64 (e:Int)] 3)).heap.size:=hN.lt;have hKb:Kp g w (u1.alloc (.cells #[.int .i64 (e:Int)] 3)):=hK2.alloc _;have hbs:=hKb.size;have hei:I64 (e:Int):=⟨by omega,by omega⟩;obtain⟨cz,hcz⟩:∃c:Nat,min ((e:Int)+1) 80=(c:Int):=⟨min (e+1) 80,by omega⟩;have hcz2:min (e+1) 80=cz:=(by omega);rw[hcz2]at HCN;clear hN bp hG1 hK2 hcz2;go_wp2_with (at_builtin;refine zah rfl _ _ rfl w.heap.size _ L rfl hGb u1.heap.size (e:Int) rfl zk6 n0 hei hll hbs ?_)
    intro v9 w9 hG9 hgrow hown
    have hS9:=hSb.grown hgrow hvg (fun b o e' hne e2=>by
     have:=(hGb.lo e2).1;have:=HPB.out b o e' hne
     omega)
    have hK9:Kp g w w9:=hKb.grown hgrow (fun k hk=>(hGb.lo hk).1);have HV9:Hid (v9.ownBlock≠some g):=by
     rcases hown with ho|ho
     . show _≠_
       rw[ho];exact hvg
     . show _≠_
       rw[ho];intro e';have h1:=Option.some.inj e';have h2:=hS1.bk.lt
       (try simp at h1)
       omega
    rw[<-HSN.out]at hG9;clear hgrow hown hGb hSb n0 zk6 hKb hbs hvg hll HSN hS1;go_wp2;go_roundw
    case rel=>exact⟨k+1,by omega,by go_num,by rw[HCN.out],HV9.out,hG9,by rw[show p+2*(k+1)=p+2*k+2 by omega];exact hS9,hK9⟩
    case measure=>simp[intOf];omega
  . obtain rfl:k=m:=by omega
    have g1:¬(k:Int)<mz:=(by omega);have hcl:=z0o E k;have hpo:=zj7 (cntF E k) g pa pc xs (p+2*k) wr hS (by omega) hcl (fun b o e hne=>qN (HPB.out b o e hne) hK.size);have hpl:=zl2 (cntF E k) (xs.drop (p+2*k));rw[List.take_of_length_le (by rw[HEL.out];exact qE _)]at hri hG ⊢;rw[hpl]at hpo;have HPL:Hid (_):=hpl;generalize ptK (cntF E k) (xs.drop (p+2*k))=PT at *;generalize cntF E k=cnt at *;have HNL:Hid ((nI E).length=k):=(by show _=_;rw[zdd];exact HEL.out);rw[HNL.out];clear hpl hvg hG;go_wp2_with fail
    refine hpo.mono ?_;rintro e u3 ⟨a8,c8,rfl,hpts,hbk8,hK8⟩;have HRI:Hid (Ri u3 a5 c5 (nI E)):=Ri.kept hri hK8 (fun b o e=>⟨(hbk b o e).2,by have:=(hbk b o e).1;omega⟩);have HPT:Hid (Gr PnE (fun _=>False) u3 a8 c8 PT):=hpts;have HKK:Hid (Kp g w u3):=hK.trans hK8;have HSZ:Hid (w.heap.size<=u3.heap.size):=HKK.out.size;clear hpo hpts hbk8 hK8 hri hbk hS hK g1 hk hkm hmz1;go_wp2
    go_loopw [9,10,33] (fun v nv i wr=>∃r:Nat,r<=k/\i=.int .i64 r/\nv=.int .i64 (numK cnt E 0 r:Int)/\Gw PnE.row 63 u3.heap.size (fun b=>u3.heap.size<=b/\b<wr.heap.size) wr v ((cutK E 0 PT).take r)/\Below u3.heap.size u3 wr) (fun _ _ i _=>k-(intOf i).toNat)
    case atStart=>exact⟨0,qD _,rfl,by rw[zr4];rfl,Gw.nil _ _ _ _ _,Below.refl _ _⟩
    case round =>
     obtain⟨r,hr,rfl,rfl,hG,hB⟩:=hrel;obtain⟨a9,c9,rfl,zw0,hb9⟩:=hG.slice;have HCL:Hid ((cutK E 0 PT).length=k):=(by show _=_;rw[zv5];exact HEL.out);by_cases hrk:r<k
     . obtain⟨b5,o5,ea,hb5,d0⟩:=HRI.out.at hB r (by rw[HNL.out];exact hrk)
       rw[ze3]at d0;subst ea;have hnl:=zy5 (L:=cnt) E 0 r (qD _);obtain⟨zcn,zf9⟩:=z0l E 0 PT r (by rw[HEL.out];exact hrk);rw[HPL.out]at zcn zf9;have hll:((cutK E 0 PT).take r).length+1<=1000000:=(by rw[qL];omega);have HSN:Hid (_):=zak (m:=cutK E 0 PT) (d:=[]) (k:=r) (by rw[HCL.out];exact hrk);rw[zcn]at HSN;generalize E.getD r 0=ed at *;obtain⟨nm,hnm⟩:∃z,numK cnt E 0 r=z:=⟨_,rfl⟩;rw[hnm]at hnl zf9 HSN ⊢;obtain⟨lim,hlim⟩:∃z,min (ed+1) cnt=z:=⟨_,rfl⟩;rw[hlim]at zf9 HSN;have z2c:(lim=ed+1/\ed+1<=cnt)\/(lim=cnt/\cnt<=ed+1):=(by omega);have zqd:Hid (numK cnt E 0 (r+1)=max nm lim):=zf9;generalize (cutK E 0 PT).take r=L at *;have i1:(0:Int)<=(r:Int):=(by omega);have i2:(r:Int)<(k:Int):=(by omega);have HG:Hid (Gw PnE.row 63 u3.heap.size (fun b=>u3.heap.size<=b/\b<wr.heap.size) wr (.slice a9 L.length c9) L):=hG;have HB:Hid (Below u3.heap.size u3 wr):=hB;obtain⟨wo,rfl⟩:∃wo,wo=wr:=⟨_,rfl⟩;clear zcn zf9 hnm hlim zw0 hb9 hG;go_wp2;clear d0 hB
       go_loopw [10,13] (fun nv v wr=>∃j:Nat,nm+j<=max nm lim/\nv=.int .i64 ((nm+j:Nat):Int)/\Gw PnE 65 wo.heap.size (fun _=>False) wr v ((PT.drop nm).take j)/\Below wo.heap.size wo wr) (fun nv _ _=>max nm lim-(intOf nv).toNat)
       case atStart=>exact⟨0,by omega,rfl,Gw.nil _ _ _ _ _,Below.refl _ _⟩
       case round =>
        obtain⟨j,hj,rfl,hV,hBo⟩:=hrel;obtain⟨a13,c13,rfl,zph,z0x⟩:=hV.slice;obtain⟨nj,hnj⟩:∃z,nm+j=z:=⟨_,rfl⟩;have HNJ:Hid (nm+j=nj):=hnj;rw[hnj]at hj ⊢;by_cases hgo:nj<lim
        . have hB3:=HB.out.trans (hBo.mono HB.out.size)
          obtain⟨b8,o8,eb,hb8,⟨w0,w1⟩,q0,q1,q2⟩:=HPT.out.pn hB3 nj (by rw[HPL.out];omega);subst eb;have HDT:Hid (_):=zih (l:=PT) (a:=nm) (j:=j) (by rw[HPL.out,hnj];omega) (by rw[hnj]);generalize PT.getD nj Pn.none=q at *;obtain⟨x,y,on⟩:=q;dsimp only at w0 w1 q0 q1 q2;have hl13:((PT.drop nm).take j).length+1<=1000000:=(by rw[qL,qJ,HPL.out];omega);have g2:decide (nj<=ed)=true:=qC (by omega);have g3:decide (nj<cnt)=true:=qC (by omega);have j1:(0:Int)<=(nj:Int):=(by omega);have j2:(nj:Int)<(cnt:Int):=(by omega);have bp:=bl1 (w:=wr) (.cells #[.int .i64 x,.int .i64 y,.bool on] 65);have hVb:=hV.below bp;have zar:Gr PnE (fun k=>False/\(Value.slice a13 ((PT.drop nm).take j).length c13).ownBlock≠some k) (wr.alloc (.cells #[.int .i64 x,.int .i64 y,.bool on] 65)) (some ⟨wr.heap.size,0,none⟩) 1 [⟨x,y,on⟩]:=Gr.one_new (E:=PnE) (pnC ⟨x,y,on⟩) 65 (za0.2 ⟨rfl,w0,w1⟩);have hBb:=hBo.trans (bp.mono hBo.size);have hbs:=hBb.size;clear hnj bp zph z0x hB3 z2c;generalize (PT.drop nm).take j=K1 at *;go_wp2_with (at_builtin;refine zab 63 65 underlying63 zdo rfl (by decide) (by decide) rfl _ _ rfl wo.heap.size (fun _=>False) _ K1 rfl hVb (some ⟨wr.heap.size,0,none⟩) 1 1 [⟨x,y,on⟩] rfl rfl zar hl13 hbs ?_)
          intro v9 w9 hT9 hgrow _;have hB9:Below wo.heap.size wo w9:=hBb.grown hgrow hbs (fun k hk=>(hVb.lo hk).1);rw[<-HDT.out]at hT9;clear hgrow hVb zar hbs hl13 HDT hBb;go_wp2;go_roundw
          case rel=>exact⟨j+1,by have:=HNJ.out;omega,by rw[<-HNJ.out];go_num,hT9,hB9⟩
          case measure=>have:=HNJ.out;simp[intOf];omega
        . have HMX:Hid (nj=max nm lim):=by show _=_;omega
          have HJ:Hid (j=lim-nm):=(by show _=_;omega);have hg2:(decide (nj<=ed)=true/\decide (nj<cnt)=false)\/decide (nj<=ed)=false:=by
           by_cases h1:nj<=ed
           . exact .inl ⟨qC h1,qB (by omega)⟩
           . exact .inr (qB h1)
          have hcb:((PT.drop nm).take j).length<=140737488351232:=(by rw[qL,qJ,HPL.out];omega);rw[<-HJ.out]at HSN;generalize (PT.drop nm).take j=K1 at *;have bp:=bl1 (w:=wr) (.cells #[.slice a13 K1.length c13] 63);have hG1:=(HG.out.below hBo).below bp;have hG2:Gw PnE.row 63 u3.heap.size (fun b=>u3.heap.size<=b/\b<(wr.alloc (.cells #[.slice a13 K1.length c13] 63)).heap.size) (wr.alloc (.cells #[.slice a13 K1.length c13] 63)) (.slice a9 L.length c9) L:=hG1.widen (fun k h1 h2=>⟨h1.1,h2⟩);have hVb:=hV.below bp;have z2e:=zph.below bp;have zhy:PnE.row.rep (fun k=>(u3.heap.size<=k/\k<(wr.alloc (.cells #[.slice a13 K1.length c13] 63)).heap.size)/\(Value.slice a9 L.length c9).ownBlock≠some k) (wr.alloc (.cells #[.slice a13 K1.length c13] 63)) [.slice a13 K1.length c13] K1:=by
           refine⟨a13,c13,rfl,fun b o e hne=>?_,z2e.anyP,hcb⟩;have hbb:=z0x b o e;have hsz:=HB.out.size;have hsz2:=bp.size;refine⟨⟨by omega,by omega⟩,fun e2=>?_⟩;exact hG2.ne hVb (by decide) e2 (by rw[e];rfl)
          have hN:=Bk.new 63 wr [.slice a13 K1.length c13]
          have zar:=Gr.one (E:=PnE.row) zhy hN.lt (fun jj hjj=>by
           obtain rfl:jj=0:=by have h1:jj<1:=hjj;omega
           exact hN.cell 0 (by simp))
          have hBb:=(HB.out.trans (hBo.mono HB.out.size)).trans (bp.mono (qF HB.out.size hBo.size));have hbs:=hBb.size;have g4:((nj:Nat):Int)=((nj:Nat):Int):=rfl;have HNN:Hid (numK cnt E 0 (r+1)=nj):=(by show _=_;rw[zqd.out,<-HMX.out]);clear hnj HNJ zph z0x z2c hj hG1 hVb z2e zhy hN bp hV HJ HMX HG hgo g4;rcases hg2 with ⟨g2,g3⟩|g2
          . go_wp2_with (at_builtin;refine zab 37 63 underlying37 zju rfl Nat.one_pos (by decide) rfl _ _ rfl u3.heap.size _ _ L rfl hG2 (some ⟨wr.heap.size,0,none⟩) 1 1 [K1] rfl rfl zar hll hbs ?_)
            intro v9 w9 hT9 hgrow _;have hB9:Below u3.heap.size u3 w9:=hBb.grown hgrow hbs (fun k hk=>(hG2.lo hk).1);have hT9:=hT9.widen (S':=fun b=>u3.heap.size<=b/\b<w9.heap.size) (fun k h1 h2=>⟨h1.1,h2⟩);rw[<-HSN.out]at hT9;clear hgrow hG2 zar hbs hll HSN hBb;go_wp2;go_roundw
            case rel=>exact⟨r+1,by omega,by go_num,by rw[HNN.out],hT9,hB9⟩
            case measure=>simp[intOf];omega
          . go_wp2_with (at_builtin;refine zab 37 63 underlying37 zju rfl Nat.one_pos (by decide) rfl _ _ rfl u3.heap.size _ _ L rfl hG2 (some ⟨wr.heap.size,0,none⟩) 1 1 [K1] rfl rfl zar hll hbs ?_)
            intro v9 w9 hT9 hgrow _;have hB9:Below u3.heap.size u3 w9:=hBb.grown hgrow hbs (fun k hk=>(hG2.lo hk).1);have hT9:=hT9.widen (S':=fun b=>u3.heap.size<=b/\b<w9.heap.size) (fun k h1 h2=>⟨h1.1,h2⟩);rw[<-HSN.out]at hT9;clear hgrow hG2 zar hbs hll HSN hBb;go_wp2;go_roundw
            case rel=>exact⟨r+1,by omega,by go_num,by rw[HNN.out],hT9,hB9⟩
            case measure=>simp[intOf];omega
     . obtain rfl:r=k:=by omega
       have g2:¬(r:Int)<(r:Int):=(by omega);rw[List.take_of_length_le (by rw[HCL.out];exact qE _)]at zw0 ⊢;rw[<-HCO.out]at zw0 ⊢;have HGR:Hid (Gr PnE.row (fun b=>w.heap.size<=b) wr a9 c9 C):=zw0.wide (fun k h1 _=>qF HSZ.out h1.1);have HB9:Hid (∀b o,a9=some ⟨b,o,none⟩->w.heap.size<=b):=fun b o e=>qF HSZ.out (hb9 b o e).1;have HKF:Hid (Kp g w wr):=HKK.out.trans (Kp.of hB);clear hG zw0 hb9;go_wp2;go_ret;exact⟨a9,c9,rfl,HGR.out,HB9.out,HKF.out⟩
theorem znv(s:LN)(k:Nat):psR s (k+1)=psR s k++[paR (s.drop (6*k))]:=by unfold psR;rw[List.range_succ,List.map_append];rfl
theorem zru(s:LN)(k:Nat):(psR s k).length=k:=by unfold psR;rw[qK,List.length_range]
theorem Gw.neBk{α:Type}{E:El α}{t u:TypeId}{base g:Nat}{S:Nat->Prop}{w:World}{v:Value}{l:List α}{cs:LV}(h:Gw E t base S w v l)(hb:Bk u w g cs)(ht:u≠t):v.ownBlock≠some g:=by
 intro e;obtain⟨cur,k1⟩:=h.ty e;rw[hb]at k1;simp at k1;exact ht k1.2
theorem zfd{v:Nat}(h:v<65536):-32768<=sx16 v/\sx16 v<=32767:=by unfold sx16;split <;> omega
theorem zlf(g:Nat)(pa:OA)(pc:Nat)(xs:LN)(p m:Nat)(w:World)(h:Sc 200 w g pa pc xs p)(hp:p<=1000)(hm:min (hd2 (xs.drop p)) 6=m)(hpb:∀b o,pa=some ⟨b,o,none⟩->xs≠[]->b<w.heap.size) :
 Calls Tryz.prog 192 #[pg g] w fun e w'=>∃a' c',e=.returned (.slice a' (psR (xs.drop (p+2)) m).length c')/\Gr PaE (fun _=>False) w' a' c' (psR (xs.drop (p+2)) m)/\(∀b o,a'=some ⟨b,o,none⟩->w.heap.size<=b)/\Kp g w w':=by
 have hu:=zh9 g pa pc xs p w h (by omega);have hlt:=zdf (h.rb.lim.drop p);have HPB:Hid (∀b o,pa=some ⟨b,o,none⟩->xs≠[]->b<w.heap.size):=hpb;generalize hd2 (xs.drop p)=z at *;have hmz:min (z:Int) 6=(m:Int):=by omega
 have hm6:m<=6:=by omega
 clear h hm hpb;go_enter func192,ntmps192;go_wp2_with fail
 refine hu.mono ?_;rintro e u1 ⟨rfl,hS0,hK0⟩;have HS0:Hid (Sc 200 u1 g pa pc xs (p+2)):=hS0;have HK0:Hid (Kp g w u1):=hK0;clear hu hS0 hK0;go_wp2;clear hmz
 go_loopw [3,10] (fun v i wr=>∃k:Nat,k<=m/\i=.int .i64 k/\Gw PaE 54 w.heap.size (fun _=>False) wr v (psR (xs.drop (p+2)) k)/\Sc 200 wr g pa pc xs (p+2+6*k)/\Kp g w wr) (fun _ i _=>m-(intOf i).toNat)
 case atStart=>exact⟨0,qD _,rfl,Gw.nil _ _ _ _ _,HS0.out,HK0.out⟩
 case round =>
  clear HS0 HK0;obtain⟨k,hk,rfl,hG,hS,hK⟩:=hrel;obtain⟨a3,c3,rfl,hgr,hbk⟩:=hG.slice;by_cases hkm:k<m
  . have g1:(k:Int)<(m:Int):=by omega
    have HPS:Hid (psR (xs.drop (p+2)) (k+1)=psR (xs.drop (p+2)) k++[⟨(hd2 (xs.drop (p+2+6*k)):Int),sx16 (hd2 (xs.drop (p+2+6*k+2))),sx16 (hd2 (xs.drop (p+2+6*k+2+2)))⟩]):=by
     show _=_;rw[znv,List.drop_drop];unfold paR;rw[List.drop_drop,List.drop_drop]
    have hll:(psR (xs.drop (p+2)) k).length+1<=1000000:=(by rw[zru];omega);have hy1:=zdf (hS.rb.lim.drop (p+2+6*k));have hy2:=zfd (zdf (hS.rb.lim.drop (p+2+6*k+2)));have hy3:=zfd (zdf (hS.rb.lim.drop (p+2+6*k+2+2)));have hu1:=zh9 g pa pc xs (p+2+6*k) wr hS (by omega);obtain⟨gl,hgl⟩:∃z,hd2 (xs.drop (p+2+6*k))=z:=⟨_,rfl⟩;rw[hgl]at hu1 HPS hy1;clear hgl hgr hbk;generalize psR (xs.drop (p+2)) k=L at *;go_wp2_with fail
    refine hu1.mono ?_;rintro e v1 ⟨rfl,hS1,hK1⟩;have hG1:=hG.kp hS.bk (by decide) hK1;have hKa:=hK.trans hK1;clear hu1 hS hK hK1 hG;have hu2:=zdu g pa pc xs (p+2+6*k+2) v1 hS1 (by omega);obtain⟨dx,hdx⟩:∃z,sx16 (hd2 (xs.drop (p+2+6*k+2)))=z:=⟨_,rfl⟩;rw[hdx]at hu2 HPS hy2;clear hdx;go_wp2_with fail
    refine hu2.mono ?_;rintro e v2 ⟨rfl,hS2,hK2⟩;have hG2:=hG1.kp hS1.bk (by decide) hK2;replace hKa:=hKa.trans hK2;clear hu2 hS1 hK2 hG1;have hu3:=zdu g pa pc xs (p+2+6*k+2+2) v2 hS2 (by omega);obtain⟨dy,hdy⟩:∃z,sx16 (hd2 (xs.drop (p+2+6*k+2+2)))=z:=⟨_,rfl⟩;rw[hdy]at hu3 HPS hy3;clear hdy;go_wp2_with fail
    refine hu3.mono ?_;rintro e v3 ⟨rfl,hS3,hK3⟩;have hG3:=hG2.kp hS2.bk (by decide) hK3;replace hKa:=hKa.trans hK3;clear hu3 hS2 hK3 hG2;have hI1:I64 (gl:Int):=⟨by omega,by omega⟩;have hI2:I64 dx:=⟨by omega,by omega⟩;have hI3:I64 dy:=⟨by omega,by omega⟩;have bp:=bl1 (w:=v3) (.cells #[.int .i64 (gl:Int),.int .i64 dx,.int .i64 dy] 54);have hGb:=hG3.below bp;have hSb:=hS3.below bp;have zar:Gr PaE (fun k=>False/\(Value.slice a3 L.length c3).ownBlock≠some k) (v3.alloc (.cells #[.int .i64 (gl:Int),.int .i64 dx,.int .i64 dy] 54)) (some ⟨v3.heap.size,0,none⟩) 1 [⟨(gl:Int),dx,dy⟩]:=Gr.one_new (E:=PaE) (paC ⟨(gl:Int),dx,dy⟩) 54 (zce.2 ⟨rfl,hI1,hI2,hI3⟩);have hKb:Kp g w (v3.alloc (.cells #[.int .i64 (gl:Int),.int .i64 dx,.int .i64 dy] 54)):=hKa.alloc _;have hbs:=hKb.size;have hvg:=hGb.neBk hSb.bk (by decide);clear bp hG3 hS3 hKa;go_wp2_with (at_builtin;refine zab 55 54 underlying55 zse rfl (by decide) (by decide) rfl _ _ rfl w.heap.size (fun _=>False) _ L rfl hGb (some ⟨v3.heap.size,0,none⟩) 1 1 [⟨(gl:Int),dx,dy⟩] rfl rfl zar hll hbs ?_)
    intro v9 w9 hT9 hgrow _
    have hS9:=hSb.grown hgrow hvg (fun b o e hne e2=>by
     have:=(hGb.lo e2).1;have:=HPB.out b o e hne
     omega)
    have hK9:Kp g w w9:=hKb.grown hgrow (fun k hk=>(hGb.lo hk).1);rw[<-HPS.out]at hT9;clear hgrow hGb hSb zar hKb hbs hvg hll HPS;go_wp2;go_roundw
    case rel=>exact⟨k+1,by omega,by go_num,hT9,by rw[show p+2+6*(k+1)=p+2+6*k+2+2+2 by omega];exact hS9,hK9⟩
    case measure=>simp[intOf];omega
  . obtain rfl:k=m:=by omega
    have g1:¬(k:Int)<(k:Int):=(by omega);have HB3:Hid (∀b o,a3=some ⟨b,o,none⟩->w.heap.size<=b):=fun b o e=>(hbk b o e).1;clear hG hbk hS;go_wp2;go_ret;exact⟨a3,c3,rfl,hgr,HB3.out,hK⟩
theorem Bk.set2{t:TypeId}{w:World}{g:Nat}{x y:Value}(h:Bk t w g [x,y])(x' y':Value):Bk t ((w.setCell ⟨g,0,none⟩ x').setCell ⟨g,1,none⟩ y') g [x',y']:=(h.set 0 x').set 1 y'
theorem zau{w:World}{g b:Nat}(x' y':Value)(hb:b≠g):((w.setCell ⟨g,0,none⟩ x').setCell ⟨g,1,none⟩ y').heap[b]?=w.heap[b]?:=by
 rw[Below.heap_setCell _ _ _ _ (fun e=>hb e),Below.heap_setCell _ _ _ _ (fun e=>hb e)]
theorem zb8{w:World}{g:Nat}(x' y':Value):((w.setCell ⟨g,0,none⟩ x').setCell ⟨g,1,none⟩ y').heap.size=w.heap.size:=by simp[World.setCell]
theorem zij(g:Nat)(pa:OA)(pc:Nat)(xs:LN)(w:World)(h:Sc 200 w g pa pc xs 0)(hpb:∀b o,pa=some ⟨b,o,none⟩->xs≠[]->b<w.heap.size) :
 Calls Tryz.prog 145 #[pg g] w fun e w'=>∃a ca b cb,e=.returned (.agg #[.slice a (candK xs).cs.length ca,.slice b (candK xs).ps.length cb])/\Gr PnE.row (fun k=>w.heap.size<k) w' a ca (candK xs).cs/\Gr PaE (fun _=>False) w' b cb (candK xs).ps/\(∀c o,a=some ⟨c,o,none⟩->w.heap.size<c)/\(∀c o,b=some ⟨c,o,none⟩->w.heap.size<c)/\Kp g w w':=by
 obtain⟨W,hW,X1,hbW⟩:∃W,W=w.alloc (.cells #[.slice none 0 0,.slice none 0 0] 57)/\Bk 57 W w.heap.size [.slice none 0 0,.slice none 0 0]/\Below w.heap.size w W:=⟨_,rfl,Bk.new _ _ _,bl1 _⟩;have hWs:W.heap.size=w.heap.size+1:=by rw[hW];simp
 have hgl:g<w.heap.size:=h.bk.lt;replace h:=h.below hbW;have hKW:Kp g w W:=Kp.of hbW;have hu:=zdu g pa pc xs 0 W h (by omega);have hn:=zfd (zdf (h.rb.lim.drop 0));rw[List.drop_zero]at hu hn;have HCK:Hid (candK xs=if sx16 (hd2 xs)=-1 then ⟨[],psR ((xs.drop 2).drop 2) (min (hd2 (xs.drop 2)) 6)⟩else ⟨conK (min (sx16 (hd2 xs)) 10).toNat (xs.drop 2),[]⟩):=rfl;obtain⟨n,hn0⟩:∃n,sx16 (hd2 xs)=n:=⟨_,rfl⟩;rw[hn0]at hu hn HCK;clear hn0 h;go_enter func145,ntmps145;go_wp2_with fail
 rw[<-hW];clear hW;refine hu.mono ?_;rintro e u1 ⟨rfl,hS,hK1⟩;have hK:=hKW.trans hK1;replace X1:=X1.kp hK1 (by omega);have hsz:=hK1.size;clear hu hK1 hKW hbW;have HPB:Hid (∀b o,pa=some ⟨b,o,none⟩->xs≠[]->b<u1.heap.size):=fun b o e hne=>qN (hpb b o e hne) hK.size;by_cases h1:n=-1
 . have HC:Hid (candK xs=⟨[],psR ((xs.drop 2).drop 2) (min (hd2 (xs.drop 2)) 6)⟩):=by show _=_;rw[HCK.out,if_pos h1]
   have g1:(n == -1)=true:=(by simp[h1]);have hpo:=zlf g pa pc xs 2 (min (hd2 (xs.drop 2)) 6) u1 hS (by omega) rfl HPB.out;rw[show 2+2=4 from rfl]at hpo;rw[List.drop_drop,show 2+2=4 from rfl]at HC;generalize psR (xs.drop 4) (min (hd2 (xs.drop 2)) 6)=P at *;clear h1 HCK hpb;go_wp2_with fail
   refine hpo.mono ?_;rintro e u2 ⟨a2,c2,rfl,hgr,hbk,hK2⟩;replace X1:=X1.kp hK2 (by omega);replace hK:=hK.trans hK2;clear hpo hS;obtain⟨U,hU⟩:∃U,U=(u2.setCell ⟨w.heap.size,0,none⟩ (.slice none 0 0)).setCell ⟨w.heap.size,1,none⟩ (.slice a2 P.length c2):=⟨_,rfl⟩;have A:=X1.set2 (.slice none 0 0) (.slice a2 P.length c2);have hKU:=(hK.other (b:=w.heap.size) 0 (.slice none 0 0) (qE _)).other (b:=w.heap.size) 1 (.slice a2 P.length c2) (qE _);have hgU:Gr PaE (fun _=>False) ((u2.setCell ⟨w.heap.size,0,none⟩ (.slice none 0 0)).setCell ⟨w.heap.size,1,none⟩ (.slice a2 P.length c2)) a2 c2 P:=hgr.stay (by rw[zb8];exact qE _) (fun k hk=>hk.elim) (fun b o e _ _=>zau _ _ (by have:=hbk b o e;omega));rw[<-hU]at A hKU hgU;obtain⟨x0,x1,f0,f1⟩:=X1.two;have HBK:Hid (∀c o,a2=some ⟨c,o,none⟩->w.heap.size<c):=fun c o e=>by have:=hbk c o e;omega
   clear hK hgr hbk hK2;go_wp2;rw[<-hU];clear hU
   (try simp only[Exit.inBlock,Exit.then])
   refine bodyPost_ret (v:=.agg #[.slice none 0 0,.slice a2 P.length c2]) (by obtain⟨r0,r1,_⟩:=A.two;simp[results,results145,go_sem,r0,r1]) rfl ⟨none,0,a2,c2,by rw[HC.out];rfl,by rw[HC.out];exact Gr.nil _ _ _ _ _ (qD _) (fun _=>rfl),by rw[HC.out];exact hgU,(fun c o e=>by cases e),HBK.out,hKU⟩
 . have HC:Hid (candK xs=⟨conK (min n 10).toNat (xs.drop 2),[]⟩):=by show _=_;rw[HCK.out,if_neg h1]
   have g1:(n == -1)=false:=(by simp[h1]);have hco:=zh7 n (min n 10).toNat g pa pc xs 2 u1 hS (by omega) rfl HPB.out ⟨by omega,by omega⟩;generalize conK (min n 10).toNat (xs.drop 2)=C at *;clear h1 HCK hpb;go_wp2_with fail
   refine hco.mono ?_;rintro e u2 ⟨a2,c2,rfl,hgr,hbk,hK2⟩;replace X1:=X1.kp hK2 (by omega);replace hK:=hK.trans hK2;clear hco hS;obtain⟨U,hU⟩:∃U,U=(u2.setCell ⟨w.heap.size,0,none⟩ (.slice a2 C.length c2)).setCell ⟨w.heap.size,1,none⟩ (.slice none 0 0):=⟨_,rfl⟩;have A:=X1.set2 (.slice a2 C.length c2) (.slice none 0 0);have hKU:=(hK.other (b:=w.heap.size) 0 (.slice a2 C.length c2) (qE _)).other (b:=w.heap.size) 1 (.slice none 0 0) (qE _);have hgU:Gr PnE.row (fun k=>w.heap.size<k) ((u2.setCell ⟨w.heap.size,0,none⟩ (.slice a2 C.length c2)).setCell ⟨w.heap.size,1,none⟩ (.slice none 0 0)) a2 c2 C:=hgr.stay (by rw[zb8];exact qE _) (fun k hk _=>⟨by omega,zau _ _ (by omega)⟩) (fun b o e _ _=>zau _ _ (by have:=hbk b o e;omega));rw[<-hU]at A hKU hgU;obtain⟨x0,x1,f0,f1⟩:=X1.two;have HBK:Hid (∀c o,a2=some ⟨c,o,none⟩->w.heap.size<c):=fun c o e=>by have:=hbk c o e;omega
   clear hK hgr hbk hK2;go_wp2;rw[<-hU];clear hU
   (try simp only[Exit.inBlock,Exit.then])
   refine bodyPost_ret (v:=.agg #[.slice a2 C.length c2,.slice none 0 0]) (by obtain⟨r0,r1,_⟩:=A.two;simp[results,results145,go_sem,r0,r1]) rfl ⟨a2,c2,none,0,by rw[HC.out];rfl,by rw[HC.out];exact hgU,by rw[HC.out];exact Gr.nil _ _ _ _ _ (qD _) (fun _=>rfl),HBK.out,(fun c o e=>by cases e),hKU⟩
theorem rdO_K(b:LN):rdOE b=(if (decide (wrOE (candK b)=0)&&decide (wrOB (candK b)=b))=true then 0 else 2)/\rdOL b=(if (decide (wrOE (candK b)=0)&&decide (wrOB (candK b)=b))=true then candK b else Ol.none):=by
 obtain⟨h1,h2⟩:=zwf b;rw[h1];unfold rdOE rdOL;cases h:rdOk b with
 | false=>exact⟨rfl,rfl⟩
 | true=>exact⟨rfl,by rw[h2 h]⟩
theorem zmj(pa:OA)(pc:Nat)(xs:LN)(w:World)(h:Rb w pa pc xs) :
 Calls Tryz.prog 87 #[.slice pa xs.length pc] w fun e w'=>∃a ca b cb,e=.returned (.tuple #[.agg #[.slice a (rdOL xs).cs.length ca,.slice b (rdOL xs).ps.length cb],.int .i64 (rdOE xs)])/\Gr PnE.row (fun k=>w.heap.size<=k) w' a ca (rdOL xs).cs/\Gr PaE (fun k=>w.heap.size<=k) w' b cb (rdOL xs).ps/\((∀c o,a=some ⟨c,o,none⟩->w.heap.size<=c)/\∀c o,b=some ⟨c,o,none⟩->w.heap.size<=c)/\Below w.heap.size w w':=by
 have hle:=h.le;have hcm:=h.cap;unfold maxLen at hcm;have HB:Hid (∀b o,pa=some ⟨b,o,none⟩->xs≠[]->b<w.heap.size):=fun b o e hne=>by
  rcases h.2.2.2.2 with h0|⟨b',o',e',hb',_⟩
  . exact absurd h0 hne
  . rw[e]at e'
    cases e';exact hb'
 obtain⟨W,hW,X1,X2,hbW⟩:∃W,W=(w.alloc (.cells #[.slice none 0 0,.slice none 0 0] 57)).alloc (.cells #[.slice pa xs.length pc,.int .i64 0] 200)/\Bk 57 W w.heap.size [.slice none 0 0,.slice none 0 0]/\Bk 200 W (w.heap.size+1) [.slice pa xs.length pc,.int .i64 0]/\Below w.heap.size w W:=⟨_,rfl,(Bk.new _ _ _).below (bl1 _),Bk.new1 _ _ _ _,bl2 _ _⟩;have hWs:W.heap.size=w.heap.size+2:=by rw[hW];simp
 have hrb:=h.below hbW;have hS:Sc 200 W (w.heap.size+1) pa pc xs 0:=⟨X2,hrb,fun b o e hne=>by have:=HB.out b o e hne;omega⟩;have hou:=zij (w.heap.size+1) pa pc xs W hS (fun b o e hne=>qN (HB.out b o e hne) hbW.size);have HRE:Hid (_):=(rdO_K xs).1;have HRL:Hid (_):=(rdO_K xs).2;generalize rdOE xs=re at *;generalize rdOL xs=rl at *;generalize candK xs=o at *;have HRB:Hid (Rb w pa pc xs):=h;have HWS:Hid (W.heap.size=w.heap.size+2):=hWs;clear h hrb hS X2 hWs;go_enter func87,ntmps87;go_wp2_with fail
 rw[<-hW];clear hW;refine hou.mono ?_;rintro e u1 ⟨a1,c1,b1,d1,rfl,hgc,hgp,hba,hbb,hKp⟩;have hWs:=HWS.out;have hB1:Below w.heap.size w u1:=hbW.trans (hKp.below (by omega) (by omega));replace X1:=X1.kp hKp (by omega);have HBA:Hid (∀c o,a1=some ⟨c,o,none⟩->w.heap.size<c):=fun c o e=>by have:=hba c o e;omega
 have HBB:Hid (∀c o,b1=some ⟨c,o,none⟩->w.heap.size<c):=fun c o e=>by have:=hbb c o e;omega
 clear hou;obtain⟨V,hV,Y1,hbV⟩:∃V,V=u1.alloc (.cells #[.slice a1 o.cs.length c1,.slice b1 o.ps.length d1] 57)/\Bk 57 V u1.heap.size [.slice a1 o.cs.length c1,.slice b1 o.ps.length d1]/\Below u1.heap.size u1 V:=⟨_,rfl,Bk.new _ _ _,bl1 _⟩;have hgl:w.heap.size<u1.heap.size:=X1.lt;replace X1:=X1.below hbV;replace hgc:=(hgc.below hbV).wide (S':=fun k=>w.heap.size<k) (fun k h1 _=>by omega);replace hgp:=hgp.below hbV;replace hB1:Below w.heap.size w V:=hB1.trans (hbV.mono hB1.size);have hwr:=zmg _ a1 c1 b1 d1 o V hgc hgp.anyA;have kc:=hgc.lenB;have kp:=hgp.lenB;clear hbV hKp hbW hba hbb hWs;go_wp2_with fail
 rw[<-hV];clear hV;refine hwr.mono ?_;rintro e u2 ⟨a2,c2,rfl,hr2,hb2⟩;replace X1:=X1.below hb2;replace Y1:=Y1.below hb2;replace hgc:=hgc.below hb2;replace hgp:=hgp.below hb2;replace hB1:Below w.heap.size w u2:=hB1.trans (hb2.mono hB1.size);clear hwr hb2;have heq:=zld a2 pa c2 pc (wrOB o) xs u2 hr2 (HRB.out.below hB1);obtain⟨x0,x1,f0,f1⟩:=X1.two;have hba:=HBA.out;have hbb:=HBB.out;have hOK:wrOE o=0\/wrOE o≠0:=by omega
 rcases hOK with h0|h0;rotate_left
 . have HE:Hid (re=2/\rl=Ol.none):=by rw[qB h0,Bool.false_and]at HRE HRL;exact⟨HRE.out,HRL.out⟩
   have g1:(wrOE o != 0)=true:=bne_iff_ne.2 h0;clear h0 heq HRE HRL;generalize wrOB o=ob at *;generalize wrOE o=oe at *;obtain⟨U,hU⟩:∃U,U=(u2.setCell ⟨w.heap.size,0,none⟩ (.slice none 0 0)).setCell ⟨w.heap.size,1,none⟩ (.slice none 0 0):=⟨_,rfl⟩;have A:=X1.set2 (.slice none 0 0) (.slice none 0 0);have hbU:Below w.heap.size w ((u2.setCell ⟨w.heap.size,0,none⟩ (.slice none 0 0)).setCell ⟨w.heap.size,1,none⟩ (.slice none 0 0)):=(hB1.setCell (p:=⟨w.heap.size,0,none⟩) (qE _) _).setCell (p:=⟨w.heap.size,1,none⟩) (qE _) _;rw[<-hU]at A hbU;clear hgc hgp hba hbb hB1;go_wp2;rw[<-hU];clear hU
   (try simp only[Exit.inBlock,Exit.then])
   refine bodyPost_ret (v:=.tuple #[.agg #[.slice none 0 0,.slice none 0 0],.int .i64 2]) (by obtain⟨r0,r1,_⟩:=A.two;simp[results,results87,go_sem,r0,r1]) rfl ⟨none,0,none,0,by rw[HE.out.1,HE.out.2];rfl,by rw[HE.out.2];exact Gr.nil _ _ _ _ _ (qD _) (fun _=>rfl),by rw[HE.out.2];exact Gr.nil _ _ _ _ _ (qD _) (fun _=>rfl),⟨(fun c o e=>by cases e),(fun c o e=>by cases e)⟩,hbU⟩
 have g1:(wrOE o != 0)=false:=by rw[h0];rfl
 by_cases h1:wrOB o=xs;rotate_left
 . have HE:Hid (re=2/\rl=Ol.none):=by rw[qB h1,Bool.and_false]at HRE HRL;exact⟨HRE.out,HRL.out⟩
   rw[qB h1]at heq;clear h0 h1 HRE HRL;generalize wrOB o=ob at *;generalize wrOE o=oe at *;go_wp2_with fail
   refine heq.mono ?_;rintro e v ⟨rfl,rfl⟩;clear heq;obtain⟨U,hU⟩:∃U,U=(u2.setCell ⟨w.heap.size,0,none⟩ (.slice none 0 0)).setCell ⟨w.heap.size,1,none⟩ (.slice none 0 0):=⟨_,rfl⟩;have A:=X1.set2 (.slice none 0 0) (.slice none 0 0);have hbU:Below w.heap.size w ((u2.setCell ⟨w.heap.size,0,none⟩ (.slice none 0 0)).setCell ⟨w.heap.size,1,none⟩ (.slice none 0 0)):=(hB1.setCell (p:=⟨w.heap.size,0,none⟩) (qE _) _).setCell (p:=⟨w.heap.size,1,none⟩) (qE _) _;rw[<-hU]at A hbU;clear hgc hgp hba hbb hB1;go_wp2;rw[<-hU];clear hU
   (try simp only[Exit.inBlock,Exit.then])
   refine bodyPost_ret (v:=.tuple #[.agg #[.slice none 0 0,.slice none 0 0],.int .i64 2]) (by obtain⟨r0,r1,_⟩:=A.two;simp[results,results87,go_sem,r0,r1]) rfl ⟨none,0,none,0,by rw[HE.out.1,HE.out.2];rfl,by rw[HE.out.2];exact Gr.nil _ _ _ _ _ (qD _) (fun _=>rfl),by rw[HE.out.2];exact Gr.nil _ _ _ _ _ (qD _) (fun _=>rfl),⟨(fun c o e=>by cases e),(fun c o e=>by cases e)⟩,hbU⟩
 have HE:Hid (re=0/\rl=o):=by rw[qC h0,qC h1,Bool.and_self]at HRE HRL;exact⟨HRE.out,HRL.out⟩
 rw[qC h1]at heq;clear h0 h1 HRE HRL;generalize wrOB o=ob at *;generalize wrOE o=oe at *;go_wp2_with fail
 refine heq.mono ?_;rintro e v ⟨rfl,rfl⟩;clear heq;obtain⟨y0,y1,_⟩:=Y1.two;obtain⟨U,hU⟩:∃U,U=(u2.setCell ⟨w.heap.size,0,none⟩ (.slice a1 o.cs.length c1)).setCell ⟨w.heap.size,1,none⟩ (.slice b1 o.ps.length d1):=⟨_,rfl⟩;have A:=X1.set2 (.slice a1 o.cs.length c1) (.slice b1 o.ps.length d1);have hbU:Below w.heap.size w ((u2.setCell ⟨w.heap.size,0,none⟩ (.slice a1 o.cs.length c1)).setCell ⟨w.heap.size,1,none⟩ (.slice b1 o.ps.length d1)):=(hB1.setCell (p:=⟨w.heap.size,0,none⟩) (qE _) _).setCell (p:=⟨w.heap.size,1,none⟩) (qE _) _;have z2j:Gr PnE.row (fun k=>w.heap.size<=k) ((u2.setCell ⟨w.heap.size,0,none⟩ (.slice a1 o.cs.length c1)).setCell ⟨w.heap.size,1,none⟩ (.slice b1 o.ps.length d1)) a1 c1 o.cs:=hgc.stay (by rw[zb8];exact qE _) (fun k hk _=>⟨by omega,zau _ _ (by omega)⟩) (fun b o e _ _=>zau _ _ (by have:=hba b o e;omega));have z2f:Gr PaE (fun k=>w.heap.size<=k) ((u2.setCell ⟨w.heap.size,0,none⟩ (.slice a1 o.cs.length c1)).setCell ⟨w.heap.size,1,none⟩ (.slice b1 o.ps.length d1)) b1 d1 o.ps:=hgp.stay (by rw[zb8];exact qE _) (fun k hk=>hk.elim) (fun b o e _ _=>zau _ _ (by have:=hbb b o e;omega));have hloc:(∀c o,a1=some ⟨c,o,none⟩->w.heap.size<=c)/\∀c o,b1=some ⟨c,o,none⟩->w.heap.size<=c:=⟨fun c o e=>by have:=hba c o e;omega,fun c o e=>by have:=hbb c o e;omega⟩;rw[<-hU]at A hbU z2j z2f;clear hgc hgp hba hbb hB1;go_wp2;rw[<-hU];clear hU
 (try simp only[Exit.inBlock,Exit.then])
 refine bodyPost_ret (v:=.tuple #[.agg #[.slice a1 o.cs.length c1,.slice b1 o.ps.length d1],.int .i64 0]) (by obtain⟨r0,r1,_⟩:=A.two;simp[results,results87,go_sem,r0,r1]) rfl ⟨a1,c1,b1,d1,by rw[HE.out.1,HE.out.2],by rw[HE.out.2];exact z2j,by rw[HE.out.2];exact z2f,hloc,hbU⟩
abbrev S6 (w:World) (g:Nat) (v0 v1 v2 v3 v4 v5:Value):World:=(((((w.setCell ⟨g,0,none⟩ v0).setCell ⟨g,1,none⟩ v1).setCell ⟨g,2,none⟩ v2).setCell ⟨g,3,none⟩ v3).setCell ⟨g,4,none⟩ v4).setCell ⟨g,5,none⟩ v5
theorem Bk.set6{t:TypeId}{w:World}{g:Nat}{x0 x1 x2 x3 x4 x5:Value}(h:Bk t w g [x0,x1,x2,x3,x4,x5])(y0 y1 y2 y3 y4 y5:Value):Bk t (S6 w g y0 y1 y2 y3 y4 y5) g [y0,y1,y2,y3,y4,y5]:=(((((h.set 0 y0).set 1 y1).set 2 y2).set 3 y3).set 4 y4).set 5 y5
theorem Kp.new6{g b:Nat}{a w:World}(h:Kp g a w)(hb:a.heap.size<=b)(y0 y1 y2 y3 y4 y5:Value):Kp g a (S6 w b y0 y1 y2 y3 y4 y5):=(((((h.new hb 0 y0).new hb 1 y1).new hb 2 y2).new hb 3 y3).new hb 4 y4).new hb 5 y5
theorem Bk.other6{t:TypeId}{w:World}{g b:Nat}{cs:LV}(h:Bk t w g cs)(hb:g≠b)(y0 y1 y2 y3 y4 y5:Value):Bk t (S6 w b y0 y1 y2 y3 y4 y5) g cs:=(((((h.other 0 y0 hb).other 1 y1 hb).other 2 y2 hb).other 3 y3 hb).other 4 y4 hb).other 5 y5 hb
theorem K3.set6{n b:Nat}(w:World)(hb:b<n)(y0 y1 y2 y3 y4 y5:Value):K3 n w (S6 w b y0 y1 y2 y3 y4 y5):=(((((K3.set w hb 0 y0).trans (K3.set _ hb 1 y1)).trans (K3.set _ hb 2 y2)).trans (K3.set _ hb 3 y3)).trans (K3.set _ hb 4 y4)).trans (K3.set _ hb 5 y5)
theorem zrf{X:LN}(h:rdOE X=0):foB (rdOL X)=true:=by
 have h2:=(zgh h).1;rcases zim (rdOL X)with h1|h1|h1
 . exact h1.2
 . rw[h1.1]at h2;exact absurd h2 (by decide)
 . rw[h1.1]at h2;exact absurd h2 (by decide)
theorem zys:¬rdOE []=0:=fun h=>by
 obtain⟨h1,h2⟩:=zgh h;have:=zt7 h1;rw[h2]at this;exact absurd this (by decide)
theorem zyr{o:Ol}{ax:Int}:¬rdTE [] o ax=0:=fun h=>by
 have h2:=congrArg List.length (zge h).2;unfold tuBt at h2;rw[qA]at h2;have:∀z,(be2 z).length=2:=fun _=>rfl;rw[this]at h2;simp at h2
theorem zxc(xs:LN)(p:Nat):gOb xs p=cutV xs ((p:Int)+4) (nmV xs (p:Int) 4:Int):=by
 unfold gOb g1;rw[show((p+4:Nat):Int)=(p:Int)+4 by omega]
theorem zxa(xs:LN)(p:Nat):gTb xs p=cutV xs ((g2 xs p:Int)+4) (nmV xs (g2 xs p:Int) 4:Int):=by
 unfold gTb g3;rw[show((g2 xs p+4:Nat):Int)=(g2 xs p:Int)+4 by omega]
theorem zxk{xs:LN}{p:Nat}(h:cutV xs ((p:Int)+4) (nmV xs (p:Int) 4:Int)≠[]):blkP xs p=p+4+nmV xs (p:Int) 4/\p+4+nmV xs (p:Int) 4<=xs.length:=by
 cases hi:inB xs.length ((p:Int)+4) (nmV xs (p:Int) 4:Int) with
 | false=>rw[zh4 hi]at h;exact absurd rfl h
 | true =>
  unfold blkP;rw[if_pos hi];unfold inB at hi;have:=of_decide_eq_true hi;exact⟨rfl,by omega⟩
theorem blk_o{xs:LN}{p:Nat}(h:rdOE (gOb xs p)=0):blkP xs p=g2 xs p/\g2 xs p<=xs.length:=by
 rw[zxc]at h;exact zxk (fun e=>by rw[e]at h;exact zys h)
theorem blk_t{xs:LN}{p:Nat}{o:Ol}{ax:Int}(h:rdTE (gTb xs p) o ax=0):blkP xs (g2 xs p)=g4 xs p/\g4 xs p<=xs.length:=by
 rw[zxa]at h;exact zxk (fun e=>by rw[e]at h;exact zyr h)
def GlBad(xs:LN)(ax:Int)(p:Nat):Prop:=rdGl xs ax p=none\/∃x q,rdGl xs ax p=some (x,q)/\¬nmV xs ((g4 xs p+4:Nat):Int) 1<=1
structure GlN(e:Ending):Prop where
 out:∃a0 n0 c0 a1 n1 c1 a2 n2 c2 z0 z1 bb,e=.returned (.tuple #[.agg #[.slice a0 n0 c0,.slice a1 n1 c1,.slice a2 n2 c2,.int .i64 z0,.int .i64 z1,.bool bb],.bool false])
structure GlY(n:Nat)(sb:Nat)(a:OA)(cap:Nat)(xs:LN)(p:Nat)(ax:Int)(e:Ending)(w':World):Prop where
 out:∃xa xc qa qc ta tc x q,e=.returned (.tuple #[.agg #[.slice xa x.o.cs.length xc,.slice qa x.o.ps.length qc,.slice ta x.ts.length tc,.int .i64 x.ab,.int .i64 x.ar,.bool x.mr],.bool true])/\GlC (fun k=>n<=k) w' xa xc qa qc ta tc x/\Sc 101 w' sb a cap xs q/\Hid (rdGl xs ax p=some (x,q))/\Hid (nmV xs ((g4 xs p+4:Nat):Int) 1<=1)
theorem zvo(sb:Nat)(a:OA)(cap:Nat)(xs:LN)(p:Nat)(ax:Int)(w:World)(hS:Sc 101 w sb a cap xs p)(hl:xs.length<=1048576)(hp:p<=1100000)(hi:I64 ax)(hTb:(gTb xs p).length<=100000) :
 Calls Tryz.prog 48 #[.pointer (some ⟨sb,0,none⟩),.int .i64 ax] w fun e w'=>((GlN e/\Hid (GlBad xs ax p))\/GlY (w.heap.size+1) sb a cap xs p ax e w')/\Kp sb w w':=by
 obtain⟨W,hW,XR,hbW⟩:∃W,W=w.alloc (.cells #[.slice none 0 0,.slice none 0 0,.slice none 0 0,.int .i64 0,.int .i64 0,.bool false] 62)/\Bk 62 W w.heap.size [.slice none 0 0,.slice none 0 0,.slice none 0 0,.int .i64 0,.int .i64 0,.bool false]/\Below w.heap.size w W:=⟨_,rfl,Bk.new _ _ _,bl1 _⟩;have HS0:Hid (Sc 101 w sb a cap xs p):=hS;have hKp:Kp sb w W:=Kp.of hbW;have hsl:=hS.bk.lt;have hrx:=hS.rb;have HBY:Hid (Byt xs):=hS.rb.lim;obtain⟨gr,hgr⟩:∃n,w.heap.size=n:=⟨_,rfl⟩;have HGR:Hid (w.heap.size=gr):=hgr;rw[hgr]at XR hsl;have hblk:=zk9 sb a cap xs p W (hS.below hbW).bk (hS.below hbW).rb hl (by omega);rw[<-zxc]at hblk;have hWs:=XR.lt;clear hS hbW hrx;go_enter func48,ntmps48;go_upto_region 1 with fail
 rw[<-hW];try rw[hgr]
 clear hW hgr;go_wp2_with fail
 refine hblk.mono ?_;rintro e u1 ⟨a1,c1,p1,rfl,hr1,hlo1,hB1,HP1,hk1⟩;clear hblk;replace XR:=XR.kp hk1 (by omega);replace hKp:=hKp.trans hk1;have hs1:=hk1.size;have hrd:=zmj a1 c1 (gOb xs p) u1 hr1;clear hk1 hlo1;go_wp2_with fail
 refine hrd.mono ?_;rintro e u2 ⟨xa,xc,qa,qc,rfl,hGc,hGp,⟨hlc,hlp⟩,hb2⟩;clear hrd hr1;replace XR:=XR.below hb2;replace hB1:=hB1.below hb2;replace hKp:=hKp.trans (Kp.of hb2);have hs2:=hb2.size;have hn0:gr+1<=u1.heap.size:=by omega
 replace hGc:Gr PnE.row (fun k=>gr+1<=k) u2 xa xc (rdOL (gOb xs p)).cs:=hGc.wide (fun k h1 _=>qF hn0 h1);replace hGp:Gr PaE (fun k=>gr+1<=k) u2 qa qc (rdOL (gOb xs p)).ps:=hGp.wide (fun k h1 _=>qF hn0 h1);have z2d:∀c o,xa=some ⟨c,o,none⟩->gr+1<=c:=fun c o e=>qF hn0 (hlc c o e);have z2a:∀c o,qa=some ⟨c,o,none⟩->gr+1<=c:=fun c o e=>qF hn0 (hlp c o e);have kc:=hGc.lenB;have kp:=hGp.lenB;obtain⟨V,hV,XO,hbV⟩:∃V,V=u2.alloc (.cells #[.slice xa (rdOL (gOb xs p)).cs.length xc,.slice qa (rdOL (gOb xs p)).ps.length qc] 57)/\Bk 57 V u2.heap.size [.slice xa (rdOL (gOb xs p)).cs.length xc,.slice qa (rdOL (gOb xs p)).ps.length qc]/\Below u2.heap.size u2 V:=⟨_,rfl,Bk.new _ _ _,bl1 _⟩;go_upto_region 2 with fail
 rw[<-hV];clear hV hlc hlp hb2;replace XR:=XR.below hbV;replace hB1:=hB1.below hbV;replace hKp:=hKp.trans (Kp.of hbV);replace hGc:=hGc.below hbV;replace hGp:=hGp.below hbV;have hsV:=hbV.size;obtain⟨go,hgo⟩:∃n,u2.heap.size=n:=⟨_,rfl⟩;rw[hgo]at XO hs2 hsV;try rw[hgo]
 have hro:gr+1<=go:=by omega
 clear hgo hbV hs1 hs2 hn0;by_cases hE:rdOE (gOb xs p)=0;rotate_left
 . have g1:(rdOE (gOb xs p) != 0)=true:=bne_iff_ne.2 hE
   have HNO:Hid (GlBad xs ax p):=Or.inl (zjg (fun h=>hE h.2.1));obtain⟨y0,y1,y2,y3,y4,y5,hf⟩:=XR.six;have f0:=hf 0;have f1:=hf 1;have f2:=hf 2;have f3:=hf 3;have f4:=hf 4;have f5:=hf 5;have HA6:Hid (_):=(XR.set6 (.slice none 0 0) (.slice none 0 0) (.slice none 0 0) (.int .i64 0) (.int .i64 0) (.bool false)).six;have HKF:Hid (Kp sb w (S6 V gr (.slice none 0 0) (.slice none 0 0) (.slice none 0 0) (.int .i64 0) (.int .i64 0) (.bool false))):=hKp.new6 (by have:=HGR.out;omega) _ _ _ _ _ _;clear hE XR XO hB1 hKp hGc hGp hf HP1 hTb;go_wp2;refine bodyPost_ret (v:=.tuple #[.agg #[.slice none 0 0,.slice none 0 0,.slice none 0 0,.int .i64 0,.int .i64 0,.bool false],.bool false]) (by obtain⟨r0,r1,r2,r3,r4,r5,-⟩:=HA6.out;simp[results,results48,go_sem,r0,r1,r2,r3,r4,r5]) rfl ⟨.inl ⟨GlN.mk ⟨_,_,_,_,_,_,_,_,_,_,_,_,rfl⟩,HNO⟩,HKF.out⟩
 have HE:Hid (rdOE (gOb xs p)=0):=hE;have hfo:=zbg.1 (zrf hE);have HLc:Hid ((rdOL (gOb xs p)).cs.length<=10):=hfo.2.1;have HLp:Hid ((rdOL (gOb xs p)).ps.length<=6):=hfo.2.2.1;obtain⟨hq1,hq2⟩:=blk_o hE;have HQ1:Hid (p1=g2 xs p):=HP1.out.trans hq1;rw[HQ1.out]at hB1;have HT2:Hid (gTb xs p=cutV xs ((g2 xs p:Int)+4) (nmV xs (g2 xs p:Int) 4:Int)):=zxa xs p;have HB4:Hid (∀o,rdTE (gTb xs p) o ax=0->blkP xs (g2 xs p)=g4 xs p/\g4 xs p<=xs.length):=fun o h=>blk_t h;have HG:Hid (∀v,v=rdGl xs ax p->v=rdGl xs ax p):=fun _ h=>h;rw[hE];clear hfo hq1 HP1 hE;have hB2:∀U,Kp sb w U->Bk 101 U sb [.slice a xs.length cap,.int .i64 (g2 xs p:Int)]->Sc 101 U sb a cap xs (g2 xs p):=fun U h1 h2=>HS0.out.of h1 h2;obtain⟨pp,hpp⟩:∃n,g2 xs p=n:=⟨_,rfl⟩;obtain⟨ob,hob⟩:∃o,rdOL (gOb xs p)=o:=⟨_,rfl⟩;have HPP:Hid (g2 xs p=pp):=hpp;have HOB:Hid (rdOL (gOb xs p)=ob):=hob;rw[hpp]at hB1 hq2 HT2 hB2 HB4;rw[hob]at XO hGc hGp kc kp HLc HLp;rw[hob];clear hpp hob;go_upto_region 4 with fail
 obtain⟨z0,z1,-⟩:=XO.two;refine wp_region_held_drew (S:=fun w9=>w9.cell? ⟨go,0,none⟩=some (.slice xa ob.cs.length xc)/\w9.cell? ⟨go,1,none⟩=some (.slice qa ob.ps.length qc)) (by kernel_rfl) ?_ (fun hH=>?_)
 . (try dsimp only)
   go_keep
 have hdr:Below V.heap.size V V.drew:=Below.drew1;generalize V.drew=Z at hdr hH ⊢;replace XR:=XR.below hdr;replace XO:=XO.below hdr;replace hB1:=hB1.below hdr;replace hKp:=hKp.trans (Kp.of hdr);replace hGc:=hGc.below hdr;replace hGp:=hGp.below hdr;have hsZ:=hdr.size;clear hdr z0 z1;have hblk:=zk9 sb a cap xs pp Z hB1 (hB2 Z hKp hB1).rb hl (by omega);rw[<-HT2.out]at hblk;refine hT 0 hH ?_;refine hT 2 hH ?_;refine hT 3 hH ?_;refine hCall (i:=1) rfl (by kernel_rfl) (by rfl) (fun K hK=>?_);go_simp;refine hblk.mono ?_;rintro e u3 ⟨a2,c2,p2,rfl,hr2,zqb,hB3,HP2,hk3⟩;have hs3:=hk3.size;replace XR:=XR.kp hk3 (by omega);replace XO:=XO.kp hk3 (by omega);replace hKp:=hKp.trans hk3;have hK3:=K3.kp (n:=gr+1) hk3 (by omega);replace hGc:=(zax (zaf (⟨_,_,rfl,fun c o e _=>z2d c o e,hGc,by have:=HLc.out;omega⟩:PnE.row.row.rep (fun k=>gr+1<=k) Z [.slice xa ob.cs.length xc] ob.cs) hK3)).1;replace hGp:=(zax (zaf (⟨_,_,rfl,fun c o e _=>z2a c o e,hGp,by have:=HLp.out;omega⟩:PaE.row.rep (fun k=>gr+1<=k) Z [.slice qa ob.ps.length qc] ob.ps) hK3)).1;clear hblk hB1 hk3 hK3 zqb;go_wp2_with fail
 refine hK.out _ _ ?_ (fun hH=>?_)
 . (try dsimp only)
   exact⟨XO.two.1,XO.two.2.1⟩
 clear hK K;try simp only[Act.put,pZ]
 have hrd:=zou a2 c2 (gTb xs p) _ xa xc qa qc ob ax u3 hr2 hGc hGp hi hTb;refine hCall (i:=4) rfl (by kernel_rfl) (by rfl) (fun K hK=>?_);go_simp;refine hrd.mono ?_;rintro e u4 ⟨ta,tc,rfl,hGt,hlt,hb4⟩;have hs4:=hb4.size;replace XR:=XR.below hb4;replace XO:=XO.below hb4;replace hB3:=hB3.below hb4;replace hKp:=hKp.trans (Kp.of hb4);replace hGc:=hGc.below hb4;replace hGp:=hGp.below hb4;have hn3:gr+1<=u3.heap.size:=by omega
 replace hGt:Gr TuE (fun k=>gr+1<=k) u4 ta tc (rdTL (gTb xs p) ob ax):=hGt.wide (fun k h1 _=>qF hn3 h1);have hltB:∀c o,ta=some ⟨c,o,none⟩->gr+1<=c:=fun c o e=>qF hn3 (hlt c o e);have kt:=hGt.lenB;clear hrd hr2 hb4 hlt;go_wp2_with fail
 refine hK.out _ _ ?_ (fun hH=>?_)
 . (try dsimp only)
   exact⟨XO.two.1,XO.two.2.1⟩
 clear hK K;try simp only[Act.put,pZ]
 refine hT 5 hH ?_;refine hT 6 hH ?_;refine hT 7 hH ?_;refine hT 8 hH ?_;refine hT 9 hH ?_;refine wpAnyH_done (by kernel_rfl) ?_ _;clear hH hn3 hs4 hs3 hsZ hsV;by_cases hE2:rdTE (gTb xs p) ob ax=0;rotate_left
 . have g1:(rdTE (gTb xs p) ob ax != 0)=true:=bne_iff_ne.2 hE2
   have HNO:Hid (GlBad xs ax p):=Or.inl (zjg (fun h=>hE2 (by rw[<-HOB.out];exact h.2.2)));obtain⟨y0,y1,y2,y3,y4,y5,hf⟩:=XR.six;have f0:=hf 0;have f1:=hf 1;have f2:=hf 2;have f3:=hf 3;have f4:=hf 4;have f5:=hf 5;have HA6:Hid (_):=(XR.set6 (.slice none 0 0) (.slice none 0 0) (.slice none 0 0) (.int .i64 0) (.int .i64 0) (.bool false)).six;have HKF:Hid (Kp sb w (S6 u4 gr (.slice none 0 0) (.slice none 0 0) (.slice none 0 0) (.int .i64 0) (.int .i64 0) (.bool false))):=hKp.new6 (by have:=HGR.out;omega) _ _ _ _ _ _;clear hE2 XR XO hB3 hKp hGc hGp hf HP2 hTb hGt hB2;go_wp2;refine bodyPost_ret (v:=.tuple #[.agg #[.slice none 0 0,.slice none 0 0,.slice none 0 0,.int .i64 0,.int .i64 0,.bool false],.bool false]) (by obtain⟨r0,r1,r2,r3,r4,r5,-⟩:=HA6.out;simp[results,results48,go_sem,r0,r1,r2,r3,r4,r5]) rfl ⟨.inl ⟨GlN.mk ⟨_,_,_,_,_,_,_,_,_,_,_,_,rfl⟩,HNO⟩,HKF.out⟩
 have HE2:Hid (rdTE (gTb xs p) ob ax=0):=hE2;have HLt:Hid ((rdTL (gTb xs p) ob ax).length<=40):=(zbb.1 (zge hE2).1).2.2.1;obtain⟨hq3,hq4⟩:=HB4.out ob hE2;have HQ2:Hid (p2=g4 xs p):=HP2.out.trans hq3;rw[HQ2.out]at hB3;rw[hE2];clear hE2 hq3 HP2 HB4 HT2 hTb hB2;obtain⟨p4,hp4⟩:∃n,g4 xs p=n:=⟨_,rfl⟩;obtain⟨tl,htl⟩:∃o,rdTL (gTb xs p) ob ax=o:=⟨_,rfl⟩;have HP4:Hid (g4 xs p=p4):=hp4;have HTL:Hid (rdTL (gTb xs p) ob ax=tl):=htl;rw[hp4]at hB3 hq4;rw[htl]at hGt kt HLt;rw[htl];clear hp4 htl;have hSc:Sc 101 u4 sb a cap xs p4:=HS0.out.of hKp hB3;have hi1:=fun U (hr:Rb U a cap xs)=>zhw a cap xs (p4:Int) U hr ⟨by omega,by omega⟩;have hi2:=fun U (hr:Rb U a cap xs)=>zhw a cap xs ((p4+2:Nat):Int) U hr ⟨by omega,by omega⟩;have hi3:=fun U (hr:Rb U a cap xs)=>zg2 a cap xs ((p4+4:Nat):Int) U hr ⟨by omega,by omega⟩;have hv1:=zdy (zam HBY.out (p4:Int) 2);have hv2:=zdy (zam HBY.out ((p4+2:Nat):Int) 2);have hv3:=zam HBY.out ((p4+4:Nat):Int) 1;have HV0:Hid (inB xs.length ((p4+4:Nat):Int) 1=false->nmV xs ((p4+4:Nat):Int) 1=0):=fun h=>by
  unfold nmV;rw[if_neg (by rw[show inB xs.length ((p4+4:Nat):Int) ((1:Nat):Int)=false from h];decide)]
 have HIN:Hid (inB xs.length ((p4+4:Nat):Int) 1=true↔p4+5<=xs.length):=by
  show _↔_;unfold inB;rw[qM];omega
 obtain⟨v1,ev1⟩:∃z,sx16 (nmV xs (p4:Int) 2)=z:=⟨_,rfl⟩;obtain⟨v2,ev2⟩:∃z,sx16 (nmV xs ((p4+2:Nat):Int) 2)=z:=⟨_,rfl⟩;obtain⟨v3,ev3⟩:∃z,nmV xs ((p4+4:Nat):Int) 1=z:=⟨_,rfl⟩;obtain⟨th,eth⟩:∃z,inB xs.length ((p4+4:Nat):Int) 1=z:=⟨_,rfl⟩;have EV1:Hid (sx16 (nmV xs (p4:Int) 2)=v1):=ev1;have EV2:Hid (sx16 (nmV xs ((p4+2:Nat):Int) 2)=v2):=ev2;have EV3:Hid (nmV xs ((p4+4:Nat):Int) 1=v3):=ev3;simp only[ev1]at hi1 hv1;simp only[ev2]at hi2 hv2;simp only[ev3,eth]at hi3;rw[ev3,eth]at HV0;rw[eth]at HIN;rw[ev3]at hv3;clear ev1 ev2 ev3 eth;have hw2:IntKind.i64.wrap ((p4:Int)+2)=((p4+2:Nat):Int):=by rw[zbn (by omega) (by omega)];omega
 have hw4:IntKind.i64.wrap ((p4:Int)+4)=((p4+4:Nat):Int):=by rw[zbn (by omega) (by omega)];omega
 have hw5:IntKind.i64.wrap ((p4:Int)+5)=((p4+5:Nat):Int):=by rw[zbn (by omega) (by omega)];omega
 -- base
 go_upto_region 7 with fail
 obtain⟨z0,z1,-⟩:=hSc.bk.two;refine wp_region_held_drew (S:=fun w9=>w9.cell? ⟨sb,0,none⟩=some (.slice a xs.length cap)/\w9.cell? ⟨sb,1,none⟩=some (.int .i64 (p4:Int))) (by kernel_rfl) ?_ (fun hH=>?_)
 . (try dsimp only)
   go_keep
 have hdr:Below u4.heap.size u4 u4.drew:=Below.drew1;generalize u4.drew=Z4 at hdr hH ⊢;replace XR:=XR.below hdr;replace XO:=XO.below hdr;replace hKp:=hKp.trans (Kp.of hdr);replace hGc:=hGc.below hdr;replace hGp:=hGp.below hdr;replace hGt:=hGt.below hdr;replace hSc:=hSc.below hdr;clear hdr z0 z1 hB3;refine hT 0 hH ?_;refine hT 1 hH ?_;refine hT 2 hH ?_;refine hT 3 hH ?_;refine hT 4 hH ?_;refine hT 5 hH ?_;refine hT 6 hH ?_;refine hT 7 hH ?_;refine hCall (i:=8) rfl (by kernel_rfl) (by rfl) (fun K hK=>?_);go_simp;refine(hi1 _ hSc.rb).mono ?_;rintro e u ⟨rfl,rfl⟩;go_wp2_with fail
 refine hK.out _ _ ?_ (fun hH=>?_)
 . (try dsimp only)
   exact hH
 clear hK K;try simp only[Act.put,pZ]
 refine hT 9 hH ?_;refine hT 10 hH ?_;refine hT 11 hH ?_;refine hT 12 hH ?_;refine hT 13 hH ?_;refine wpAnyH_done (by kernel_rfl) ?_ _;clear hH hi1
 -- row
 go_upto_region 8 with fail
 obtain⟨z0,z1,-⟩:=hSc.bk.two;refine wp_region_held_drew (S:=fun w9=>w9.cell? ⟨sb,0,none⟩=some (.slice a xs.length cap)/\w9.cell? ⟨sb,1,none⟩=some (.int .i64 (p4:Int))) (by kernel_rfl) ?_ (fun hH=>?_)
 . (try dsimp only)
   go_keep
 have hdr:Below Z4.heap.size Z4 Z4.drew:=Below.drew1;generalize Z4.drew=Z5 at hdr hH ⊢;replace XR:=XR.below hdr;replace XO:=XO.below hdr;replace hKp:=hKp.trans (Kp.of hdr);replace hGc:=hGc.below hdr;replace hGp:=hGp.below hdr;replace hGt:=hGt.below hdr;replace hSc:=hSc.below hdr;clear hdr z0 z1;refine hT 0 hH ?_;refine hT 1 hH ?_;refine hT 2 hH ?_;refine hT 3 hH ?_;refine hT 4 hH ?_;refine hT 5 hH ?_;refine hT 6 hH ?_;refine hT 7 hH ?_;refine hT 8 hH ?_;try rw[hw2]
 refine hCall (i:=9) rfl (by kernel_rfl) (by rfl) (fun K hK=>?_);go_simp;refine(hi2 _ hSc.rb).mono ?_;rintro e u ⟨rfl,rfl⟩;go_wp2_with fail
 refine hK.out _ _ ?_ (fun hH=>?_)
 . (try dsimp only)
   exact hH
 clear hK K;try simp only[Act.put,pZ]
 refine hT 10 hH ?_;refine hT 11 hH ?_;refine hT 12 hH ?_;refine hT 13 hH ?_;refine hT 14 hH ?_;refine wpAnyH_done (by kernel_rfl) ?_ _;clear hH hi2
 -- mark
 go_upto_region 9 with fail
 obtain⟨z0,z1,-⟩:=hSc.bk.two;refine wp_region_held_drew (S:=fun w9=>w9.cell? ⟨sb,0,none⟩=some (.slice a xs.length cap)/\w9.cell? ⟨sb,1,none⟩=some (.int .i64 (p4:Int))) (by kernel_rfl) ?_ (fun hH=>?_)
 . (try dsimp only)
   go_keep
 have hdr:Below Z5.heap.size Z5 Z5.drew:=Below.drew1;generalize Z5.drew=Z6 at hdr hH ⊢;replace XR:=XR.below hdr;replace XO:=XO.below hdr;replace hKp:=hKp.trans (Kp.of hdr);replace hGc:=hGc.below hdr;replace hGp:=hGp.below hdr;replace hGt:=hGt.below hdr;replace hSc:=hSc.below hdr;clear hdr z0 z1;refine hT 0 hH ?_;refine hT 1 hH ?_;refine hT 2 hH ?_;refine hT 3 hH ?_;refine hT 4 hH ?_;refine hT 5 hH ?_;refine hT 6 hH ?_;refine hT 7 hH ?_;refine hT 8 hH ?_;try rw[hw4]
 refine hCall (i:=9) rfl (by kernel_rfl) (by rfl) (fun K hK=>?_);go_simp;refine(hi3 _ hSc.rb).mono ?_;rintro e u ⟨rfl,rfl⟩;go_wp2_with fail
 refine hK.out _ _ ?_ (fun hH=>?_)
 . (try dsimp only)
   exact hH
 clear hK K;try simp only[Act.put,pZ]
 refine hT 10 hH ?_;refine hT 11 hH ?_;refine hT 12 hH ?_;refine hT 13 hH ?_;refine hT 14 hH ?_;refine wpAnyH_done (by kernel_rfl) ?_ _;clear hH hi3
 -- the end
 obtain⟨U,hU⟩:∃U,U=Z6.setCell ⟨sb,1,none⟩ (.int .i64 ((p4:Int)+5)):=⟨_,rfl⟩;have hSU:Sc 101 U sb a cap xs (p4+5):=by rw[hU,show((p4:Int)+5)=((p4+5:Nat):Int) by omega];exact hSc.step (p4+5)
 have XRU:Bk 62 U gr [.slice none 0 0,.slice none 0 0,.slice none 0 0,.int .i64 0,.int .i64 0,.bool false]:=by rw[hU];exact XR.other 1 _ (by omega)
 have XOU:Bk 57 U go [.slice xa ob.cs.length xc,.slice qa ob.ps.length qc]:=by rw[hU];exact XO.other 1 _ (by omega)
 have hKU:Kp sb w U:=by rw[hU];exact hKp.setCell 1 _
 have hK3:K3 (gr+1) Z6 U:=by rw[hU];exact K3.set _ (by omega) 1 _
 have HFG:Hid (∀mr:Bool,GlC (fun k=>gr+1<=k) (S6 U gr (.slice xa ob.cs.length xc) (.slice qa ob.ps.length qc) (.slice ta tl.length tc) (.int .i64 v1) (.int .i64 v2) (.bool mr)) xa xc qa qc ta tc ⟨ob,tl,v1,v2,mr⟩):=fun mr=>by
  have h6:=hK3.trans (K3.set6 (n:=gr+1) U (b:=gr) (by omega) (.slice xa ob.cs.length xc) (.slice qa ob.ps.length qc) (.slice ta tl.length tc) (.int .i64 v1) (.int .i64 v2) (.bool mr));exact⟨zaf (⟨_,_,rfl,fun c o e _=>z2d c o e,hGc,by have:=HLc.out;omega⟩:PnE.row.row.rep (fun k=>gr+1<=k) Z6 [.slice xa ob.cs.length xc] ob.cs) h6,zaf (⟨_,_,rfl,fun c o e _=>z2a c o e,hGp,by have:=HLp.out;omega⟩:PaE.row.rep (fun k=>gr+1<=k) Z6 [.slice qa ob.ps.length qc] ob.ps) h6,zaf (⟨_,_,rfl,fun c o e _=>hltB c o e,hGt,by have:=HLt.out;omega⟩:TuE.row.rep (fun k=>gr+1<=k) Z6 [.slice ta tl.length tc] tl) h6,hv1,hv2⟩
 have HFK:Hid (∀mr:Bool,Kp sb w (S6 U gr (.slice xa ob.cs.length xc) (.slice qa ob.ps.length qc) (.slice ta tl.length tc) (.int .i64 v1) (.int .i64 v2) (.bool mr))):=fun mr=>hKU.new6 (by have:=HGR.out;omega) _ _ _ _ _ _;have HFS:Hid (∀mr:Bool,Sc 101 (S6 U gr (.slice xa ob.cs.length xc) (.slice qa ob.ps.length qc) (.slice ta tl.length tc) (.int .i64 v1) (.int .i64 v2) (.bool mr)) sb a cap xs (p4+5)):=fun mr=>HS0.out.of (HFK.out mr) (hSU.bk.other6 (by omega) _ _ _ _ _ _);have HFX:Hid (∀mr:Bool,Bk 62 (S6 U gr (.slice xa ob.cs.length xc) (.slice qa ob.ps.length qc) (.slice ta tl.length tc) (.int .i64 v1) (.int .i64 v2) (.bool mr)) gr [.slice xa ob.cs.length xc,.slice qa ob.ps.length qc,.slice ta tl.length tc,.int .i64 v1,.int .i64 v2,.bool mr]):=fun mr=>XRU.set6 _ _ _ _ _ _;obtain⟨z0,z1,hzf⟩:=hSc.bk.two;have zf1:=hzf.2;clear XR XO hKp hGc hGp hGt hSc hKU hSU hK3 hzf;go_upto_region 11 with fail
 rw[<-hU];clear z0 z1 zf1 hU;obtain⟨x0,x1,-⟩:=XOU.two;obtain⟨y0,y1,y2,y3,y4,y5,hf⟩:=XRU.six;have f0:=hf 0;have f1:=hf 1;have f2:=hf 2;have f3:=hf 3;have f4:=hf 4;have f5:=hf 5;clear hf XOU XRU;cases th with
 | false =>
  have hv0:=HV0.out rfl;have HNO:Hid (GlBad xs ax p):=Or.inl (zjg (fun h=>by have h1:=h.1;rw[HP4.out]at h1;exact absurd (HIN.out.2 h1) (by decide)));have g5:((v3:Int)==1)=false:=by rw[hv0];rfl
  have g6:decide ((v3:Int)=1)=false:=by rw[hv0];rfl
  have HA6:Hid (_):=(HFX.out false).six;clear hv0 HV0 HIN hw2 hw4 hw5;go_wp2;refine bodyPost_ret (v:=.tuple #[.agg #[.slice xa ob.cs.length xc,.slice qa ob.ps.length qc,.slice ta tl.length tc,.int .i64 v1,.int .i64 v2,.bool false],.bool false]) (by obtain⟨r0,r1,r2,r3,r4,r5,-⟩:=HA6.out;simp[results,results48,go_sem,r0,r1,r2,r3,r4,r5]) rfl ⟨.inl ⟨GlN.mk ⟨_,_,_,_,_,_,_,_,_,_,_,_,rfl⟩,HNO⟩,HFK.out false⟩
 | true =>
 have HLE:Hid (p4+5<=xs.length):=HIN.out.1 rfl;have HRD:Hid (rdGl xs ax p=some (⟨ob,tl,v1,v2,decide (v3=1)⟩,p4+5)):=by
  have h:=znr (b:=xs) (ax:=ax) (p:=p) (by rw[HP4.out];exact HLE.out) HE.out (by rw[HOB.out];exact HE2.out);rw[HP4.out,HOB.out,HTL.out,EV1.out,EV2.out,EV3.out]at h;exact h
 have HMK:Hid (nmV xs ((g4 xs p+4:Nat):Int) 1=v3):=by show _=_;rw[HP4.out];exact EV3.out
 clear HV0 HIN hw2 hw4 hw5;by_cases zzc:v3=1
 . have g5:((v3:Int)==1)=true:=by rw[zzc];rfl
   have g6:decide ((v3:Int)=1)=true:=(by rw[zzc];rfl);have g7:(v3:Int)<=1:=(by omega);have HA6:Hid (_):=(HFX.out true).six;have HR2:Hid (rdGl xs ax p=some (⟨ob,tl,v1,v2,true⟩,p4+5)):=(by have h:=HRD.out;rw[qC zzc]at h;exact h);have HM2:Hid (nmV xs ((g4 xs p+4:Nat):Int) 1<=1):=(by show _<=_;rw[HMK.out];omega);clear zzc HRD HMK;go_wp2;refine bodyPost_ret (v:=.tuple #[.agg #[.slice xa ob.cs.length xc,.slice qa ob.ps.length qc,.slice ta tl.length tc,.int .i64 v1,.int .i64 v2,.bool true],.bool true]) (by obtain⟨r0,r1,r2,r3,r4,r5,-⟩:=HA6.out;simp[results,results48,go_sem,r0,r1,r2,r3,r4,r5]) rfl ⟨.inr ⟨⟨xa,xc,qa,qc,ta,tc,⟨ob,tl,v1,v2,true⟩,p4+5,rfl,by rw[HGR.out];exact HFG.out true,HFS.out true,HR2,HM2⟩⟩,HFK.out true⟩
 have g5:((v3:Int)==1)=false:=by simp;omega
 have g6:decide ((v3:Int)=1)=false:=qB (by omega);have HA6:Hid (_):=(HFX.out false).six;by_cases hv30:v3<=1
 . have g7:(v3:Int)<=1:=by omega
   have HR2:Hid (rdGl xs ax p=some (⟨ob,tl,v1,v2,false⟩,p4+5)):=(by have h:=HRD.out;rw[qB zzc]at h;exact h);have HM2:Hid (nmV xs ((g4 xs p+4:Nat):Int) 1<=1):=(by show _<=_;rw[HMK.out];omega);clear zzc HRD HMK hv30;go_wp2;refine bodyPost_ret (v:=.tuple #[.agg #[.slice xa ob.cs.length xc,.slice qa ob.ps.length qc,.slice ta tl.length tc,.int .i64 v1,.int .i64 v2,.bool false],.bool true]) (by obtain⟨r0,r1,r2,r3,r4,r5,-⟩:=HA6.out;simp[results,results48,go_sem,r0,r1,r2,r3,r4,r5]) rfl ⟨.inr ⟨⟨xa,xc,qa,qc,ta,tc,⟨ob,tl,v1,v2,false⟩,p4+5,rfl,by rw[HGR.out];exact HFG.out false,HFS.out false,HR2,HM2⟩⟩,HFK.out false⟩
 . have g7:¬(v3:Int)<=1:=by omega
   have HNO:Hid (GlBad xs ax p):=Or.inr ⟨_,_,HRD.out,by rw[HMK.out];exact hv30⟩;clear zzc HRD HMK hv30;go_wp2;refine bodyPost_ret (v:=.tuple #[.agg #[.slice xa ob.cs.length xc,.slice qa ob.ps.length qc,.slice ta tl.length tc,.int .i64 v1,.int .i64 v2,.bool false],.bool false]) (by obtain⟨r0,r1,r2,r3,r4,r5,-⟩:=HA6.out;simp[results,results48,go_sem,r0,r1,r2,r3,r4,r5]) rfl ⟨.inl (GlN.mk ⟨_,_,_,_,_,_,_,_,_,_,_,_,rfl⟩),HFK.out false⟩
