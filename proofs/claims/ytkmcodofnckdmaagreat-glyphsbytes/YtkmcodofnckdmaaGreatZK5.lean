import Derived.Test.YtkmcodofnckdmaaGreatZK4
import Derived.Maps.AppendAt
import Derived.Maps.OwnSet
import Derived.Laws.IdiomStrings
set_option maxHeartbeats 4000000
set_option maxRecDepth 100000
set_option linter.unusedSimpArgs false
set_option linter.unusedVariables false
namespace Go.Proofs.YtkmcodofnckdmaaGreat
open Tryz Go.RowKit Classical
structure W1(w:World)(v:Value)(z:Nat):Prop where
 out:∃a c xs a' c' ys,v=.agg #[.bool false,.slice a xs.length c,.slice a' ys.length c']/\Rd w a c xs/\Rd w a' c' ys/\Tr xs/\Tr ys/\V xs=z/\V ys=1
theorem W1.below{w w':World}{v:Value}{z:Nat}(h:W1 w v z)(hb:Below w.heap.size w w'):W1 w' v z:=by
 obtain⟨a,c,xs,a',c',ys,e,h1,h2,h3⟩:=h.out;exact⟨⟨a,c,xs,a',c',ys,e,h1.below hb,h2.below hb,h3⟩⟩
theorem zt1{ys:LN}(l:Lim ys)(t:Tr ys)(v:V ys=1):ys.length=1:=by rw[(zop l t).1 v];rfl
theorem zi8{ys:LN}(l:Lim ys)(t:Tr ys){y:Nat}(v:V ys=y)(h0:0<y)(h:y<4294967296):(strip ys).length=1:=by
 have e:strip ys=ys:=t;rw[e];have h1:ys.length<=1:=zei t (by rw[v];omega);rcases Nat.lt_or_ge 0 ys.length with h2|h2
 . omega
 . have e0:ys=[]:=List.length_eq_zero_iff.1 (by omega)
   have:V ys=0:=(by rw[e0];rfl);omega
theorem zz2(a:OA)(c:Nat)(xs:LN)(a':OA)(c':Nat)(ys:LN)(w:World)(hx:Rd w a c xs)(hy:Rd w a' c' ys)(tx:Tr xs)(ty:Tr ys)(vx:V xs<2147483648)(vy:V ys=1) :
 Calls Tryz.prog 208 #[.agg #[.bool false,.slice a xs.length c,.slice a' ys.length c']] w fun e w'=>e=.returned (.bool true)/\Below w.heap.size w w':=by
 have hyl:=zt1 hy.lim ty vy;have HYL:Hid (ys.length=1):=hyl;have g1:((ys.length:Int)==0)=false:=beq_eq_false_iff_ne.2 (by omega);have hg:=zvs a c xs a' c' ys _ (hx.below ((Below.refl _ _).alloc (qE _) (.cells #[.bool false,.slice a xs.length c,.slice a' ys.length c'] 125))) (hy.below ((Below.refl _ _).alloc (qE _) _)) (by omega) (by omega);rw[vy,Nat.gcd_one_right]at hg;have ht1:=zg4 a c xs _ (hx.below ((Below.refl _ _).alloc (qE _) (.cells #[.bool false,.slice a xs.length c,.slice a' ys.length c'] 125)));have ht2:=zg4 a' c' ys _ (hy.below ((Below.refl _ _).alloc (qE _) (.cells #[.bool false,.slice a xs.length c,.slice a' ys.length c'] 125)));have e1:decide (Tr xs)=true:=qC tx;have e2:decide (Tr ys)=true:=qC ty;rw[e1]at ht1;rw[e2]at ht2;clear e1 e2;have k1:=hx.le;have k2:=hx.cap;unfold maxLen at k2;clear hyl hx hy tx ty vx vy;go_enter func208,ntmps208;go_wp2_with fail
 refine ht1.mono ?_;rintro e u ⟨rfl,rfl⟩;go_wp2_with fail
 refine ht2.mono ?_;rintro e u ⟨rfl,rfl⟩;go_wp2_with fail
 refine hg.mono ?_;rintro e u ⟨a1,c1,zs,rfl,hv,ht,hr,hb⟩;have hb':Below w.heap.size w u:=((Below.refl _ _).alloc (qE _) _).trans (hb.mono (by simp));have h1:=zsd a1 c1 zs u hr;have e3:decide (zs=[1])=true:=qC ((zop hr.lim ht).1 hv);rw[e3]at h1;go_wp2_with fail
 refine h1.mono ?_;rintro e u2 ⟨rfl,rfl⟩;go_wp2;go_ret;exact⟨rfl,hb'⟩
theorem zv6(z:Nat)(v:Value)(w:World)(h:W1 w v z)(hz:z<2147483648) :
 Calls Tryz.prog 162 #[v] w fun e w'=>∃v',e=.returned v'/\W1 w' v' z/\Below w.heap.size w w':=by
 obtain⟨a,c,xs,a',c',ys,rfl,hx,hy,tx,ty,vx',vy⟩:=h.out;have vx:V xs<2147483648:=by omega
 go_enter func162,ntmps162;go_wp2_with fail
 refine(zz2 _ _ _ _ _ _ _ (hx.below (al2 _ _)) (hy.below (al2 _ _)) tx ty vx vy).mono ?_;rintro e u1 ⟨rfl,hb1⟩;replace hx:=(hx.below (al2 _ _)).below hb1;replace hy:=(hy.below (al2 _ _)).below hb1;obtain⟨B1,B2,hbW⟩:=z3u hb1;obtain⟨p1,p2,p3,_⟩:=B1.cells;obtain⟨q1,q2,q3,q4,q5,q6⟩:=B2.cells;have hs:=B2.lt;clear hb1;go_wp2;refine ret3 (v:=.agg #[.bool false,.slice a xs.length c,.slice a' ys.length c']) B2 rfl (fun U hU=>by obtain⟨r1,r2,r3,_⟩:=hU.cells;simp[results,results162,go_sem,r1,r2,r3]) (fun U hU hK=>⟨_,rfl,⟨⟨_,_,_,_,_,_,rfl,hK _ _ _ hx,hK _ _ _ hy,tx,ty,vx',vy⟩⟩,hU _ _ hbW (by omega)⟩)
theorem plusW(z:Nat)(a:OA)(c:Nat)(xs:LN)(a':OA)(c':Nat)(ys:LN)(b:OA)(d:Nat)(ps:LN)(b':OA)(d':Nat)(qs:LN)(w:World)(hx:Rd w a c xs)(hy:Rd w a' c' ys)(hp:Rd w b d ps)(hq:Rd w b' d' qs)(tx:Tr xs)(ty:Tr ys)(tp:Tr ps)(tq:Tr qs)(vx:V xs=z)(vy:V ys=1)(vp:V ps=1)(vq:V qs=2)(hz:z<2147483648) :
 Calls Tryz.prog 161 #[.agg #[.bool false,.slice a xs.length c,.slice a' ys.length c'],.agg #[.bool false,.slice b ps.length d,.slice b' qs.length d']] w fun e w'=>∃a4 c4 rs a3 c3 ds,e=.returned (.agg #[.bool false,.slice a4 rs.length c4,.slice a3 ds.length c3])/\Rd w' a4 c4 rs/\Rd w' a3 c3 ds/\Tr rs/\Tr ds/\V rs=2*z+1/\V ds=2/\Below w.heap.size w w':=by
 have lx:xs.length<=2:=zcm tx (by omega);have ly:ys.length<=2:=zcm ty (by omega);have lp:ps.length<=2:=zcm tp (by omega);have lq:qs.length<=2:=zcm tq (by omega);go_enter func161,ntmps161;go_wp2_with fail
 obtain⟨W,hW,B1,B2,B3,hbW⟩:=z3m 125 125 125 w (.bool false) (.slice a xs.length c) (.slice a' ys.length c') (.bool false) (.slice b ps.length d) (.slice b' qs.length d') (.bool false) (.slice none 0 0) (.slice none 0 0);rw[<-hW];clear hW;replace hx:=hx.below hbW;replace hy:=hy.below hbW;replace hp:=hp.below hbW;replace hq:=hq.below hbW;obtain⟨p1,p2,p3,_⟩:=B1.cells;obtain⟨p4,p5,p6,_⟩:=B2.cells
 go_region_held3 (fun u=>u.cell? ⟨w.heap.size,0,none⟩=some (.bool false)/\u.cell? ⟨w.heap.size,1,none⟩=some (.slice a xs.length c)/\u.cell? ⟨w.heap.size,2,none⟩=some (.slice a' ys.length c')/\u.cell? ⟨w.heap.size+1,0,none⟩=some (.bool false)/\u.cell? ⟨w.heap.size+1,1,none⟩=some (.slice b ps.length d)/\u.cell? ⟨w.heap.size+1,2,none⟩=some (.slice b' qs.length d')) (first | (go_keep;done) | (refine⟨(za5 (by omega)).trans p1,(za5 (by omega)).trans p2,(za5 (by omega)).trans p3,(za5 (by omega)).trans p4,(za5 (by omega)).trans p5,(za5 (by omega)).trans p6⟩))
  (first
   | (go_at_call_of 205 (Value.slice a xs.length c)
      refine(zl4 _ _ _ _ _ _ _ (hx.below Below.drew1) (hq.below Below.drew1) ?_ ?_).mono ?_
      . omega
      . omega
      rintro e u1 ⟨a1,c1,zs,rfl,hv1,ht1,hr1,hb1⟩;have zw2:Below W.heap.size W u1:=Below.drew1.trans hb1;replace hy:=hy.below zw2;replace hq:=hq.below zw2;replace hp:=hp.below zw2;replace B1:=B1.below zw2;replace B2:=B2.below zw2;replace B3:=B3.below zw2;replace hbW:Below w.heap.size w u1:=hbW.trans (zw2.mono hbW.size);have ra:=hr1.rd;clear hr1 hb1 zw2 hx p1 p2 p3 p4 p5 p6;obtain⟨p1,p2,p3,_⟩:=B1.cells
      obtain⟨p4,p5,p6,_⟩:=B2.cells)
   | (go_at_call_of 205 (Value.slice b ps.length d)
      refine(zl4 _ _ _ _ _ _ _ hp hy ?_ ?_).mono ?_
      . omega
      . omega
      rintro e u2 ⟨a2,c2,bs,rfl,hv2,ht2,hr2,hb2⟩;have rb:=hr2.rd;replace ra:=ra.below hb2;replace hy:=hy.below hb2;replace hq:=hq.below hb2;replace B1:=B1.below hb2;replace B2:=B2.below hb2;replace B3:=B3.below hb2;replace hbW:Below w.heap.size w u2:=hbW.trans (hb2.mono hbW.size);clear hr2 hb2 hp p1 p2 p3 p4 p5 p6;obtain⟨p1,p2,p3,_⟩:=B1.cells
      obtain⟨p4,p5,p6,_⟩:=B2.cells))
 go_wp2_with fail
 refine(zl4 _ _ _ _ _ _ _ hy hq (by omega) (by omega)).mono ?_;rintro e u3 ⟨a3,c3,ds,rfl,hv3,ht3,hr3,hb3⟩;have rd:=hr3.rd;replace ra:=ra.below hb3;replace rb:=rb.below hb3;replace B1:=B1.below hb3;replace B2:=B2.below hb3;replace B3:=B3.below hb3;replace hbW:Below w.heap.size w u3:=hbW.trans (hb3.mono hbW.size);clear hr3 hb3 hy hq p1 p2 p3 p4 p5 p6;obtain⟨p1,p2,p3,_⟩:=B1.cells;obtain⟨p4,p5,p6,_⟩:=B2.cells;have la:zs.length<=2:=zcm ht1 (by rw[hv1,vq];omega);have lb:bs.length<=2:=zcm ht2 (by rw[hv2,vp,vy];omega);have ld:ds.length<=2:=zcm ht3 (by rw[hv3,vy,vq];omega);have e0:(false==false)=true:=by simp
 go_wp2_with fail
 go_region_held3 (fun u=>u.cell? ⟨w.heap.size,0,none⟩=some (.bool false)/\u.cell? ⟨w.heap.size,1,none⟩=some (.slice a xs.length c)/\u.cell? ⟨w.heap.size,2,none⟩=some (.slice a' ys.length c')/\u.cell? ⟨w.heap.size+1,0,none⟩=some (.bool false)/\u.cell? ⟨w.heap.size+1,1,none⟩=some (.slice b ps.length d)/\u.cell? ⟨w.heap.size+1,2,none⟩=some (.slice b' qs.length d')) (first | (go_keep;done) | (refine⟨(za5 (by omega)).trans p1,(za5 (by omega)).trans p2,(za5 (by omega)).trans p3,(za5 (by omega)).trans p4,(za5 (by omega)).trans p5,(za5 (by omega)).trans p6⟩))
  (first
   | (go_at_call 204
      refine(z0r _ _ _ _ _ _ _ (ra.below Below.drew1) (rb.below Below.drew1) ?_ ?_).mono ?_
      . omega
      . omega
      rintro e u5 ⟨a4,c4,rs,rfl,hv4,ht4,hr4,hb4⟩;have rr:=hr4.rd;replace hb4:Below u3.heap.size u3 u5:=Below.drew1.trans hb4;replace rd:=rd.below hb4;replace B1:=B1.below hb4;replace B2:=B2.below hb4;replace B3:=B3.below hb4;replace hbW:Below w.heap.size w u5:=hbW.trans (hb4.mono hbW.size);clear hr4 hb4 p1 p2 p3 p4 p5 p6;obtain⟨p1,p2,p3,_⟩:=B1.cells;obtain⟨p4,p5,p6,_⟩:=B2.cells;obtain⟨q1,q2,q3,q4,q5,q6⟩:=B3.cells
      have hs:=B3.lt))
 go_wp2;refine ret3 (v:=.agg #[.bool false,.slice a4 rs.length c4,.slice a3 ds.length c3]) B3 rfl (fun U hU=>by obtain⟨r1,r2,r3,_⟩:=hU.cells;simp[results,results161,go_sem,r1,r2,r3]) (fun U hU hK=>⟨_,_,_,_,_,_,rfl,hK _ _ _ rr,hK _ _ _ rd,ht4,ht3,by rw[hv4,hv1,hv2,vx,vy,vp,vq];omega,by rw[hv3,vy,vq],hU _ _ hbW (by omega)⟩)
theorem z28(z:Nat)(a:OA)(c:Nat)(xs:LN)(a':OA)(c':Nat)(ys:LN)(w:World)(hx:Rd w a c xs)(hy:Rd w a' c' ys)(tx:Tr xs)(ty:Tr ys)(vx:V xs=2*z+1)(vy:V ys=2)(hz:z<2147483648) :
 Calls Tryz.prog 160 #[.agg #[.bool false,.slice a xs.length c,.slice a' ys.length c']] w fun e w'=>e=.returned (.tuple #[.int .i64 (z:Int),.bool true])/\Below w.heap.size w w':=by
 have lx:xs.length<=2:=zcm tx (by omega);have ly:ys.length<=2:=zcm ty (by omega);have hdv:=zv3 a c xs a' c' ys _ (hx.below (al1 (.cells #[.bool false,.slice a xs.length c,.slice a' ys.length c'] 125))) (hy.below (al1 _)) (by omega) (by omega) (zi8 hy.lim ty vy (by decide) (by decide));rw[vx,vy,show(2*z+1)/2=z by omega]at hdv;clear hx hy tx ty vx vy;go_enter func160,ntmps160;go_wp2_with fail
 refine hdv.mono ?_;rintro e u1 ⟨a1,c1,zs,a2,c2,rs,rfl,hv1,hv2,ht1,ht2,hr1,hr2,hb1⟩;obtain⟨B1,hbW⟩:=zon hb1;have lz:zs.length<=2:=zcm ht1 (by omega);have lr:=hr2.rd.le;have lr2:=hr2.rd.cap;unfold maxLen at lr2;have rz:=hr1.rd;have hsm:=zhh a1 c1 zs u1 rz;rw[hv1,zey (by omega),zd4 (by omega)]at hsm;clear hr1 hr2 hb1 hdv hv1 hv2 ht1 ht2 rz;obtain⟨p1,p2,p3,_⟩:=B1.cells;go_wp2_with fail
 refine hsm.mono ?_;rintro e u ⟨rfl,rfl⟩;clear hsm;have g1:(z:Int)<9223372036854775808:=by omega
 obtain⟨y,hy⟩:∃y:Int,(z:Int)=y:=⟨_,rfl⟩;rw[hy]at g1 ⊢;have HZ:Hid ((z:Int)=y):=hy;clear hy;go_wp2;go_ret2;exact⟨zyp (by rw[<-HZ.out];exact zwk (by omega)) rfl,hbW⟩
theorem z09(z:Nat)(v:Value)(w:World)(h:W1 w v z)(hz:z<2147483648) :
 Calls Tryz.prog 110 #[v] w fun e w'=>e=.returned (.tuple #[.int .i64 (z:Int),.bool true])/\Below w.heap.size w w':=by
 have hX:=h;obtain⟨a,c,xs,a',c',ys,rfl,-⟩:=h.out;clear h;go_enter func110,ntmps110;go_wp2_with fail
 refine(ziu 1 _ (by decide)).mono ?_;rintro e u1 ⟨a1,c1,os,rfl,hv1,ht1,hr1,hb1⟩;obtain⟨B1,hbW⟩:=zon hb1;replace hX:=(hX.below (al1 _)).below hb1;have ro:=hr1.rd;clear hr1 hb1;go_wp2_with fail
 refine(ziu 2 _ (by decide)).mono ?_;rintro e u2 ⟨a2,c2,ts,rfl,hv2,ht2,hr2,hb2⟩;replace B1:=B1.below hb2;replace hX:=hX.below hb2;replace ro:=ro.below hb2;replace hbW:Below w.heap.size w u2:=hbW.trans (hb2.mono hbW.size);have rt:=hr2.rd;clear hr2 hb2;go_wp2_with fail
 obtain⟨W,hW,B2,hW2⟩:∃W,W=u2.alloc (Obj.cells #[Value.bool false,Value.slice a1 os.length c1,Value.slice a2 ts.length c2] 125)/\Box 125 W u2.heap.size (.bool false) (.slice a1 os.length c1) (.slice a2 ts.length c2)/\Below u2.heap.size u2 W:=⟨_,rfl,Box.new _ _ _ _ _,al1 _⟩;rw[<-hW];clear hW;replace B1:=B1.below hW2;replace hX:=hX.below hW2;replace ro:=ro.below hW2;replace rt:=rt.below hW2;replace hbW:Below w.heap.size w W:=hbW.trans (hW2.mono hbW.size);clear hW2;generalize u2.heap.size=bh at B2 ⊢;obtain⟨p1,p2,p3,_⟩:=B1.cells;obtain⟨p4,p5,p6,_⟩:=B2.cells
 go_region_held3 (fun u=>u.cell? ⟨w.heap.size,0,none⟩=some (.bool false)/\u.cell? ⟨w.heap.size,1,none⟩=some (.slice a xs.length c)/\u.cell? ⟨w.heap.size,2,none⟩=some (.slice a' ys.length c')/\u.cell? ⟨bh,0,none⟩=some (.bool false)/\u.cell? ⟨bh,1,none⟩=some (.slice a1 os.length c1)/\u.cell? ⟨bh,2,none⟩=some (.slice a2 ts.length c2)) (go_keep)
  (first
   | (go_at_call 162
      refine(zv6 z _ _ (hX.below Below.drew1) ?_).mono ?_
      . omega
      rintro e u3 ⟨v3,rfl,hF3,hb3⟩;replace hb3:Below W.heap.size W u3:=Below.drew1.trans hb3;replace ro:=ro.below hb3;replace rt:=rt.below hb3;obtain⟨a5,c5,xs5,a6,c6,ys6,rfl,h51,h52,h53,h54,h55,h56⟩:=hF3.out;replace B1:=B1.below hb3;replace B2:=B2.below hb3;replace hbW:Below w.heap.size w u3:=hbW.trans (hb3.mono hbW.size);clear hb3 hX p1 p2 p3 p4 p5 p6;obtain⟨p1,p2,p3,_⟩:=B1.cells
      obtain⟨p4,p5,p6,_⟩:=B2.cells)
   | (go_at_call 161
      refine(plusW z _ _ _ _ _ _ _ _ _ _ _ _ _ h51 h52 ro rt h53 h54 ht1 ht2 h55 h56 hv1 hv2 ?_).mono ?_
      . omega
      rintro e u4 ⟨a7,c7,xs7,a8,c8,ys8,rfl,h71,h72,h73,h74,h75,h76,hb4⟩;replace B1:=B1.below hb4;replace B2:=B2.below hb4;replace hbW:Below w.heap.size w u4:=hbW.trans (hb4.mono hbW.size);clear hb4 hF3 ro rt h51 h52 p1 p2 p3 p4 p5 p6;obtain⟨p1,p2,p3,_⟩:=B1.cells
      obtain⟨p4,p5,p6,_⟩:=B2.cells)
   | (go_at_call 160
      refine(z28 z _ _ _ _ _ _ _ h71 h72 h73 h74 h75 h76 ?_).mono ?_
      . omega
      rintro e u5 ⟨rfl,hb5⟩;replace B1:=B1.below hb5;replace B2:=B2.below hb5;replace hbW:Below w.heap.size w u5:=hbW.trans (hb5.mono hbW.size);clear hb5 h71 h72 p1 p2 p3 p4 p5 p6;obtain⟨p1,p2,p3,_⟩:=B1.cells
      obtain⟨p4,p5,p6,_⟩:=B2.cells))
 go_wp2;go_ret2;exact⟨rfl,hbW⟩
theorem z29(z:Nat)(v:Value)(w:World)(h:W1 w v z)(hz:z<=32767) :
 Calls Tryz.prog 67 #[v] w fun e w'=>e=.returned (.tuple #[.int .i64 (z:Int),.int .i64 0])/\Below w.heap.size w w':=by
 have hX:=h;obtain⟨a,c,xs,a',c',ys,rfl,-⟩:=h.out;clear h;go_enter func67,ntmps67;go_wp2_with fail
 refine(z09 z _ _ (hX.below (al1 _)) (by omega)).mono ?_;rintro e u1 ⟨rfl,hb1⟩;obtain⟨B1,hbW⟩:=zon hb1;clear hb1 hX;have h1:-32768<=(z:Int):=by omega
 have h2:(z:Int)<=32767:=by omega
 go_wp2;go_ret2;exact⟨rfl,hbW⟩
def Byt(xs:LN):Prop:=∀x∈xs,x<256
theorem Byt.nil:Byt []:=by intro x hx;cases hx
theorem Byt.append{xs ys:LN}(h:Byt xs)(k:Byt ys):Byt (xs++ys):=by
 intro x hx;rcases List.mem_append.1 hx with hx | hx
 . exact h x hx
 . exact k x hx
theorem Byt.take{xs:LN}(h:Byt xs)(n:Nat):Byt (xs.take n):=fun x hx=>h x (List.mem_of_mem_take hx)
theorem Byt.drop{xs:LN}(h:Byt xs)(n:Nat):Byt (xs.drop n):=fun x hx=>h x (List.mem_of_mem_drop hx)
theorem Byt.getD{xs:LN}(h:Byt xs)(i:Nat):xs.getD i 0<256:=by
 rw[qH];by_cases hi:i<xs.length
 . rw[qG hi];exact h _ (List.getElem_mem hi)
 . rw[List.getElem?_eq_none (by omega)];decide
def Y(n:Nat):Value:=.int .u8 (n:Int)
def Rb(w:World)(a:OA)(cap:Nat)(xs:LN):Prop :=
 Byt xs/\xs.length<=cap/\cap<=maxLen/\(a=none->cap=0) /\
 (xs=[]\/∃b off,a=some ⟨b,off,none⟩/\b<w.heap.size/\∀i,i<xs.length->w.cell? ⟨b,off+i,none⟩=some (.int .u8 (xs.getD i 0:Nat)))
theorem Rb.lim{w:World}{a:OA}{cap:Nat}{xs:LN}(h:Rb w a cap xs):Byt xs:=h.1
theorem Rb.le{w:World}{a:OA}{cap:Nat}{xs:LN}(h:Rb w a cap xs):xs.length<=cap:=h.2.1
theorem Rb.cap{w:World}{a:OA}{cap:Nat}{xs:LN}(h:Rb w a cap xs):cap<=maxLen:=h.2.2.1
def Fb(w:World)(a:OA)(xs:LN):Prop :=
 xs=[]\/∃b off,a=some ⟨b,off,none⟩/\b<w.heap.size/\∀i,i<xs.length->w.cell? ⟨b,off+i,none⟩=some (.int .u8 (xs.getD i 0:Nat))
theorem Rb.fm{w:World}{a:OA}{cap:Nat}{xs:LN}(h:Rb w a cap xs):Fb w a xs:=h.2.2.2.2
theorem Fb.at{w wr:World}{a:OA}{xs:LN}(h:Fb w a xs)(hb:Below w.heap.size w wr)(k:Nat)(hk:k<xs.length) :
 ∃b off,a=some ⟨b,off,none⟩/\b<w.heap.size/\wr.cell? ⟨b,off+k,none⟩=some (.int .u8 (xs.getD k 0:Nat)):=by
 rcases h with rfl|⟨b,off,h1,h2,h3⟩
 . simp at hk
 . exact⟨b,off,h1,h2,(hb.cell (p:=⟨b,off+k,none⟩) h2).trans (h3 k hk)⟩
theorem Rb.keep{w w':World}{a:OA}{cap:Nat}{xs:LN}(h:Rb w a cap xs)(hs:w.heap.size<=w'.heap.size)
    (hb:∀b,b<w.heap.size->(∃o,a=some ⟨b,o,none⟩)->w'.heap[b]?=w.heap[b]?):Rb w' a cap xs:=by
 obtain⟨h1,h2,h3,h5,h4⟩:=h;refine⟨h1,h2,h3,h5,?_⟩;rcases h4 with h4|⟨b,off,e,hb1,hc⟩
 . exact .inl h4
 . exact .inr ⟨b,off,e,qN hb1 hs,fun i hi=>(World.cell?_of_block (w:=w) (a:=⟨b,off+i,none⟩) (hb b hb1 ⟨off,e⟩)).trans (hc i hi)⟩
theorem Rb.below{w w':World}{a:OA}{cap:Nat}{xs:LN}(h:Rb w a cap xs)(hb:Below w.heap.size w w'):Rb w' a cap xs :=
 h.keep hb.size fun b hb1 _=>hb.block b hb1
theorem Rb.nil(w:World)(a:OA)(cap:Nat)(h:cap<=maxLen)(h0:a=none->cap=0):Rb w a cap []:=⟨Byt.nil,qD _,h,h0,.inl rfl⟩
def Rw(e:TypeId)(base:Nat)(w:World)(a:OA)(cap:Nat)(xs:LN):Prop :=
 Byt xs/\w.ownsRow base e 1 (.slice a xs.length cap) xs.length (xs.map Y)
theorem Rw.rd{e:TypeId}{base:Nat}{w:World}{a:OA}{cap:Nat}{xs:LN}(h:Rw e base w a cap xs):Rb w a cap xs:=by
 obtain⟨hl,h⟩:=h;rcases h.2 with ⟨hv,h0⟩|⟨g,cap',cur,hv,hb,hg,hc1,hc2,hc3,ht⟩
 . have:xs=[]:=List.length_eq_zero_iff.1 h0
   subst this;simp at hv;exact Rb.nil _ _ _ (by rw[hv.2];exact qD _) (fun _=>hv.2)
 . simp at hv
   obtain⟨rfl,rfl⟩:=hv;refine⟨hl,hc1,hc2,(by simp),.inr ⟨g,0,rfl,(Array.getElem?_eq_some_iff.1 hg).1,fun i hi=>?_⟩⟩;have:=h.cells (g:=g) rfl i (Y (xs.getD i 0)) (by simp[List.getD,hi]);have zdp:(⟨g,0,none⟩:Addr).add i=⟨g,0+i,none⟩:=(by unfold Addr.add;split <;> simp_all);rw[zdp]at this;exact this
theorem zjo{w:World}{base base':Nat}{e:TypeId}{size:Nat}{v:Value}{n:Nat}{xs:LV}(h:w.ownsRow base e size v n xs)(hb:base'<=base):w.ownsRow base' e size v n xs:=by
 refine⟨h.1,?_⟩;rcases h.2 with h0|⟨g,cap,cur,h1,h2,h3⟩
 . exact .inl h0
 . exact .inr ⟨g,cap,cur,h1,qF hb h2,h3⟩
theorem Rw.mono{e:TypeId}{base base':Nat}{w:World}{a:OA}{cap:Nat}{xs:LN}(h:Rw e base w a cap xs)(hb:base'<=base):Rw e base' w a cap xs:=⟨h.1,zjo h.2 hb⟩
theorem Rw.of{e:TypeId}{base:Nat}{w:World}{v:Value}{n:Nat}{xs:LN}(hl:Byt xs)(h:w.ownsRow base e 1 v n (xs.map Y)):∃a cap,v=.slice a xs.length cap/\Rw e base w a cap xs:=by
 have hn:n=xs.length:=by have:=h.1;simp at this;omega
 subst hn;rcases h.2 with ⟨hv,h0⟩|⟨g,cap,cur,hv,_⟩
 . exact⟨none,0,by rw[hv,h0],hl,by rw[h0]at h ⊢;rw[hv]at h;exact h⟩
 . subst hv;exact⟨_,cap,rfl,hl,h⟩
theorem zux{w:World}{g:Nat}{zs:LN}{e:TypeId}(h:w.heap[g]?=some (.cells (zs.map Y).toArray e (0,0)))(hl:Byt zs)(off n cap:Nat)(h1:off+n<=zs.length)(h2:n<=cap)(h3:cap<=maxLen) :
 Rb w (some ⟨g,off,none⟩) cap ((zs.drop off).take n):=by
 refine⟨(hl.drop off).take n,by simp;omega,h3,(by simp),.inr ⟨g,off,rfl,(Array.getElem?_eq_some_iff.1 h).1,fun i hi=>?_⟩⟩;simp at hi;rw[cell_of_row w g (off+i) _ e (0,0) h];simp[List.getD,Y,show off+i<zs.length by omega,show i<n by omega]
theorem zit(w:World)(e:TypeId)(zs:LN)(cs:Array Value)(hc:cs=(zs.map Y).toArray)(hl:Byt zs)(hm:zs.length<=maxLen):Rb (w.alloc (.cells cs e)) (some ⟨w.heap.size,0,none⟩) zs.length zs:=by
 subst hc;have:=zux (heap_alloc_new w (.cells (zs.map Y).toArray e)) hl 0 zs.length zs.length (by omega) (qE _) hm;simpa using this
theorem zhs(xs:LN):∀u∈xs.map Y,u.oneCell'=true:=by
 intro u hu;obtain⟨x,_,rfl⟩:=List.mem_map.1 hu;rfl
section
variable {P:Program} {w:World} {ops:Array Oper} {rest:List Oper} {o:Oper} {a:Act} {Q:Exit->Act->World->Prop}
theorem zas(hgd:o.guard=none)(s x:Operand)(t:TypeId)(ho:o.op=.call { callee:=.builtin .append,args:=#[s,x],argTypes:=#[t,t] })
    (base:Nat) (e:TypeId) (i:TypeInfo) (ht:P.underlying t=some (.slice e)) (hi:P.info? e=some i) (hz:i.zero=some (.int .u8 0)) (hsize:i.size=1) (hby:i.bytes=1)
    (v:Value) (n:Nat) (ys:LN) (hs:a.eval s=v) (hown:w.ownsRow base e 1 v n (ys.map Y))
    (ad:OA) (c m:Nat) (zs:LN) (hx:a.eval x=.slice ad m c) (hm:m=zs.length) (hrd:Rb w ad c zs) (hlen:n+zs.length<=2000000000) (hbase:base<=w.heap.size)
    (h:∀v' w',w'.ownsRow base e 1 v' (n+zs.length) ((ys++zs).map Y)->w.grownBy w' v.ownBlock->(v'.ownBlock=v.ownBlock\/v'.ownBlock=some w.heap.size)->wpList P ops Q rest (a.put o.dst v') w'):wpList P ops Q (o::rest) a w:=by
 subst hm;cases ad with
 | none =>
  have hc:c=0:=hrd.2.2.2.1 rfl;have hzs:zs=[]:=by
   rcases hrd.2.2.2.2 with h0|⟨b,off,e',_⟩
   . exact h0
   . cases e'
  subst hzs;subst hc;refine wpList_append_own_none hgd s x t ho base e i 1 ht hi v n (ys.map Y) hs hown hx (h v w (by simpa using hown) (World.grownBy.refl w _) (.inl rfl))
 | some ad =>
  refine wpList_append_own_at w hgd s x t ho base e i (.int .u8 0) 1 1 ht hi hz hsize hby rfl (by decide) v n (ys.map Y) hs hown ad zs.length c (zs.map Y) hx (by simp) ?_ (zhs zs) (by unfold maxLen;omega) (by omega) hbase ?_
  . intro j u hj
    rcases hrd.2.2.2.2 with rfl|⟨b,off,e',hb,hc⟩
    . simp at hj
    . simp at e';subst e'
      have hjl:j<zs.length:=by
       rcases Nat.lt_or_ge j zs.length with h1|h1
       . exact h1
       . rw[List.getElem?_eq_none (by simpa using h1)]at hj;cases hj
      have zdp:(⟨b,off,none⟩:Addr).add j=⟨b,off+j,none⟩:=(by unfold Addr.add;split <;> simp_all);rw[zdp,hc j hjl];rw[List.getElem?_map,qG hjl]at hj;simp at hj;rw[<-hj];simp[List.getD,hjl,Y]
  . intro v' w' h1 h2 _ h3
    exact h v' w' (by rw[List.map_append];exact h1) h2 h3
theorem zcf(hgd:o.guard=none)(s x:Operand)(t:TypeId)(ho:o.op=.call { callee:=.builtin .append,args:=#[s,x],argTypes:=#[t,t] })
    (base:Nat) (e:TypeId) (i:TypeInfo) (ht:P.underlying t=some (.slice e)) (hi:P.info? e=some i) (hz:i.zero=some (.int .u8 0)) (hsize:i.size=1) (hby:i.bytes=1)
    (v:Value) (n:Nat) (ys:LN) (hs:a.eval s=v) (hown:w.ownsRow base e 1 v n (ys.map Y))
    (g z:Nat) (hx:a.eval x=.slice (some ⟨g,0,none⟩) 1 1) (hc:w.cell? ⟨g,0,none⟩=some (.int .u8 (z:Int))) (hlen:n+1<=2000000000) (hbase:base<=w.heap.size)
    (h:∀v' w',w'.ownsRow base e 1 v' (n+1) ((ys++[z]).map Y)->w.grownBy w' v.ownBlock->(v'.ownBlock=v.ownBlock\/v'.ownBlock=some w.heap.size)->wpList P ops Q rest (a.put o.dst v') w'):wpList P ops Q (o::rest) a w:=by
 refine wpList_append_own_at w hgd s x t ho base e i (.int .u8 0) 1 1 ht hi hz hsize hby rfl (by decide) v n (ys.map Y) hs hown ⟨g,0,none⟩ 1 1 [Y z] hx rfl ?_ (zhs [z]) (by unfold maxLen;omega) (by omega) hbase ?_
 . intro j u hj
   match j,hj with
   | 0,hj=>simp at hj;subst hj;simpa [Addr.add,Y] using hc
 . intro v' w' h1 h2 _ h3
   exact h v' w' (by rw[List.map_append];exact h1) h2 h3
end
structure Keep(G:Nat->Prop)(w w':World):Prop where
 os:w'.os=w.os
 tape:w'.tape=w.tape
 output:w'.output=w.output
 size:w.heap.size<=w'.heap.size
 block:∀k,G k->w'.heap[k]?=w.heap[k]?
theorem Keep.refl(G:Nat->Prop)(w:World):Keep G w w:=⟨rfl,rfl,rfl,qE _,fun _ _=>rfl⟩
theorem Keep.trans{G:Nat->Prop}{a b c:World}(h:Keep G a b)(k:Keep G b c):Keep G a c :=
 ⟨k.os.trans h.os,k.tape.trans h.tape,k.output.trans h.output,qF h.size k.size,fun i hi=>(k.block i hi).trans (h.block i hi)⟩
theorem Keep.mono{G G':Nat->Prop}{w w':World}(h:Keep G w w')(hG:∀k,G' k->G k):Keep G' w w':=⟨h.os,h.tape,h.output,h.size,fun k hk=>h.block k (hG k hk)⟩
theorem Keep.of_below{G:Nat->Prop}{w w':World}{B:Nat}(h:Below B w w')(hG:∀k,G k->k<B):Keep G w w':=⟨h.os,h.tape,h.output,h.size,fun k hk=>h.block k (hG k hk)⟩
theorem Keep.below{G:Nat->Prop}{w w':World}{B:Nat}(h:Keep G w w')(hG:∀k,k<B->G k):Below B w w':=⟨h.os,h.tape,h.output,h.size,fun k hk=>h.block k (hG k hk)⟩
theorem Keep.alloc{G:Nat->Prop}{a w:World}(h:Keep G a w)(hG:∀k,G k->k<w.heap.size)(o:Obj):Keep G a (w.alloc o) :=
 h.trans (Keep.of_below ((Below.refl w.heap.size w).alloc (qE _) o) hG)
theorem Keep.setCell{G:Nat->Prop}{a w:World}(h:Keep G a w){p:Addr}(hp:¬G p.block)(u:Value):Keep G a (w.setCell p u) :=
 h.trans ⟨rfl,rfl,rfl,by simp[World.setCell],fun k hk=>Below.heap_setCell _ _ _ _ (fun e=>hp (e ▸ hk))⟩
theorem Keep.grown{G:Nat->Prop}{a w w':World}{row:Option Nat}(h:Keep G a w)(hg:w.grownBy w' row)(hG:∀k,G k->k<w.heap.size)(hr:∀k,row=some k->¬G k):Keep G a w' :=
 h.trans ⟨hg.os,hg.tape,hg.output,hg.size,fun k hk=>hg.block k (hG k hk) (fun e=>hr k e.symm hk)⟩
theorem Keep.cell{G:Nat->Prop}{w w':World}(h:Keep G w w'){p:Addr}(hp:G p.block):w'.cell? p=w.cell? p:=World.cell?_of_block (w:=w) (h.block p.block hp)
theorem Rb.kept{G:Nat->Prop}{w w':World}{a:OA}{cap:Nat}{xs:LN}(h:Rb w a cap xs)(hk:Keep G w w')(hG:∀b o,a=some ⟨b,o,none⟩->G b):Rb w' a cap xs :=
 h.keep hk.size fun b _ ⟨o,e⟩=>hk.block b (hG b o e)
def I64(n:Int):Prop:=-9223372036854775808<=n/\n<=9223372036854775807
theorem zaa{a b:Bool}(h:a=b):Ending.returned (.bool a)=.returned (.bool b):=by rw[h]
theorem bl1{w:World}(o:Obj):Below w.heap.size w (w.alloc o):=(Below.refl _ _).alloc (qE _) o
theorem bl2{w:World}(o o':Obj):Below w.heap.size w ((w.alloc o).alloc o'):=(bl1 o).alloc (by simp) o'
def fdB(n:Int):Bool:=decide (-32768<=n/\n<=32767)
theorem zbc{n:Int}:fdB n=true ↔ -32768<=n/\n<=32767:=by unfold fdB;exact qM
open Go.Maps
structure St where
 bs:LN
 ws:LI
 no:Bool
def Wf(s:St):Prop:=Byt s.bs/\s.ws.Nodup/\(∀x∈s.ws,0<=x/\x+4<=(s.bs.length:Int))/\4*s.ws.length<=s.bs.length
def St.zero:St:=⟨[],[],false⟩
def St.fail(s:St):St:={ s with no:=true }
def St.app(s:St)(xs:LN):St:=if s.no then s else { s with bs:=s.bs++xs }
theorem Wf.zero:Wf St.zero:=⟨Byt.nil,List.nodup_nil,(fun x hx=>by cases hx),qE _⟩
theorem Wf.fail{s:St}(h:Wf s):Wf s.fail:=h
theorem Wf.app{s:St}(h:Wf s){xs:LN}(hx:Byt xs):Wf (s.app xs):=by
 unfold St.app;split
 . exact h
 . exact⟨h.1.append hx,h.2.1,fun x hxs=>by have:=h.2.2.1 x hxs;simp;omega,by have:=h.2.2.2;simp;omega⟩
theorem St.app_bad{s:St}(h:s.no=true)(xs:LN):s.app xs=s:=by simp[St.app,h]
theorem St.app_ok{s:St}(h:s.no=false)(xs:LN):s.app xs={ s with bs:=s.bs++xs }:=by simp[St.app,h]
theorem St.app_no(s:St)(xs:LN):(s.app xs).no=s.no:=by unfold St.app;split <;> rfl
def Row(w:World)(G:Nat->Prop)(v:Value)(xs:LN):Prop :=
 w.ownsRow 0 5 1 v xs.length (xs.map Y)/\∀g,v.ownBlock=some g->¬G g
def Wts(w:World)(G:Nat->Prop)(v:Value)(ws:LI):Prop :=
 (v=.map none/\ws=[])\/∃m D,v=.map (some m)/\¬G m/\w.ownsMap Tryz.prog 3 (unitElem (H:=Unit)) m ws.length D /\
  (∀x:Int,Maps.has D (.int .i64 x)=decide (x∈ws))/\Maps.size D=ws.length
def Bx4(w:World)(B:Nat)(a b c d:Value):Prop:=w.heap[B]?=some (.cells #[a,b,c,d] 90 (0,0))
def Pc(w:World)(B:Nat)(G:Nat->Prop)(s:St):Prop :=
 (∀k,G k->k<w.heap.size)/\¬G B/\Wf s/\∃vb vm,Bx4 w B vb (.int .i64 (s.bs.length:Int)) vm (.bool s.no)/\(s.no=true->vm=.map none)/\(s.no=false->Row w G vb s.bs/\Wts w G vm s.ws)
theorem Bx4.lt{w:World}{B:Nat}{a b c d:Value}(h:Bx4 w B a b c d):B<w.heap.size:=(Array.getElem?_eq_some_iff.1 h).1
theorem Bx4.cells{w:World}{B:Nat}{a b c d:Value}(h:Bx4 w B a b c d) :
 w.cell? ⟨B,0,none⟩=some a/\w.cell? ⟨B,1,none⟩=some b/\w.cell? ⟨B,2,none⟩=some c/\w.cell? ⟨B,3,none⟩=some d /\
    w.frozen? ⟨B,0,none⟩=false/\w.frozen? ⟨B,1,none⟩=false/\w.frozen? ⟨B,2,none⟩=false/\w.frozen? ⟨B,3,none⟩=false :=
 ⟨cell_of_row w B 0 _ _ (0,0) h,cell_of_row w B 1 _ _ (0,0) h,cell_of_row w B 2 _ _ (0,0) h,cell_of_row w B 3 _ _ (0,0) h,frozen_of_row w B 0 _ _ h,frozen_of_row w B 1 _ _ h,frozen_of_row w B 2 _ _ h,frozen_of_row w B 3 _ _ h⟩
theorem Bx4.set0{w:World}{B:Nat}{a b c d:Value}(h:Bx4 w B a b c d)(x:Value):Bx4 (w.setCell ⟨B,0,none⟩ x) B x b c d:=heap_setCell_same w B 0 _ _ x h
theorem Bx4.set1{w:World}{B:Nat}{a b c d:Value}(h:Bx4 w B a b c d)(x:Value):Bx4 (w.setCell ⟨B,1,none⟩ x) B a x c d:=heap_setCell_same w B 1 _ _ x h
theorem Bx4.set2{w:World}{B:Nat}{a b c d:Value}(h:Bx4 w B a b c d)(x:Value):Bx4 (w.setCell ⟨B,2,none⟩ x) B a b x d:=heap_setCell_same w B 2 _ _ x h
theorem Bx4.set3{w:World}{B:Nat}{a b c d:Value}(h:Bx4 w B a b c d)(x:Value):Bx4 (w.setCell ⟨B,3,none⟩ x) B a b c x:=heap_setCell_same w B 3 _ _ x h
theorem Rb.off{w:World}{B:Nat}{x0 x1 x2 x3:Value}(hB:Bx4 w B x0 x1 x2 x3)(h0:∀z,x0≠.int .u8 z)(h1:∀z,x1≠.int .u8 z)(h2:∀z,x2≠.int .u8 z)(h3:∀z,x3≠.int .u8 z)
    {w':World} {a:OA} {cap:Nat} {xs:LN} (h:Rb w a cap xs) (hs:w.heap.size<=w'.heap.size) (hw:∀k,k<w.heap.size->k≠B->w'.heap[k]?=w.heap[k]?):Rb w' a cap xs:=by
 obtain⟨k1,k2,k3,k5,k4⟩:=h;refine⟨k1,k2,k3,k5,?_⟩;by_cases hx:xs=[]
 . exact .inl hx
 rcases k4 with k4|⟨g,off,e,hg,hc⟩
 . exact .inl k4
 . refine .inr ⟨g,off,e,qN hg hs,fun i hi=>?_⟩
   have hne:g≠B:=by
    rintro rfl;have hc0:=hc 0 (List.length_pos_iff.2 hx);have hb:=cell_of_row w g (off+0) _ _ (0,0) hB;rw[hc0]at hb
    match off,hb with
    | 0,hb=>simp at hb;exact h0 _ hb.symm
    | 1,hb=>simp at hb;exact h1 _ hb.symm
    | 2,hb=>simp at hb;exact h2 _ hb.symm
    | 3,hb=>simp at hb;exact h3 _ hb.symm
    | (k+4),hb=>simp at hb
   exact(World.cell?_of_block (w:=w) (a:=⟨g,off+i,none⟩) (hw g hg hne)).trans (hc i hi)
theorem Row.stay{w w':World}{G:Nat->Prop}{v:Value}{xs:LN}(h:Row w G v xs)(hb:∀k,k<w.heap.size->¬G k->w'.heap[k]?=w.heap[k]?):Row w' G v xs:=by
 obtain⟨⟨h1,h2⟩,hG⟩:=h;refine⟨⟨h1,?_⟩,hG⟩;rcases h2 with h2|⟨g,cap,cur,e,h3,h4,h5⟩
 . exact .inl h2
 . exact .inr ⟨g,cap,cur,e,h3,(hb g (Array.getElem?_eq_some_iff.1 h4).1 (hG g (by rw[e];rfl))).trans h4,h5⟩
theorem Row.ne{w:World}{G:Nat->Prop}{v:Value}{xs:LN}(h:Row w G v xs){B:Nat}{cs:Array Value}{t:TypeId}{f:Nat×Nat}(hB:w.heap[B]?=some (.cells cs t f))(ht:t≠5):v.ownBlock≠some B:=by
 obtain⟨⟨h1,h2⟩,hG⟩:=h;rcases h2 with ⟨rfl,_⟩|⟨g,cap,cur,rfl,h3,h4,h5⟩
 . intro e;cases e
 . intro e
   simp only[Value.ownBlock,Option.some.injEq]at e;subst e;rw[h4]at hB;simp at hB;exact ht hB.2.1.symm
theorem Row.ne_map{w:World}{G:Nat->Prop}{v:Value}{xs:LN}(h:Row w G v xs){m:Nat}{es:Array MapEntry}{c:Nat}(hB:w.heap[m]?=some (.map es c)):v.ownBlock≠some m:=by
 obtain⟨⟨h1,h2⟩,hG⟩:=h;rcases h2 with ⟨rfl,_⟩|⟨g,cap,cur,rfl,h3,h4,h5⟩
 . intro e;cases e
 . intro e
   simp only[Value.ownBlock,Option.some.injEq]at e;subst e;rw[h4]at hB;simp at hB
theorem Row.off{w w':World}{G:Nat->Prop}{v:Value}{xs:LN}(h:Row w G v xs){B:Nat}{cs:Array Value}{t:TypeId}{f:Nat×Nat}(hB:w.heap[B]?=some (.cells cs t f))(ht:t≠5)
    (hb:∀k,k<w.heap.size->k≠B->w'.heap[k]?=w.heap[k]?):Row w' G v xs:=by
 have hne:=h.ne hB ht;obtain⟨⟨h1,h2⟩,hG⟩:=h;refine⟨⟨h1,?_⟩,hG⟩;rcases h2 with h2|⟨g,cap,cur,e,h3,h4,h5⟩
 . exact .inl h2
 . exact .inr ⟨g,cap,cur,e,h3,(hb g (Array.getElem?_eq_some_iff.1 h4).1 (fun e'=>hne (by rw[e,<-e'];rfl))).trans h4,h5⟩
theorem Row.slice{w:World}{G:Nat->Prop}{v:Value}{xs:LN}(h:Row w G v xs):∃a c,v=.slice a xs.length c:=by
 rcases h.1.2 with ⟨e,h0⟩|⟨g,cap,cur,e,_⟩
 . exact⟨none,0,by rw[e,h0]⟩
 . exact⟨_,cap,e⟩
theorem Row.no8{w:World}{G:Nat->Prop}{v:Value}{xs:LN}(h:Row w G v xs)(z:Int):v≠.int .u8 z:=by
 obtain⟨a,c,rfl⟩:=h.slice;intro e;cases e
theorem Wts.no8{w:World}{G:Nat->Prop}{v:Value}{ws:LI}(h:Wts w G v ws)(z:Int):v≠.int .u8 z:=by
 rcases h with ⟨rfl,_⟩|⟨m,D,rfl,_⟩ <;> (intro e;cases e)
theorem Wts.off{w w':World}{G:Nat->Prop}{v:Value}{ws:LI}(h:Wts w G v ws){B:Nat}(hB:∀es c,w.heap[B]?≠some (.map es c))
    (hb:∀k,k<w.heap.size->k≠B->w'.heap[k]?=w.heap[k]?):Wts w' G v ws:=by
 rcases h with h|⟨m,D,e,hG,ho,h1,h2⟩
 . exact .inl h
 . have hlt:=ho.lt
   obtain⟨es,clock,hb0,F,hs,hD⟩:=ho;exact .inr ⟨m,D,e,hG,⟨es,clock,(hb m hlt (fun e'=>hB es clock (e' ▸ hb0))).trans hb0,F,hs,hD⟩,h1,h2⟩
theorem Bx4.no_map{w:World}{B:Nat}{a b c d:Value}(h:Bx4 w B a b c d)(es:Array MapEntry)(k:Nat):w.heap[B]?≠some (.map es k):=by
 rw[h];intro e;simp at e
theorem Wts.grown{w w':World}{G:Nat->Prop}{v:Value}{ws:LI}(h:Wts w G v ws){G':Nat->Prop}{u:Value}{xs:LN}(hr:Row w G' u xs)(hg:w.grownBy w' u.ownBlock):Wts w' G v ws:=by
 rcases h with h|⟨m,D,e,hG,ho,h1,h2⟩
 . exact .inl h
 . have hlt:=ho.lt
   obtain⟨es,clock,hb0,F,hs,hD⟩:=ho;exact .inr ⟨m,D,e,hG,⟨es,clock,(hg.block m hlt (Ne.symm (hr.ne_map hb0))).trans hb0,F,hs,hD⟩,h1,h2⟩
theorem Bx4.grown{w w':World}{B:Nat}{a b c d:Value}(h:Bx4 w B a b c d){G':Nat->Prop}{u:Value}{xs:LN}(hr:Row w G' u xs)(hg:w.grownBy w' u.ownBlock):Bx4 w' B a b c d :=
 (hg.block B h.lt (Ne.symm (hr.ne h (by decide)))).trans h
theorem Wts.stay{w w':World}{G:Nat->Prop}{v:Value}{ws:LI}(h:Wts w G v ws)(hb:∀k,k<w.heap.size->¬G k->w'.heap[k]?=w.heap[k]?):Wts w' G v ws:=by
 rcases h with h|⟨m,D,e,hG,ho,h1,h2⟩
 . exact .inl h
 . have hlt:=ho.lt
   obtain⟨es,clock,hb0,F,hs,hD⟩:=ho;exact .inr ⟨m,D,e,hG,⟨es,clock,(hb m hlt hG).trans hb0,F,hs,hD⟩,h1,h2⟩
theorem Pc.stay{w w':World}{B:Nat}{G:Nat->Prop}{s:St}(h:Pc w B G s)(hs:w.heap.size<=w'.heap.size)(hb:∀k,k<w.heap.size->¬G k->w'.heap[k]?=w.heap[k]?):Pc w' B G s:=by
 obtain⟨h1,h2,h3,vb,vm,h4,h6,h5⟩:=h;exact⟨fun k hk=>qN (h1 k hk) hs,h2,h3,vb,vm,(hb B h4.lt h2).trans h4,h6,fun hn=>⟨(h5 hn).1.stay hb,(h5 hn).2.stay hb⟩⟩
theorem Pc.below{w w':World}{B:Nat}{G:Nat->Prop}{s:St}(h:Pc w B G s)(hb:Below w.heap.size w w'):Pc w' B G s:=h.stay hb.size fun k hk _=>hb.block k hk
theorem Pc.guard{w:World}{B:Nat}{G G':Nat->Prop}{s:St}(h:Pc w B G s)(hG:∀k,G' k->k<w.heap.size/\G k):Pc w B G' s:=by
 obtain⟨h1,h2,h3,vb,vm,h4,h6,h5⟩:=h;refine⟨fun k hk=>(hG k hk).1,fun hB=>h2 (hG _ hB).2,h3,vb,vm,h4,h6,fun hn=>⟨⟨(h5 hn).1.1,fun g hg hg'=>(h5 hn).1.2 g hg (hG _ hg').2⟩,?_⟩⟩;rcases (h5 hn).2 with h|⟨m,D,e,hG2,r⟩
 . exact .inl h
 . exact .inr ⟨m,D,e,fun hm=>hG2 (hG _ hm).2,r⟩
theorem Pc.guard_new{w w':World}{B:Nat}{G G':Nat->Prop}{s:St}(h:Pc w B G s)(hs:w.heap.size<=w'.heap.size)(hb:∀k,k<w.heap.size->¬G k->w'.heap[k]?=w.heap[k]?)(hG:∀k,G' k->k<w'.heap.size/\(k<w.heap.size->G k)):Pc w' B G' s:=by
 have h':=h.stay hs hb;obtain⟨h1,h2,h3,vb,vm,h4,h6,h5⟩:=h;refine⟨fun k hk=>(hG k hk).1,fun hB=>h2 ((hG _ hB).2 h4.lt),h3,vb,vm,(hb B h4.lt h2).trans h4,h6,fun hn=>⟨⟨((h5 hn).1.stay hb).1,fun g hg hg'=>(h5 hn).1.2 g hg ((hG _ hg').2 ((h5 hn).1.1.lt g hg).2)⟩,?_⟩⟩;rcases (h5 hn).2 with h|⟨m,D,e,hG2,ho,r⟩
 . exact .inl h
 . have hlt:=ho.lt
   rcases ((h5 hn).2).stay hb with h|⟨m',D',e',hG2',r'⟩
   . exact .inl h
   . rw[e]at e'
     simp at e';subst e';exact .inr ⟨m,D',e,fun hm=>hG2 ((hG _ hm).2 hlt),r'⟩
theorem zca:(Tryz.prog.info? 5).map (fun i=>(i.zero,i.size,i.bytes))=some (some (.int .u8 0),1,1):=by kernel_rfl
abbrev pg (B:Nat):Value:=.pointer (some ⟨B,0,none⟩)
theorem zpx(B:Nat)(G:Nat->Prop)(s:St)(w:World)(h:Pc w B G s)(hl:s.bs.length<=1048576) :
 Calls Tryz.prog 126 #[pg B] w fun e w'=>e=.returned (.bool s.no)/\w=w':=by
 obtain⟨h1,h2,h3,vb,vm,h4,h6,h5⟩:=h;obtain⟨c0,c1,c2,c3,f0,f1,f2,f3⟩:=h4.cells;generalize s.no=n at *;generalize s.bs.length=l at *;clear h5 h6 h4 h3 h2 h1;cases n
 . go_enter func126,ntmps126
   go_wp2;go_ret;exact⟨zaa (by simp;try omega),rfl⟩
 . go_enter func126,ntmps126
   go_wp2;go_ret;exact⟨zaa (by simp;try omega),rfl⟩
theorem zj0(B:Nat)(G:Nat->Prop)(s:St)(w:World)(h:Pc w B G s) :
 Calls Tryz.prog 75 #[pg B] w fun e w'=>e=.returned (.tuple #[])/\Pc w' B G s.fail/\Keep G w w':=by
 obtain⟨h1,h2,h3,vb,vm,h4,h6,h5⟩:=h;obtain⟨c0,c1,c2,c3,f0,f1,f2,f3⟩:=h4.cells;go_enter func75,ntmps75;go_wp2
 go_end0
 refine⟨rfl,⟨fun k hk=>by simpa [World.setCell] using h1 k hk,h2,h3.fail,_,_,((h4.set3 _).set0 _).set2 _,fun _=>rfl,fun hn=>by cases hn⟩,?_⟩;exact(((Keep.refl G w).setCell (p:=⟨B,3,none⟩) h2 _).setCell (p:=⟨B,0,none⟩) h2 _).setCell (p:=⟨B,2,none⟩) h2 _
theorem zjj(B:Nat)(G:Nat->Prop)(s:St)(a:OA)(cap:Nat)(xs:LN)(w:World)(h:Pc w B G s)(hr:Rb w a cap xs)(hl:s.bs.length+xs.length<=1048576) :
 Calls Tryz.prog 76 #[pg B,.slice a xs.length cap] w fun e w'=>e=.returned (.tuple #[])/\Pc w' B G (s.app xs)/\Keep G w w':=by
 obtain⟨i0,hi,hz0,hz1,hz2⟩:=info_parts zca;have hP:=h;obtain⟨h1,h2,h3,vb,vm,h4,h6,h5⟩:=h;go_enter func76,ntmps76;go_wp2_with fail
 refine(zpx B G s _ hP (by omega)).mono ?_;rintro e u ⟨rfl,rfl⟩;by_cases hno:s.no=true
 . rw[hno]
   go_wp2
   (try simp only[Exit.inBlock,Exit.then]);refine bodyPost_ret (results_none rfl _ _ _) rfl ?_
   exact⟨rfl,by rw[St.app_bad hno];exact hP,Keep.refl _ _⟩
 . have hno:s.no=false:=by simpa using hno
   rw[hno];obtain⟨hR,hM⟩:=h5 hno;obtain⟨c0,c1,c2,c3,f0,f1,f2,f3⟩:=h4.cells;obtain⟨l,hll⟩:∃l,s.bs.length=l:=⟨_,rfl⟩;rw[hll]at c1 h4;have HL:Hid (s.bs.length=l):=hll;have hl':l+xs.length<=1048576:=(by omega);clear hll hl;have z14:∀(u:World) (v:Value) (o:Nat),∀k,k<u.heap.size->k≠B->(u.setCell ⟨B,o,none⟩ v).heap[k]?=u.heap[k]?:=fun u v o k _ hk=>Below.heap_setCell _ ⟨B,o,none⟩ v k hk;have h41:=h4.set1 (.int .i64 ((l:Int)+xs.length));have hR1:=hR.off h4 (by decide) (z14 w (.int .i64 ((l:Int)+xs.length)) 1);have hM1:=hM.off h4.no_map (z14 w (.int .i64 ((l:Int)+xs.length)) 1);have hr1:=Rb.off h4 hR.no8 (by simp) hM.no8 (by simp) hr (by simp[World.setCell]) (z14 w (.int .i64 ((l:Int)+xs.length)) 1);have hK1:Keep G w (w.setCell ⟨B,1,none⟩ (.int .i64 ((l:Int)+xs.length))):=(Keep.refl G w).setCell (p:=⟨B,1,none⟩) h2 _;have hsz:(w.setCell ⟨B,1,none⟩ (.int .i64 ((l:Int)+xs.length))).heap.size=w.heap.size:=(by simp[World.setCell]);clear h4 hP hr hM h5 h6;go_wp2_with (at_builtin;refine zas rfl _ _ 42 rfl 0 5 i0 underlying42 hi hz0 hz1 hz2 _ s.bs.length s.bs rfl hR1.1 a cap _ xs rfl rfl hr1 (by rw[HL.out];omega) (qD _) ?_)
   intro v' w1 hown hgrow hat;obtain⟨ts,hts⟩:∃ts,s.bs++xs=ts:=⟨_,rfl⟩;have htl:s.bs.length+xs.length=ts.length:=(by rw[<-hts,qA]);rw[<-List.map_append,hts,htl]at hown;have HT:Hid (s.bs++xs=ts):=hts;have HT2:Hid (s.bs.length+xs.length=ts.length):=htl;have hBt:Byt ts:=hts ▸ h3.1.append hr1.lim;clear hts htl;have h42:=h41.grown hR1 hgrow;obtain⟨a2,cap2,rfl,_⟩:=Rw.of hBt hown;obtain⟨d0,d1,d2,d3,g0,g1,g2,g3⟩:=h42.cells;go_wp2
   go_end0
   have hM2:=hM1.grown hR1 hgrow;have hnG:∀g,(Value.slice a2 ts.length cap2).ownBlock=some g->¬G g:=by
    intro g hg hGg;rcases hat with hat|hat
    . exact hR.2 g (by rw[<-hat];exact hg) hGg
    . rw[hat]at hg
      have:=h1 g hGg;simp at hg;omega
   have hR2:Row w1 G (.slice a2 ts.length cap2) ts:=⟨hown,hnG⟩;have hR3:=hR2.off h42 (by decide) (z14 w1 (.slice a2 ts.length cap2) 0);have hK2:=(hK1.grown hgrow (fun k hk=>by rw[hsz];exact h1 k hk) (fun k hk=>hR.2 k hk)).setCell (p:=⟨B,0,none⟩) h2 (.slice a2 ts.length cap2);refine⟨rfl,⟨fun k hk=>?_,h2,h3.app hr1.lim,.slice a2 ts.length cap2,vm,?_,fun hn=>absurd hn (by rw[St.app_no,hno];decide),fun _=>?_⟩,hK2⟩
   . exact qN (h1 k hk) hK2.size
   . have h43:=h42.set0 (.slice a2 ts.length cap2)
     rw[St.app_ok hno];simp only[HT.out,<-HT2.out,HL.out];simpa [<-HT2.out,HL.out] using h43
   . rw[St.app_ok hno,HT.out]
     exact⟨hR3,hM2.off h42.no_map (z14 w1 (.slice a2 ts.length cap2) 0)⟩
def be1(n:Int):LN:=[(n%256).toNat]
def be2(n:Int):LN:=[(n/256%256).toNat,(n%256).toNat]
def be4(n:Int):LN:=[(n/16777216%256).toNat,(n/65536%256).toNat,(n/256%256).toNat,(n%256).toNat]
theorem zj9(n:Int):Byt (be1 n):=by intro x hx;simp[be1]at hx;omega
theorem zb4(n:Int):Byt (be2 n):=by intro x hx;simp[be2]at hx;omega
theorem ztt(n:Int):Byt (be4 n):=by intro x hx;simp[be4]at hx;omega
def St.put8(s:St)(n:Int):St:=if -128<=n/\n<=255 then s.app (be1 n)else s.fail
def St.put16(s:St)(n:Int):St:=if -32768<=n/\n<=65535 then s.app (be2 n)else s.fail
def St.put32(s:St)(n:Int):St:=if -2147483648<=n/\n<=4294967295 then s.app (be4 n)else s.fail
theorem zs4(n:Int)(w:World)(hn:I64 n) :
 Calls Tryz.prog 74 #[.int .i64 n,.int .i64 8] w fun e w'=>e=.returned (.bool (decide (-128<=n/\n<=255)))/\w=w':=by
 obtain⟨n1,n2⟩:=hn;by_cases h:-128<=n
 . go_enter func74,ntmps74
   go_wp2;go_ret;refine⟨zaa ?_,rfl⟩;by_cases h2:n<=255
   . simp[h,h2];try omega
   . simp[h,h2];try omega
 . go_enter func74,ntmps74
   go_wp2;go_ret;exact⟨zaa (by simp[h];try omega),rfl⟩
theorem zpp(n:Int)(w:World)(hn:I64 n) :
 Calls Tryz.prog 74 #[.int .i64 n,.int .i64 16] w fun e w'=>e=.returned (.bool (decide (-32768<=n/\n<=65535)))/\w=w':=by
 obtain⟨n1,n2⟩:=hn;by_cases h:-32768<=n
 . go_enter func74,ntmps74
   go_wp2;go_ret;refine⟨zaa ?_,rfl⟩;by_cases h2:n<=65535
   . simp[h,h2];try omega
   . simp[h,h2];try omega
 . go_enter func74,ntmps74
   go_wp2;go_ret;exact⟨zaa (by simp[h];try omega),rfl⟩
theorem zpo(n:Int)(w:World)(hn:I64 n) :
 Calls Tryz.prog 74 #[.int .i64 n,.int .i64 32] w fun e w'=>e=.returned (.bool (decide (-2147483648<=n/\n<=4294967295)))/\w=w':=by
 obtain⟨n1,n2⟩:=hn;by_cases h:-2147483648<=n
 . go_enter func74,ntmps74
   go_wp2;go_ret;refine⟨zaa ?_,rfl⟩;by_cases h2:n<=4294967295
   . simp[h,h2];try omega
   . simp[h,h2];try omega
 . go_enter func74,ntmps74
   go_wp2;go_ret;exact⟨zaa (by simp[h];try omega),rfl⟩
theorem zvu(n:Int)(w:World)(hn:I64 n) :
 Calls Tryz.prog 190 #[.int .i64 n] w fun e w'=>∃a cap,e=.returned (.slice a (be4 n).length cap)/\Rb w' a cap (be4 n)/\Below w.heap.size w w':=by
 obtain⟨n1,n2⟩:=hn;go_enter func190,ntmps190;go_wp2;go_ret;refine⟨_,_,rfl,zit w 5 (be4 n) _ ?_ (ztt n) (by simp[be4,maxLen]),bl1 _⟩;simp only[be4,List.map_cons,List.map_nil,Y];simp;omega
theorem Pc.al{w:World}{B:Nat}{G:Nat->Prop}{s:St}(h:Pc w B G s)(o:Obj):Pc (w.alloc o) B G s:=h.below (bl1 o)
theorem Pc.kal{w:World}{B:Nat}{G:Nat->Prop}{s:St}(h:Pc w B G s)(o:Obj):Keep G w (w.alloc o):=Keep.of_below (bl1 o) h.1
theorem zat(B:Nat)(G:Nat->Prop)(s:St)(n:Int)(w:World)(h:Pc w B G s)(hn:I64 n)(hl:s.bs.length+4<=1048576) :
 Calls Tryz.prog 80 #[pg B,.int .i64 n] w fun e w'=>e=.returned (.tuple #[])/\Pc w' B G (s.put8 n)/\Keep G w w':=by
 have hn':=hn;obtain⟨n1,n2⟩:=hn';go_enter func80,ntmps80;go_wp2_with fail
 refine(zs4 n _ hn).mono ?_;rintro e u ⟨rfl,rfl⟩;by_cases hf:-128<=n/\n<=255
 . rw[qC hf]
   have hs:Hid (s.put8 n=s.app (be1 n)):=if_pos hf;go_wp2_with fail
   refine(zjj B G s (some ⟨w.heap.size,0,none⟩) 1 (be1 n) _ (h.al _) (zit w 5 (be1 n) #[Value.int IntKind.u8 (n%256)] (by simp[be1,Y];omega) (zj9 n) (by simp[be1,maxLen])) (by simp[be1];omega)).mono ?_;rintro e u ⟨rfl,hP,hK⟩;go_wp2
   go_end0
   exact⟨rfl,hs.out ▸ hP,(h.kal _).trans hK⟩
 . rw[qB hf]
   have hs:Hid (s.put8 n=s.fail):=if_neg hf;go_wp2_with fail
   refine(zj0 B G s _ h).mono ?_;rintro e u ⟨rfl,hP,hK⟩;go_wp2
   (try simp only[Exit.inBlock,Exit.then]);refine bodyPost_ret (results_none rfl _ _ _) rfl ?_
   exact⟨rfl,hs.out ▸ hP,hK⟩
theorem zap(B:Nat)(G:Nat->Prop)(s:St)(n:Int)(w:World)(h:Pc w B G s)(hn:I64 n)(hl:s.bs.length+4<=1048576) :
 Calls Tryz.prog 41 #[pg B,.int .i64 n] w fun e w'=>e=.returned (.tuple #[])/\Pc w' B G (s.put16 n)/\Keep G w w':=by
 have hn':=hn;obtain⟨n1,n2⟩:=hn';go_enter func41,ntmps41;go_wp2_with fail
 refine(zpp n _ hn).mono ?_;rintro e u ⟨rfl,rfl⟩;by_cases hf:-32768<=n/\n<=65535
 . rw[qC hf]
   have hs:Hid (s.put16 n=s.app (be2 n)):=if_pos hf;go_wp2_with fail
   refine(zjj B G s (some ⟨w.heap.size,0,none⟩) 2 (be2 n) _ (h.al _) (zit w 5 (be2 n) #[Value.int IntKind.u8 (n/256%256),Value.int IntKind.u8 (n%256)] (by simp[be2,Y];omega) (zb4 n) (by simp[be2,maxLen])) (by simp[be2];omega)).mono ?_;rintro e u ⟨rfl,hP,hK⟩;go_wp2
   go_end0
   exact⟨rfl,hs.out ▸ hP,(h.kal _).trans hK⟩
 . rw[qB hf]
   have hs:Hid (s.put16 n=s.fail):=if_neg hf;go_wp2_with fail
   refine(zj0 B G s _ h).mono ?_;rintro e u ⟨rfl,hP,hK⟩;go_wp2
   (try simp only[Exit.inBlock,Exit.then]);refine bodyPost_ret (results_none rfl _ _ _) rfl ?_
   exact⟨rfl,hs.out ▸ hP,hK⟩
theorem zrq(B:Nat)(G:Nat->Prop)(s:St)(n:Int)(w:World)(h:Pc w B G s)(hn:I64 n)(hl:s.bs.length+4<=1048576) :
 Calls Tryz.prog 136 #[pg B,.int .i64 n] w fun e w'=>e=.returned (.tuple #[])/\Pc w' B G (s.put32 n)/\Keep G w w':=by
 go_enter func136,ntmps136;go_wp2_with fail
 refine(zpo n _ hn).mono ?_;rintro e u ⟨rfl,rfl⟩;by_cases hf:-2147483648<=n/\n<=4294967295
 . rw[qC hf]
   have hs:Hid (s.put32 n=s.app (be4 n)):=if_pos hf;go_wp2_with fail
   refine(zvu n _ hn).mono ?_;rintro e u ⟨a,cap,rfl,hr,hb⟩;go_wp2_with fail
   refine(zjj B G s a cap (be4 n) _ (h.below hb) hr (by simp[be4];omega)).mono ?_;rintro e u2 ⟨rfl,hP,hK⟩;go_wp2
   go_end0
   exact⟨rfl,hs.out ▸ hP,(Keep.of_below hb h.1).trans hK⟩
 . rw[qB hf]
   have hs:Hid (s.put32 n=s.fail):=if_neg hf;go_wp2_with fail
   refine(zj0 B G s _ h).mono ?_;rintro e u ⟨rfl,hP,hK⟩;go_wp2
   (try simp only[Exit.inBlock,Exit.then]);refine bodyPost_ret (results_none rfl _ _ _) rfl ?_
   exact⟨rfl,hs.out ▸ hP,hK⟩
theorem zdn(B:Nat)(G:Nat->Prop)(s:St)(a:OA)(cap:Nat)(xs:LN)(w:World)(h:Pc w B G s)(hr:Rb w a cap xs)(hl:s.bs.length+xs.length<=1048576) :
 Calls Tryz.prog 137 #[pg B,.slice a xs.length cap] w fun e w'=>e=.returned (.tuple #[])/\Pc w' B G (s.app xs)/\Keep G w w':=by
 go_enter func137,ntmps137;go_wp2_with fail
 refine(zjj B G s a cap xs _ h hr hl).mono ?_;rintro e u2 ⟨rfl,hP,hK⟩;go_wp2
 go_end0
 exact⟨rfl,hP,hK⟩
def sb(t:ByteArray):LN:=t.data.toList.map UInt8.toNat
def okb(xs:LN):Bool:=xs.all (fun x=>decide (32<=x)&&decide (x<=126))
def gd(xs:LN):Bool:=xs.length==4&&okb xs
