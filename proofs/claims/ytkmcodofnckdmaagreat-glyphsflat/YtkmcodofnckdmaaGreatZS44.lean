import Derived.Test.YtkmcodofnckdmaaGreatZS43
set_option maxHeartbeats 16000000
set_option maxRecDepth 100000
set_option linter.unusedSimpArgs false
set_option linter.unusedVariables false
namespace Go.Proofs.YtkmcodofnckdmaaGreat
open Go.RowKit Go.Maps
structure AtP(l:List Gl)(cs:List Int)(g:Int)(w:World)(e:Ending)(w':World):Prop where
 ans:∃a1 c1,e=.returned (.tuple #[.slice a1 (flG l cs 6 g).1.length c1,.int .i64 (flG l cs 6 g).2])/\Gw PnE.row 63 w.heap.size (fun k=>w.heap.size<=k) w' (.slice a1 (flG l cs 6 g).1.length c1) (flG l cs 6 g).1
 bl:Below w.heap.size w w'
theorem zpr(S:Nat->Prop)(a:Option Addr)(ca:Nat)(l:List Gl)(pa:Option Addr)(pc:Nat)(cs:List Int)(hn:l.length<=1000)(hpt:∀x∈l,x.o.cs.flatten.length<=100000)(hps:∀x∈l,x.o.ps.length<=12) :
 ∀(d:Nat) (g:Int) (w0:World),Gr GlE S w0 a ca l->Ri w0 pa pc cs->dq l 6 g=some d->szG l g<=2000 ->
     Calls Tryz.prog 19 #[.slice a l.length ca,.int .i64 g,.slice pa cs.length pc] w0 fun e w'=>AtP l cs g w0 e w':=by
 intro d
 induction d using Nat.strongRecOn with
 | ind d ih =>
 intro g w0 hl hcs hd hsz
 have kl:=hl.lenB
 have kc:=hcs.lenB
 have hd6:=dq_le hd
 obtain⟨x,hx,-⟩:=zbk.1 hd
 obtain⟨hg0,hg1,hxe⟩:=zf0 hx
 obtain⟨kg,rfl⟩:∃k:Nat,g=(k:Int):=⟨g.toNat,by omega⟩
 rw[Int.toNat_natCast]at hxe
 have hg:I64 (kg:Int):=⟨by omega,by omega⟩
 have hkl:kg<l.length:=by omega
 have HX:Hid (gAt l (kg:Int)=some x):=hx
 have HD:Hid (dq l 6 (kg:Int)=some d):=hd
 have HSZ:Hid (szG l (kg:Int)<=2000):=hsz
 have hxm:x∈l:=by rw[hxe];exact zbt hkl
 have hpx:=hpt x hxm
 have hqx:=hps x hxm
 have hdp:=zdq S a ca l (kg:Int) w0 hl hn hg
 have hsi:=fun U (hU:Below w0.heap.size w0 U)=>zdn S a ca l (kg:Int) U (hl.below hU) hn hpt hg
 rw[zf2 hd]at hdp
 obtain⟨b1,off,xa,xc,qa,qc,ta,tc,ea,hb1,hGC,c0,c1,c2,-⟩:=hl.gl (Below.refl _ _) kg hkl
 rw[<-hxe]at hGC c0 c1 c2
 have HL:Hid (Gr GlE S w0 a ca l):=hl
 have HCS:Hid (Ri w0 pa pc cs):=hcs
 subst ea
 have g0:decide ((l.length:Int)<=(kg:Int))=false:=decide_eq_false (by omega)
 have g00:decide (l.length<=kg)=false:=decide_eq_false (by omega)
 have g01:decide ((kg:Int)<0)=false:=decide_eq_false (by omega)
 have g02:¬(d:Int)<0:=by omega
 generalize hszv:szG l (kg:Int)=sz at hsi hsz
 have g03:¬(2000:Int)<(sz:Int):=by omega
 clear hx hd hg0 hg1 hxe hl hcs hszv hxm
 go_enter Tryz.func19,Tryz.ntmps19
 go_wp2_with fail
 refine hdp.mono ?_
 rintro e w1 ⟨rfl,hq1⟩;clear hdp
 go_wp2_with fail
 refine(hsi w1 hq1).mono ?_
 rintro e w ⟨rfl,hq2⟩
 have hb:Below w0.heap.size w0 w:=hq1.trans (hq2.mono hq1.size)
 clear hsi hq1 hq2
 replace c0:=(hb.cell (p:=⟨b1,off+kg*6,none⟩) hb1).trans c0
 replace c1:=(hb.cell (p:=⟨b1,off+kg*6+1,none⟩) hb1).trans c1
 replace c2:=(hb.cell (p:=⟨b1,off+kg*6+2,none⟩) hb1).trans c2
 have kcs:=hGC.cs.lenB
 have kps:=hGC.ps.lenB
 have kts:=hGC.ts.lenB
 have hwb:=hb.size
 have hat:=fun U (hU:Below w.heap.size w U)=>zn8 S xa xc qa qc x.o S ta tc x.ts pa pc cs U ((hGC.below hb).below hU).cs ((hGC.below hb).below hU).ps ((hGC.below hb).below hU).ts ((HCS.out.below hb).below hU) hpx (by omega)
 clear hGC
 go_upto_region 7 with fail
 go_cut [8,9]from 10 (fun s8 s9 wx=>∃(G:Nat) (a1:Option Addr) (c1':Nat) (a2:Option Addr) (c2':Nat),s8=.pointer (some ⟨G,0,none⟩)/\s9=.int .i64 (atE x.o x.ts cs)/\Bk 57 wx G [.slice a1 (atO x.o x.ts cs).cs.length c1',.slice a2 (atO x.o x.ts cs).ps.length c2']/\Gw PnE.row 63 w.heap.size (fun k=>w.heap.size<=k) wx (.slice a1 (atO x.o x.ts cs).cs.length c1') (atO x.o x.ts cs).cs/\Gw PaE 54 w.heap.size (fun _=>False) wx (.slice a2 (atO x.o x.ts cs).ps.length c2') (atO x.o x.ts cs).ps/\Below w.heap.size w wx)
 case first =>
  refine wp_region_held_drew (S:=fun w9=>w9.cell? ⟨b1,off+kg*6,none⟩=some (.slice xa x.o.cs.length xc)/\w9.cell? ⟨b1,off+kg*6+1,none⟩=some (.slice qa x.o.ps.length qc)/\w9.cell? ⟨b1,off+kg*6+2,none⟩=some (.slice ta x.ts.length tc)) (by kernel_rfl) ?_ (fun hH=>?_)
  . (try dsimp only)
    go_keep
  have hdr:Below w.heap.size w w.drew:=Below.drew1
  generalize w.drew=Z at hdr hH ⊢
  have zxe:b1<w.heap.size:=by omega
  replace c0:=(hdr.cell (p:=⟨b1,off+kg*6,none⟩) (by show b1<_;omega)).trans c0
  replace c1:=(hdr.cell (p:=⟨b1,off+kg*6+1,none⟩) (by show b1<_;omega)).trans c1
  replace c2:=(hdr.cell (p:=⟨b1,off+kg*6+2,none⟩) (by show b1<_;omega)).trans c2
  have hBz:Below w.heap.size w Z:=hdr
  have hzs:=hdr.size
  replace hat:=fun U (hU:Below Z.heap.size Z U)=>hat U (hdr.trans (hU.mono hdr.size))
  clear hdr ih;refine hT 0 hH ?_;refine hT 1 hH ?_;refine hT 2 hH ?_;refine hT 3 hH ?_;refine hT 4 hH ?_;refine hT 5 hH ?_;refine hT 6 hH ?_;refine hT 7 hH ?_;refine hT 8 hH ?_;refine hT 9 hH ?_;refine hT 10 hH ?_
  refine wpAnyH_ready (rs:=[11,15]) (by kernel_rfl) (by simp) (hCons (i:=11) rfl (by rfl) (fun K hK=>?_) (hCons (i:=15) rfl (by rfl) (fun K hK=>?_) AllReadyH.nil))
  . go_simp
    refine(hat _ (Below.refl _ _)).mono ?_
    rintro e u ⟨a1,c1',a2,c2',rfl,hgc,hgp,-,hbu⟩
    have hus:=hbu.size
    replace c0:=(hbu.cell (p:=⟨b1,off+kg*6,none⟩) (by show b1<_;omega)).trans c0
    replace c1:=(hbu.cell (p:=⟨b1,off+kg*6+1,none⟩) (by show b1<_;omega)).trans c1
    replace c2:=(hbu.cell (p:=⟨b1,off+kg*6+2,none⟩) (by show b1<_;omega)).trans c2
    go_wp2_with fail
    refine hK.out _ _ ?_ (fun hH=>?_)
    . (try dsimp only)
      exact⟨c0,c1,c2⟩
    clear hK K
    try simp only[Act.put,pZ]
    have zyr:=hBz.trans (hbu.mono hBz.size)
    refine hT 12 hH ?_;refine hT 13 hH ?_;refine hT 14 hH ?_
    refine hCall (i:=15) rfl (by kernel_rfl) (by rfl) (fun K hK=>?_)
    go_simp
    obtain⟨V1,hV1,A1,hb1⟩:∃U,U=u.alloc (.cells #[.slice none 0 0,.slice none 0 0] 57)/\Bk 57 U u.heap.size [.slice none 0 0,.slice none 0 0]/\Below u.heap.size u U:=⟨_,rfl,Bk.new _ _ _,bl1 _⟩
    rw[<-hV1];clear hV1
    have hv1s:=hb1.size
    replace c0:=(hb1.cell (p:=⟨b1,off+kg*6,none⟩) (by show b1<_;omega)).trans c0
    replace c1:=(hb1.cell (p:=⟨b1,off+kg*6+1,none⟩) (by show b1<_;omega)).trans c1
    replace c2:=(hb1.cell (p:=⟨b1,off+kg*6+2,none⟩) (by show b1<_;omega)).trans c2
    refine hK.out _ _ ?_ (fun hH=>?_)
    . (try dsimp only)
      exact⟨c0,c1,c2⟩
    clear hK K
    try simp only[Act.put,pZ]
    have hBz:Below w.heap.size w V1:=zyr.trans (hb1.mono zyr.size)
    have zyb:∀k,(Value.slice a1 (atO x.o x.ts cs).cs.length c1').ownBlock=some k->k<u.heap.size:=fun k hk=>(hgc.lo hk).2
    have zya:∀k,(Value.slice a2 (atO x.o x.ts cs).ps.length c2').ownBlock=some k->k<u.heap.size:=fun k hk=>(hgp.lo hk).2
    replace hgc:=(hgc.widenU (S':=fun k=>Z.heap.size<=k/\k<u.heap.size) (fun k h1 h2=>⟨h1,h2⟩)).below hb1
    replace hgp:=hgp.below hb1
    refine hCall (i:=16) rfl (by kernel_rfl) (by rfl) (fun K hK=>?_)
    obtain⟨y0,y1,f0,f1⟩:=A1.two
    have hA2:=A1.set2U (.slice a1 (atO x.o x.ts cs).cs.length c1') (.slice a2 (atO x.o x.ts cs).ps.length c2')
    go_simp
    have zv2:=hgc.stay (S':=fun k=>w.heap.size<=k) (w':=((V1.setCell ⟨u.heap.size,0,none⟩ (.slice a1 (atO x.o x.ts cs).cs.length c1')).setCell ⟨u.heap.size,1,none⟩ (.slice a2 (atO x.o x.ts cs).ps.length c2'))) (by rw[zax];exact Nat.le_refl _) (fun k hk _ hl=>⟨by have:=hk.1;omega,zad _ _ ((by have:=hk.2;omega))⟩) (fun k hk=>zad _ _ ((by have:=zyb k hk;omega)))
    have zv1:=hgp.stay (S':=fun _=>False) (w':=((V1.setCell ⟨u.heap.size,0,none⟩ (.slice a1 (atO x.o x.ts cs).cs.length c1')).setCell ⟨u.heap.size,1,none⟩ (.slice a2 (atO x.o x.ts cs).ps.length c2'))) (by rw[zax];exact Nat.le_refl _) (fun k hk=>hk.elim) (fun k hk=>zad _ _ ((by have:=zya k hk;omega)))
    have hB2:Below w.heap.size w ((V1.setCell ⟨u.heap.size,0,none⟩ (.slice a1 (atO x.o x.ts cs).cs.length c1')).setCell ⟨u.heap.size,1,none⟩ (.slice a2 (atO x.o x.ts cs).ps.length c2')):=(hBz.setCell (p:=⟨u.heap.size,0,none⟩) (by show w.heap.size<=u.heap.size;omega) _).setCell (p:=⟨u.heap.size,1,none⟩) (by show w.heap.size<=u.heap.size;omega) _
    have hgl:u.heap.size<((V1.setCell ⟨u.heap.size,0,none⟩ (.slice a1 (atO x.o x.ts cs).cs.length c1')).setCell ⟨u.heap.size,1,none⟩ (.slice a2 (atO x.o x.ts cs).ps.length c2')).heap.size:=hA2.lt
    clear hgc hgp A1 y0 y1 f0 f1 zyb zya
    replace c0:=(World.cell?_of_block (w:=V1) (a:=⟨b1,off+kg*6,none⟩) (zad (g:=u.heap.size) (.slice a1 (atO x.o x.ts cs).cs.length c1') (.slice a2 (atO x.o x.ts cs).ps.length c2') (by show b1≠u.heap.size;omega))).trans c0
    replace c1:=(World.cell?_of_block (w:=V1) (a:=⟨b1,off+kg*6+1,none⟩) (zad (g:=u.heap.size) (.slice a1 (atO x.o x.ts cs).cs.length c1') (.slice a2 (atO x.o x.ts cs).ps.length c2') (by show b1≠u.heap.size;omega))).trans c1
    replace c2:=(World.cell?_of_block (w:=V1) (a:=⟨b1,off+kg*6+2,none⟩) (zad (g:=u.heap.size) (.slice a1 (atO x.o x.ts cs).cs.length c1') (.slice a2 (atO x.o x.ts cs).ps.length c2') (by show b1≠u.heap.size;omega))).trans c2
    obtain⟨G,hG⟩:∃G,G=u.heap.size:=⟨_,rfl⟩
    generalize ((V1.setCell ⟨u.heap.size,0,none⟩ (.slice a1 (atO x.o x.ts cs).cs.length c1')).setCell ⟨u.heap.size,1,none⟩ (.slice a2 (atO x.o x.ts cs).ps.length c2'))=w10 at *
    refine hK.out _ _ ?_ (fun hH=>?_)
    . (try dsimp only)
      exact⟨c0,c1,c2⟩
    clear hK K
    try simp only[Act.put,pZ]
    refine hT 17 hH ?_
    refine wpAnyH_done (by kernel_rfl) ?_ _
    clear hH c0 c1 c2 hG
    go_wp2_with fail
    go_meet
    exact⟨u.heap.size,a1,c1',a2,c2',rfl,rfl,hA2,zv2.low (by omega),zv1.low (by omega),hB2⟩
  . go_simp
    obtain⟨V1,hV1,A1,hb1⟩:∃U,U=Z.alloc (.cells #[.slice none 0 0,.slice none 0 0] 57)/\Bk 57 U Z.heap.size [.slice none 0 0,.slice none 0 0]/\Below Z.heap.size Z U:=⟨_,rfl,Bk.new _ _ _,bl1 _⟩
    rw[<-hV1];clear hV1
    have hv1s:=hb1.size
    replace c0:=(hb1.cell (p:=⟨b1,off+kg*6,none⟩) (by show b1<_;omega)).trans c0
    replace c1:=(hb1.cell (p:=⟨b1,off+kg*6+1,none⟩) (by show b1<_;omega)).trans c1
    replace c2:=(hb1.cell (p:=⟨b1,off+kg*6+2,none⟩) (by show b1<_;omega)).trans c2
    refine hK.out _ _ ?_ (fun hH=>?_)
    . (try dsimp only)
      exact⟨c0,c1,c2⟩
    clear hK K
    try simp only[Act.put,pZ]
    have zyq:Below w.heap.size w V1:=hBz.trans (hb1.mono hBz.size)
    have hgZ:Z.heap.size<V1.heap.size:=A1.lt
    refine hCall (i:=11) rfl (by kernel_rfl) (by rfl) (fun K hK=>?_)
    go_simp
    refine(hat _ hb1).mono ?_
    rintro e u ⟨a1,c1',a2,c2',rfl,hgc,hgp,-,hbu⟩
    have hus:=hbu.size
    replace c0:=(hbu.cell (p:=⟨b1,off+kg*6,none⟩) (by show b1<_;omega)).trans c0
    replace c1:=(hbu.cell (p:=⟨b1,off+kg*6+1,none⟩) (by show b1<_;omega)).trans c1
    replace c2:=(hbu.cell (p:=⟨b1,off+kg*6+2,none⟩) (by show b1<_;omega)).trans c2
    go_wp2_with fail
    refine hK.out _ _ ?_ (fun hH=>?_)
    . (try dsimp only)
      exact⟨c0,c1,c2⟩
    clear hK K
    try simp only[Act.put,pZ]
    replace hBz:Below w.heap.size w u:=zyq.trans (hbu.mono zyq.size)
    replace A1:=A1.below hbu
    have HNE:∀k,V1.heap.size<=k->k<u.heap.size->k≠Z.heap.size:=fun k h1 _=>by omega
    refine hT 12 hH ?_;refine hT 13 hH ?_;refine hT 14 hH ?_
    refine hCall (i:=16) rfl (by kernel_rfl) (by rfl) (fun K hK=>?_)
    obtain⟨y0,y1,f0,f1⟩:=A1.two
    have hA2:=A1.set2U (.slice a1 (atO x.o x.ts cs).cs.length c1') (.slice a2 (atO x.o x.ts cs).ps.length c2')
    go_simp
    have zv2:=hgc.stay (S':=fun k=>w.heap.size<=k) (w':=((u.setCell ⟨Z.heap.size,0,none⟩ (.slice a1 (atO x.o x.ts cs).cs.length c1')).setCell ⟨Z.heap.size,1,none⟩ (.slice a2 (atO x.o x.ts cs).ps.length c2'))) (by rw[zax];exact Nat.le_refl _) (fun k hk _ hl=>⟨by omega,zad _ _ (HNE k hk hl)⟩) (fun k hk=>zad _ _ (HNE k (hgc.lo hk).1 (hgc.lo hk).2))
    have zv1:=hgp.stay (S':=fun _=>False) (w':=((u.setCell ⟨Z.heap.size,0,none⟩ (.slice a1 (atO x.o x.ts cs).cs.length c1')).setCell ⟨Z.heap.size,1,none⟩ (.slice a2 (atO x.o x.ts cs).ps.length c2'))) (by rw[zax];exact Nat.le_refl _) (fun k hk=>hk.elim) (fun k hk=>zad _ _ (HNE k (hgp.lo hk).1 (hgp.lo hk).2))
    have hB2:Below w.heap.size w ((u.setCell ⟨Z.heap.size,0,none⟩ (.slice a1 (atO x.o x.ts cs).cs.length c1')).setCell ⟨Z.heap.size,1,none⟩ (.slice a2 (atO x.o x.ts cs).ps.length c2')):=(hBz.setCell (p:=⟨Z.heap.size,0,none⟩) (by show w.heap.size<=Z.heap.size;omega) _).setCell (p:=⟨Z.heap.size,1,none⟩) (by show w.heap.size<=Z.heap.size;omega) _
    have hgl:Z.heap.size<((u.setCell ⟨Z.heap.size,0,none⟩ (.slice a1 (atO x.o x.ts cs).cs.length c1')).setCell ⟨Z.heap.size,1,none⟩ (.slice a2 (atO x.o x.ts cs).ps.length c2')).heap.size:=hA2.lt
    clear hgc hgp A1 y0 y1 f0 f1 HNE
    replace c0:=(World.cell?_of_block (w:=u) (a:=⟨b1,off+kg*6,none⟩) (zad (g:=Z.heap.size) (.slice a1 (atO x.o x.ts cs).cs.length c1') (.slice a2 (atO x.o x.ts cs).ps.length c2') (by show b1≠Z.heap.size;omega))).trans c0
    replace c1:=(World.cell?_of_block (w:=u) (a:=⟨b1,off+kg*6+1,none⟩) (zad (g:=Z.heap.size) (.slice a1 (atO x.o x.ts cs).cs.length c1') (.slice a2 (atO x.o x.ts cs).ps.length c2') (by show b1≠Z.heap.size;omega))).trans c1
    replace c2:=(World.cell?_of_block (w:=u) (a:=⟨b1,off+kg*6+2,none⟩) (zad (g:=Z.heap.size) (.slice a1 (atO x.o x.ts cs).cs.length c1') (.slice a2 (atO x.o x.ts cs).ps.length c2') (by show b1≠Z.heap.size;omega))).trans c2
    obtain⟨G,hG⟩:∃G,G=Z.heap.size:=⟨_,rfl⟩
    generalize ((u.setCell ⟨Z.heap.size,0,none⟩ (.slice a1 (atO x.o x.ts cs).cs.length c1')).setCell ⟨Z.heap.size,1,none⟩ (.slice a2 (atO x.o x.ts cs).ps.length c2'))=w10 at *
    refine hK.out _ _ ?_ (fun hH=>?_)
    . (try dsimp only)
      exact⟨c0,c1,c2⟩
    clear hK K
    try simp only[Act.put,pZ]
    refine hT 17 hH ?_
    refine wpAnyH_done (by kernel_rfl) ?_ _
    clear hH c0 c1 c2 hG
    go_wp2_with fail
    go_meet
    exact⟨Z.heap.size,a1,c1',a2,c2',rfl,rfl,hA2,zv2.low (by omega),zv1.low (by omega),hB2⟩
 case rest =>
  clear c0 c1 c2 hat g0 g00 g01 g02 g03;obtain⟨G,a1,c1',a2,c2',rfl,rfl,hO,hGL,hGP,hBx⟩:=hcut
  have hBB:Below w0.heap.size w0 wc:=hb.trans (hBx.mono hb.size)
  have hxs:=hBx.size
  obtain⟨o0,o1,-⟩:=hO.two
  have zr8:Hid (flG l cs 6 (kg:Int)=flX (flG l cs 6) x cs):=zrb HX.out HD.out
  by_cases he:atE x.o x.ts cs=0
  rotate_left
  . have g1:(atE x.o x.ts cs != 0)=true:=bne_iff_ne.2 he
    have HR:Hid (flG l cs 6 (kg:Int)=([],atE x.o x.ts cs)):=by show _=_;rw[zr8.out,zul he]
    have HF:Hid (AtP l cs kg w0 (.returned (.tuple #[.slice none 0 0,.int .i64 (atE x.o x.ts cs)])) wc):=⟨⟨none,0,by rw[HR.out];rfl,by rw[HR.out];exact Gw.nil _ _ _ _ _⟩,hBB⟩
    clear HR zr8 ih hO hGL hGP he
    generalize atE x.o x.ts cs=ae at *
    go_wp2
    go_ret2
    exact HF.out
  have g1:(atE x.o x.ts cs != 0)=false:=by rw[he];rfl
  obtain⟨hl10,hl6,hlp⟩:=zup he
  have HIF:Hid (∀p∈(atO x.o x.ts cs).ps,∃e,dq l 6 p.g=some e/\e<d/\szG l p.g<=2000):=fun p hp=>by
   obtain⟨q,hq,e⟩:=zf4 he hp
   have h:=zwa HX.out HD.out HSZ.out hq
   rw[e]at h
   exact h
  have HPB:Hid (∀p∈(atO x.o x.ts cs).ps,(-32768<=p.dx/\p.dx<=32767)/\-32768<=p.dy/\p.dy<=32767):=(zi2 he).2
  have HOK:Hid ((flP (flG l cs 6) (atO x.o x.ts cs).ps).2=0->flG l cs 6 (kg:Int)=((atO x.o x.ts cs).cs++(flP (flG l cs 6) (atO x.o x.ts cs).ps).1,0)):=fun h=>by rw[zr8.out,zuj he h]
  have HNO:Hid ((flP (flG l cs 6) (atO x.o x.ts cs).ps).2≠0->flG l cs 6 (kg:Int)=([],(flP (flG l cs 6) (atO x.o x.ts cs).ps).2)):=fun h=>by rw[zr8.out,zuk he h]
  have HFB:Hid (∀g,FlB 1000000000 (flG l cs 6 g).1):=fun g=>(zkc 6 g).le (by omega)
  obtain⟨oc,hoc⟩:∃o,atO x.o x.ts cs=o:=⟨_,rfl⟩
  rw[hoc]at hO hGL hGP o0 o1 hl10 hl6 HIF HPB HOK HNO;clear hoc zr8 hlp HX HD HSZ;obtain⟨ocs,ops⟩:=oc
  dsimp only at *
  generalize atE x.o x.ts cs=ae at *
  clear he
  have HLP:Hid (ops.length<=6):=hl6
  have HM0:Hid (ocs=ocs++(flP (flG l cs 6) (ops.take 0)).1):=by show _=_;rw[List.take_zero];show ocs=ocs++[];rw[List.append_nil]
  have HGP0:Hid (Gw PaE 54 w.heap.size (fun _=>False) wc (.slice a2 ops.length c2') ops):=hGP
  have HGL0:Hid (Gw PnE.row 63 w.heap.size (fun k=>w.heap.size<=k) wc (.slice a1 ocs.length c1') ocs):=hGL
  have HO0:Hid (Bk 57 wc G [.slice a1 ocs.length c1',.slice a2 ops.length c2']):=hO
  have HBX:Hid (Below w.heap.size w wc):=hBx
  clear hGL hBx hBB hGP hl6 hO;go_wp2;clear o0 o1
  go_loopw [10,11] (fun v i wr=>∃(k:Nat) (M:List (List Pn)),k<=ops.length/\i=.int .i64 k/\Gw PnE.row 63 w.heap.size (fun k=>w.heap.size<=k) wr v M/\Hid (M=ocs++(flP (flG l cs 6) (ops.take k)).1)/\Hid ((flP (flG l cs 6) (ops.take k)).2=0)/\Gw PaE 54 w.heap.size (fun _=>False) wr (.slice a2 ops.length c2') ops/\Bk 57 wr G [.slice a1 ocs.length c1',.slice a2 ops.length c2']/\Below w.heap.size w wr) (fun _ i _=>ops.length-(intOf i).toNat)
  case atStart=>exact⟨0,ocs,Nat.zero_le _,rfl,HGL0.out,HM0,rfl,HGP0.out,HO0.out,HBX.out⟩
  case round =>
   clear HGL0 HM0 HGP0 HO0 HBX;obtain⟨k,M,hk,rfl,hGL,HLL,zsb,hGP,hO,hB⟩:=hrel;obtain⟨av,cv,rfl,-,-⟩:=hGL.slice
   have hws:=hB.size
   have hBw:Below w0.heap.size w0 wr:=hb.trans (hB.mono hb.size)
   obtain⟨o0,o1,-⟩:=hO.two
   by_cases hkn:k<ops.length
   . have hgr:=hGP.gr
     obtain⟨bp,op,ep,hbp,hpw,e0,e1,e2⟩:=hgr.pa (Below.refl _ _) k hkn
     subst ep
     have hpb:=HPB.out _ (zbt (d:=Pa.none) hkn)
     obtain⟨ed,zth,zyf,zug⟩:=HIF.out _ (zbt (d:=Pa.none) hkn)
     have HMO:Hid ((flG l cs 6 (ops.getD k Pa.none).g).2=0->flP (flG l cs 6) (ops.take (k+1))=((flP (flG l cs 6) (ops.take k)).1++mvC (ops.getD k Pa.none).dx (ops.getD k Pa.none).dy (flG l cs 6 (ops.getD k Pa.none).g).1,0)):=fun h=>zm9 hkn zsb.out h
     have HST:Hid ((flG l cs 6 (ops.getD k Pa.none).g).2≠0->(flP (flG l cs 6) ops).2=(flG l cs 6 (ops.getD k Pa.none).g).2):=fun h=>zm8 hkn zsb.out h
     obtain⟨q,hq⟩:∃q,ops.getD k Pa.none=q:=⟨_,rfl⟩
     rw[hq]at hpw e0 e1 e2 hpb zth zug HMO HST;obtain⟨gl,dx,dy⟩:=q;obtain⟨hgi,hxi,hyi⟩:=hpw;dsimp only at e0 e1 e2 hgi hxi hyi HMO HST hpb zth zug
     have HSQ:Hid (∀p∈ops,(flG l cs 6 p.g).1.length<=2000/\(flG l cs 6 p.g).1.flatten.length<=2000):=fun p hp=>by
      obtain⟨e,h1,-,h3⟩:=HIF.out p hp
      have h4:=zis (l:=l) (cs:=cs) (n:=6) (g:=p.g)
      have h5:=zea h1
      omega
     have hsz9:(flG l cs 6 gl).1.length<=2000/\(flG l cs 6 gl).1.flatten.length<=2000:=by
      have h:=HSQ.out _ (zbt (d:=Pa.none) hkn)
      rw[hq]at h
      exact h
     have HLN9:Hid (M.length<=13000):=by
      have h1:=congrArg List.length HLL.out
      have h2:=zq9 (f:=flG l cs 6) (M:=2000) (ps:=ops.take k) (fun p hp=>(HSQ.out p (List.mem_of_mem_take hp)).1)
      have h3:(ops.take k).length<=6:=by rw[List.length_take];have:=HLP.out;omega
      have h4:(ops.take k).length*2000<=6*2000:=Nat.mul_le_mul_right _ h3
      rw[List.length_append]at h1
      show _<=_
      omega
     have i1:(0:Int)<=(k:Int):=by omega
     have i2:(k:Int)<(ops.length:Int):=by omega
     obtain⟨U,hU,XP,hbU⟩:∃U,U=wr.alloc (.cells #[.int .i64 gl,.int .i64 dx,.int .i64 dy] 54)/\Bk 54 U wr.heap.size [.int .i64 gl,.int .i64 dx,.int .i64 dy]/\Below wr.heap.size wr U:=⟨_,rfl,Bk.new _ _ _,bl1 _⟩
     have hus1:U.heap.size=wr.heap.size+1:=by rw[hU];simp
     have HVO:Hid (∀q,(Value.slice av M.length cv).ownBlock=some q->w.heap.size<=q/\q<wr.heap.size):=fun q e=>hGL.lo e
     replace hGL:=hGL.below hbU;replace hGP:=hGP.below hbU;replace hO:=hO.below hbU
     replace hBw:=hBw.trans (hbU.mono hBw.size)
     replace hB:=hB.trans (hbU.mono hB.size)
     have hih:=ih ed zyf gl U (HL.out.below hBw) (HCS.out.below hBw) zth zug
     obtain⟨p0,p1,p2,_⟩:=XP.three;clear hq hgr HIF zth zug
     go_upto_region 15 with fail
     rw[<-hU];clear hU e0 e1 e2 o0 o1
     go_wp2_with fail
     refine hih.mono ?_
     rintro ex u ⟨⟨a7,c7,rfl,hG7⟩,hb7⟩
     have hk2s:=hb7.size
     replace hGL:=hGL.below hb7;replace hGP:=hGP.below hb7;replace hO:=hO.below hb7;replace XP:=XP.below hb7
     replace hB:=hB.trans (hb7.mono hB.size)
     clear hih hb7 p0 p1 p2 hbU
     by_cases he7:(flG l cs 6 gl).2=0
     rotate_left
     . have g2:((flG l cs 6 gl).2 != 0)=true:=bne_iff_ne.2 he7
       have hst:=HST.out he7
       have HR:Hid (flG l cs 6 (kg:Int)=([],(flG l cs 6 gl).2)):=by show _=_;rw[HNO.out (by rw[hst];exact he7),hst]
       have HF:Hid (AtP l cs kg w0 (.returned (.tuple #[.slice none 0 0,.int .i64 (flG l cs 6 gl).2])) u):=⟨⟨none,0,by rw[HR.out];rfl,by rw[HR.out];exact Gw.nil _ _ _ _ _⟩,hb.trans (hB.mono hb.size)⟩
       clear HR hst ih hO hGL hGP he7 HMO HST HOK HNO hG7 XP HSQ HFB hsz9
       generalize flG l cs 6 gl=fr at *
       go_wp2
       go_ret2
       exact HF.out
     have g2:((flG l cs 6 gl).2 != 0)=false:=by rw[he7];rfl
     have HM9:Hid (_):=HMO.out he7
     have HFG:Hid (FlB 1000000000 (flG l cs 6 gl).1):=HFB.out gl
     have HBK7:Hid (∀q o,a7=some ⟨q,o,none⟩->U.heap.size<=q/\q<u.heap.size):=fun q o e=>hG7.lo (by rw[e];rfl)
     have zdy:=hG7.gr
     clear he7 HMO HST zyf hG7
     generalize flG l cs 6 gl=fr at *
     obtain⟨PB,hPB⟩:∃b,wr.heap.size=b:=⟨_,rfl⟩
     have HPB2:Hid (wr.heap.size=PB):=hPB
     rw[hPB]at XP HVO hus1 hws
     obtain⟨US,hUS⟩:∃b,U.heap.size=b:=⟨_,rfl⟩
     rw[hUS]at zdy HBK7 hus1 hk2s
     have HG7:Hid (Gr PnE.row (fun k=>US<=k) u a7 c7 fr.1):=zdy
     have HXP:Hid (Bk 54 u PB [.int .i64 gl,.int .i64 dx,.int .i64 dy]):=XP
     have HV0:Hid (∀q,(Value.slice av M.length cv).ownBlock=some q->q<PB\/u.heap.size<=q):=fun q e=>.inl (HVO.out q e).2
     have HMM:Hid (M=M++mvC dx dy (fr.1.take 0)):=by show _=_;rw[List.take_zero];show M=M++[];rw[List.append_nil]
     have HGLu:Hid (Gw PnE.row 63 w.heap.size (fun k=>w.heap.size<=k) u (.slice av M.length cv) M):=hGL
     have HGPu:Hid (Gw PaE 54 w.heap.size (fun _=>False) u (.slice (some ⟨bp,op,none⟩) ops.length c2') ops):=hGP
     have HOu:Hid (Bk 57 u G [.slice a1 ocs.length c1',.slice (some ⟨bp,op,none⟩) ops.length c2']):=hO
     have HBu:Hid (Below w.heap.size w u):=hB
     clear zdy XP hPB hUS hGL hGP hO hB hBw HVO hbp;rw[HPB2.out];go_wp2
     go_loopw [10,15] (fun v i wr=>∃(j:Nat) (M2:List (List Pn)),j<=fr.1.length/\i=.int .i64 j/\Gw PnE.row 63 w.heap.size (fun k=>w.heap.size<=k) wr v M2/\Hid (M2=M++mvC dx dy (fr.1.take j))/\Hid (∀q,v.ownBlock=some q->q<PB\/u.heap.size<=q)/\Keep (fun k=>PB<=k/\k<u.heap.size) u wr/\Gw PaE 54 w.heap.size (fun _=>False) wr (.slice (some ⟨bp,op,none⟩) ops.length c2') ops/\Bk 57 wr G [.slice a1 ocs.length c1',.slice (some ⟨bp,op,none⟩) ops.length c2']/\Below w.heap.size w wr) (fun _ i _=>fr.1.length-(intOf i).toNat)
     case atStart=>exact⟨0,M,Nat.zero_le _,rfl,HGLu.out,HMM,HV0,Keep.refl _ _,HGPu.out,HOu.out,HBu.out⟩
     case round =>
      clear HGLu HMM HV0 HGPu HOu HBu;obtain⟨j,M2,hj,rfl,hGL,HM2,HV2,hKp,hGP,hO,hB⟩:=hrel;obtain⟨av2,cv2,rfl,-,-⟩:=hGL.slice
      have hks:=Keep.size hKp
      have zdy:Gr PnE.row (fun k=>US<=k) wr a7 c7 fr.1:=HG7.out.stay hks (fun k h1 h2=>⟨h1,Keep.block hKp k ⟨by omega,h2⟩⟩) (fun b o e _ h2=>Keep.block hKp b ⟨by have:=(HBK7.out b o e).1;omega,h2⟩)
      by_cases hjn:j<fr.1.length
      . obtain⟨b7,o7,a8,c8,ea,hb7,d0,hrow,hlb,-⟩:=zdy.rw (Below.refl _ _) j hjn
        subst ea
        have hcl:(fr.1.getD j []).length<=fr.1.flatten.length:=by
         have h1:=zaq hjn
         have h2:=za8 fr.1 (j+1)
         omega
        have HMV:Hid (_):=zqg (dx:=dx) (dy:=dy) hjn
        have HFC:Hid (∀p∈fr.1.getD j [],(-1000000000<=p.x/\p.x<=1000000000)/\-1000000000<=p.y/\p.y<=1000000000):=fun p hp=>HFG.out _ (zet hjn) p hp
        obtain⟨c,hc⟩:∃c,fr.1.getD j []=c:=⟨_,rfl⟩
        rw[hc]at d0 hrow hlb hcl HMV HFC
        have zw3:Hid (Gr PnE (fun k=>US<=k) wr a8 c8 c):=hrow
        have hll:M2.length+1<=1000000:=by
         have h1:=congrArg List.length HM2.out
         have h2:=HLN9.out
         rw[List.length_append,zgj,List.length_take]at h1
         omega
        have hc1:c.length<=100000:=by omega
        obtain⟨wo,rfl⟩:∃wo,wo=wr:=⟨_,rfl⟩
        have HGo:Hid (Gw PnE.row 63 w.heap.size (fun k=>w.heap.size<=k) wo (.slice av2 M2.length cv2) M2):=hGL
        have HKo:Hid (Keep (fun k=>PB<=k/\k<u.heap.size) u wo):=hKp
        have HGPo:Hid (Gw PaE 54 w.heap.size (fun _=>False) wo (.slice (some ⟨bp,op,none⟩) ops.length c2') ops):=hGP
        have HOo:Hid (Bk 57 wo G [.slice a1 ocs.length c1',.slice (some ⟨bp,op,none⟩) ops.length c2']):=hO
        have HBo:Hid (Below w.heap.size w wo):=hB
        have HXo:Hid (Bk 54 wo PB [.int .i64 gl,.int .i64 dx,.int .i64 dy]):=(Keep.block hKp PB ⟨Nat.le_refl _,by omega⟩).trans HXP.out
        have HD0:Hid (wo.cell? ⟨b7,o7+j,none⟩=some (.slice a8 c.length c8)):=d0
        have hJ0:Gw PnE 65 wo.heap.size (fun _=>False) wo (.slice none 0 0) ((c.take 0).map (mvQ dx dy)):=Gw.nil _ _ _ _ _
        have i3:(0:Int)<=(j:Int):=by omega
        have i4:(j:Int)<(fr.1.length:Int):=by omega
        clear hc hGL hKp hGP hO hB hrow hlb hcl zdy d0;go_wp2
        go_loopw [16,17] (fun v2 i wr=>∃r:Nat,r<=c.length/\i=.int .i64 r/\Gw PnE 65 wo.heap.size (fun _=>False) wr v2 ((c.take r).map (mvQ dx dy))/\Below wo.heap.size wo wr) (fun _ i _=>c.length-(intOf i).toNat)
        case atStart=>exact⟨0,Nat.zero_le _,rfl,hJ0,Below.refl _ _⟩
        case round =>
         clear hJ0;obtain⟨r,hr,rfl,hV,hBo⟩:=hrel;obtain⟨a9,c9,rfl,zv0,hb9⟩:=hV.slice
         have d0:=(hBo.cell (p:=⟨b7,o7+j,none⟩) hb7).trans HD0.out
         by_cases hrn:r<c.length
         . obtain⟨b2,o2,eb,hb2,⟨w0',w1'⟩,e0,e1,e2⟩:=zw3.out.pn hBo r hrn
           subst eb
           have HMP:Hid (_):=zjy (f:=mvQ dx dy) (d:=Pn.none) hrn
           have hpb2:=HFC.out _ (zbt (d:=Pn.none) hrn)
           have hl7:((c.take r).map (mvQ dx dy)).length+1<=1000000:=by rw[List.length_map,List.length_take];omega
           generalize (c.take r).map (mvQ dx dy)=K1 at *
           generalize c.getD r Pn.none=q at *
           obtain⟨x1,y1,on⟩:=q;dsimp only at w0' w1' e0 e1 e2 hpb2
           have HQ:Hid (mvQ dx dy ⟨x1,y1,on⟩=⟨x1+dx,y1+dy,on⟩):=rfl
           rw[HQ.out]at HMP
           have i5:(0:Int)<=(r:Int):=by omega
           have i6:(r:Int)<(c.length:Int):=by omega
           obtain⟨V,hV0,XQ,hb0⟩:∃V,V=wr.alloc (.cells #[.int .i64 x1,.int .i64 y1,.bool on] 65)/\Bk 65 V wr.heap.size [.int .i64 x1,.int .i64 y1,.bool on]/\Below wr.heap.size wr V:=⟨_,rfl,Bk.new _ _ _,bl1 _⟩
           obtain⟨q0,q1,q2,_⟩:=XQ.three
           have hX0:=(HXo.out.below hBo).below hb0
           obtain⟨p0,p1,p2,_⟩:=hX0.three
           have hVV:=hV.below hb0
           have hBZ:Below wo.heap.size wo V:=hBo.trans (hb0.mono hBo.size)
           obtain⟨V1,hV1,Y1,zg7⟩:∃U,U=V.alloc (.cells #[.int .i64 (x1+dx),.int .i64 (y1+dy),.bool on] 65)/\Bk 65 U V.heap.size [.int .i64 (x1+dx),.int .i64 (y1+dy),.bool on]/\Below V.heap.size V U:=⟨_,rfl,Bk.new _ _ _,bl1 _⟩
           have hVb:=hVV.below zg7
           obtain⟨⟨hp1,hp2⟩,hp3,hp4⟩:=hpb2
           have zbj:Gr PnE (fun k=>False/\(Value.slice a9 K1.length c9).ownBlock≠some k) V1 (some ⟨V.heap.size,0,none⟩) 1 [⟨x1+dx,y1+dy,on⟩]:=Gr.one (E:=PnE) (vs:=pnC ⟨x1+dx,y1+dy,on⟩) (zcw.2 ⟨rfl,⟨by dsimp only;omega,by dsimp only;omega⟩,⟨by dsimp only;omega,by dsimp only;omega⟩⟩) Y1.lt (fun j hj=>Y1.cell j hj)
           have hBb:Below wo.heap.size wo V1:=hBZ.trans (zg7.mono hBZ.size)
           have hbs:=hBb.size
           clear hV zv0 hb9 w0' w1' hX0 hVV hBZ
           go_upto_region 26 with fail
           rw[<-hV0];clear hV0 e0 e1 e2 d0
           go_wp2_with (at_builtin;rw[<-hV1];refine zal 63 65 Tryz.underlying63 zc3 rfl (by decide) (by decide) rfl _ _ rfl wo.heap.size (fun _=>False) _ K1 rfl hVb (some ⟨V.heap.size,0,none⟩) 1 1 [⟨x1+dx,y1+dy,on⟩] rfl rfl zbj hl7 hbs ?_)
           intro v9 w9 hT9 hgrow how
           try rw[<-hV1]at hgrow
           have hB9:Below wo.heap.size wo w9:=hBb.grown hgrow hbs (fun k hk=>(hVb.lo hk).1)
           rw[<-HMP.out]at hT9;clear hgrow how hVb zbj hbs hl7 hBb hV1 Y1 zg7 HMP q0 q1 q2 p0 p1 p2 XQ hb0;go_wp2
           go_roundw
           case rel=>exact⟨r+1,by omega,by go_num,hT9,hB9⟩
           case measure=>simp[intOf];omega
         . have er:r=c.length:=by omega
           have g3:¬(r:Int)<(c.length:Int):=by omega
           rw[er,List.take_length]at hV zv0
           have e1:(Value.slice a9 ((c.take r).map (mvQ dx dy)).length c9)=.slice a9 (c.map (mvQ dx dy)).length c9:=by rw[er,List.take_length]
           rw[e1]
           have zv3:(c.map (mvQ dx dy)).length<=140737488351232:=by rw[List.length_map];omega
           clear e1 er
           generalize c.map (mvQ dx dy)=K1 at *
           obtain⟨V,hV0,XN,bp2⟩:∃V,V=wr.alloc (.cells #[.slice a9 K1.length c9] 63)/\Bk 63 V wr.heap.size [.slice a9 K1.length c9]/\Below wr.heap.size wr V:=⟨_,rfl,Bk.new _ _ _,bl1 _⟩
           have hG1:=(HGo.out.below hBo).below bp2
           have hVb:=hV.below bp2
           have zvz:=zv0.below bp2
           have hos:=HBo.out.size
           have zla:PnE.row.rep (fun k=>w.heap.size<=k/\(Value.slice av2 M2.length cv2).ownBlock≠some k) V [.slice a9 K1.length c9] K1:=by
            refine⟨a9,c9,rfl,fun b o e hne=>?_,zvz.anyP,zv3⟩
            have hbb:=hb9 b o e
            refine⟨by omega,fun e2=>?_⟩
            exact hG1.ne hVb (by decide) e2 (by rw[e];rfl)
           have HSD:Hid (M2++[K1]=M++mvC dx dy (fr.1.take (j+1))):=by show _=_;rw[HMV.out,HM2.out,List.append_assoc]
           have zbj:=Gr.one (E:=PnE.row) zla XN.lt (fun jj hjj=>by
            obtain rfl:jj=0:=by have h1:jj<1:=hjj;omega
            exact XN.cell 0 (by simp))
           have hbV:Below wo.heap.size wo V:=hBo.trans (bp2.mono hBo.size)
           have hBb:Below w.heap.size w V:=HBo.out.trans (hbV.mono HBo.out.size)
           have hbs:w.heap.size<=V.heap.size:=hBb.size
           have hKb:Keep (fun k=>PB<=k/\k<u.heap.size) u V:=Keep.trans HKo.out (Keep.of_below hbV (fun k h=>by have:=h.2;omega))
           have hGPb:=HGPo.out.below hbV
           have hOb:=HOo.out.below hbV
           have hVs:=hbV.size
           have hVz:V.heap.size=wr.heap.size+1:=by rw[hV0];simp
           have hneO:=hG1.neBk hOb (by decide)
           clear hV hVb zla XN bp2 zv0 hb9 zvz HMV
           go_wp2_with (at_builtin;rw[<-hV0];refine zal 37 63 Tryz.underlying37 zdt rfl Nat.one_pos (by decide) rfl _ _ rfl w.heap.size (fun k=>w.heap.size<=k) _ M2 rfl hG1 (some ⟨wr.heap.size,0,none⟩) 1 1 [K1] rfl rfl zbj hll hbs ?_)
           intro v9 w9 hT9 hgrow how
           try rw[<-hV0]at hgrow
           try rw[<-hV0]at how
           have hB9:Below w.heap.size w w9:=hBb.grown hgrow hbs (fun k hk=>(hG1.lo hk).1)
           have hGP9:=hGPb.beside hG1 (by decide) (fun k h=>h.elim) hgrow
           have hO9:=hOb.grown hgrow hneO
           have hK9:Keep (fun k=>PB<=k/\k<u.heap.size) u w9:=Keep.grown hKb hgrow (fun k h=>by have:=h.2;omega) (fun k e h=>by
            have h1:=HV2.out k e
            have h2:=h.1
            have h3:=h.2
            omega)
           have HV9:Hid (∀q,v9.ownBlock=some q->q<PB\/u.heap.size<=q):=fun q e=>by
            rcases how with how|how
            . exact HV2.out q (how ▸ e)
            . rw[how]at e
              have h4:=Option.some.inj e
              exact .inr (by omega)
           obtain⟨M3,hM3⟩:∃M3,M2++[K1]=M3:=⟨_,rfl⟩
           rw[hM3]at hT9 HSD;clear hM3 hgrow how zbj hbs hll hBb hG1 hV0 hBo hKb hGPb hOb hneO d0;go_wp2
           go_roundw
           case rel=>exact⟨j+1,M3,by omega,by go_num,hT9,HSD,HV9,hK9,hGP9,hO9,hB9⟩
           case measure=>simp[intOf];omega
      . have ej:j=fr.1.length:=by omega
        have g4:¬(j:Int)<(fr.1.length:Int):=by omega
        have HMN:Hid (M2=ocs++(flP (flG l cs 6) (ops.take (k+1))).1):=by
         show _=_
         rw[HM2.out,HM9.out,ej,List.take_length,HLL.out,List.append_assoc]
        have HON:Hid ((flP (flG l cs 6) (ops.take (k+1))).2=0):=by show _=_;rw[HM9.out]
        have hk6:k<6:=by have:=HLP.out;omega
        clear ej HM2 HM9 HLL zsb zdy HV2 hKp;go_wp2
        go_roundw
        case rel=>exact⟨k+1,M2,by omega,by go_num,hGL,HMN,HON,hGP,hO,hB⟩
        case measure=>simp[intOf];omega
   . have ek:k=ops.length:=by omega
     have HO2:Hid ((flP (flG l cs 6) ops).2=0):=by
      have h:=zsb.out
      rw[ek,List.take_length]at h
      exact h
     have HR:Hid (flG l cs 6 (kg:Int)=(ocs++(flP (flG l cs 6) ops).1,0)):=HOK.out HO2.out
     have HL2:Hid (M=(flG l cs 6 (kg:Int)).1):=by
      have h:=HLL.out
      rw[ek,List.take_length]at h
      show _=_
      rw[h,HR.out]
     have HR2:Hid ((flG l cs 6 (kg:Int)).2=0):=by show _=_;rw[HR.out]
     have g4:¬(k:Int)<(ops.length:Int):=by omega
     have HF:Hid (AtP l cs kg w0 (.returned (.tuple #[.slice av M.length cv,.int .i64 0])) wr):=by
      refine⟨⟨av,cv,by rw[HR2.out,<-HL2.out],?_⟩,hBw⟩
      rw[<-HL2.out]
      exact(hGL.low (by omega)).widenU (fun k h _=>by omega)
     clear zsb HLL ek hk HOK HNO HO2 HR hGP hGL HL2 HR2 ih;go_wp2
     go_ret2
     exact HF.out
theorem zn7(a:Option Addr)(ca:Nat)(b:Option Addr)(cb:Nat)(s:Sr)(x r:Int)(w:World)(hl:s.rw.length<=9223372036854775807)(hx:I64 x)(hr:I64 r) :
 Calls Tryz.prog 62 #[.agg #[.slice a s.rg.length ca,.slice b s.rw.length cb],.agg #[.int .i64 x,.int .i64 r]] w fun e w'=>e=.returned (.bool (fiS s x r))/\Below w.heap.size w w':=by
 obtain⟨W,hW,X1,X2,hbW⟩:∃W,W=(w.alloc (.cells #[.slice a s.rg.length ca,.slice b s.rw.length cb] 26)).alloc (.cells #[.int .i64 x,.int .i64 r] 60)/\BxS W w.heap.size (.slice a s.rg.length ca) (.slice b s.rw.length cb)/\BxL W (w.heap.size+1) (.int .i64 x) (.int .i64 r)/\Below w.heap.size w W:=⟨_,rfl,(BxS.new _ _ _).below (bl1 _),BxL.new1 _ _ _ _,bl2 _ _⟩
 have hif:=fun U=>za3 x U
 cases hf:fdB x with
 | false =>
  have HE:Hid (fiS s x r=false):=by show _=_;rw[fiS,hf,Bool.false_and]
  simp only[hf]at hif
  clear hf
  go_enter Tryz.func62,Tryz.ntmps62
  go_wp2_with fail
  rw[<-hW];clear hW
  refine(hif _).mono ?_
  rintro e u1 ⟨rfl,rfl⟩;obtain⟨c0,c1,_⟩:=X1.cells;obtain⟨d0,d1,_⟩:=X2.cells;go_wp2
  go_ret
  exact⟨zaa HE.out.symm,hbW⟩
 | true =>
  simp only[hf]at hif
  by_cases h1:r=-1
  . have HE:Hid (fiS s x r=true):=by show _=_;rw[fiS,hf,Bool.true_and,decide_eq_true h1,Bool.true_or]
    have g1:(r == -1)=true:=by simp[h1]
    clear h1;clear hf
    go_enter Tryz.func62,Tryz.ntmps62
    go_wp2_with fail
    rw[<-hW];clear hW
    refine(hif _).mono ?_
    rintro e u1 ⟨rfl,rfl⟩;obtain⟨c0,c1,_⟩:=X1.cells;obtain⟨d0,d1,_⟩:=X2.cells;go_wp2
    go_ret
    exact⟨zaa HE.out.symm,hbW⟩
  have g1:(r == -1)=false:=by simp[h1]
  have HE0:Hid (fiS s x r=(decide (0<=r)&&(decide (r<(s.rw.length:Int))&&decide (r<400)))):=by show _=_;rw[fiS,hf,Bool.true_and,decide_eq_false h1,Bool.false_or]
  clear h1
  by_cases h2:0<=r
  . have g2:decide (0<=r)=true:=decide_eq_true h2
    by_cases h3:r<(s.rw.length:Int)
    . have g3:decide (r<(s.rw.length:Int))=true:=decide_eq_true h3
      have HE:Hid (fiS s x r=decide (r<400)):=by show _=_;rw[HE0.out,g2,g3,Bool.true_and,Bool.true_and]
      clear hf
      go_enter Tryz.func62,Tryz.ntmps62
      go_wp2_with fail
      rw[<-hW];clear hW
      refine(hif _).mono ?_
      rintro e u1 ⟨rfl,rfl⟩;obtain⟨c0,c1,_⟩:=X1.cells;obtain⟨d0,d1,_⟩:=X2.cells;go_wp2
      go_ret
      exact⟨zaa HE.out.symm,hbW⟩
    . have g3:decide (r<(s.rw.length:Int))=false:=decide_eq_false h3
      have HE:Hid (fiS s x r=false):=by show _=_;rw[HE0.out,g2,g3];rfl
      clear hf
      go_enter Tryz.func62,Tryz.ntmps62
      go_wp2_with fail
      rw[<-hW];clear hW
      refine(hif _).mono ?_
      rintro e u1 ⟨rfl,rfl⟩;obtain⟨c0,c1,_⟩:=X1.cells;obtain⟨d0,d1,_⟩:=X2.cells;go_wp2
      go_ret
      exact⟨zaa HE.out.symm,hbW⟩
  . have g2:decide (0<=r)=false:=decide_eq_false h2
    have HE:Hid (fiS s x r=false):=by show _=_;rw[HE0.out,g2];rfl
    clear hf
    go_enter Tryz.func62,Tryz.ntmps62
    go_wp2_with fail
    rw[<-hW];clear hW
    refine(hif _).mono ?_
    rintro e u1 ⟨rfl,rfl⟩;obtain⟨c0,c1,_⟩:=X1.cells;obtain⟨d0,d1,_⟩:=X2.cells;go_wp2
    go_ret
    exact⟨zaa HE.out.symm,hbW⟩
