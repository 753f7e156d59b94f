import Derived.Test.YtgbhidcokobmmaaGreatDoorZW26
set_option maxHeartbeats 8000000
set_option maxRecDepth 100000
set_option linter.unusedSimpArgs false
set_option linter.unusedVariables false
namespace Go.Proofs.YtgbhidcokobmmaaGreatDoor
open Go.RowKit Go.Maps
def pdA(z:Int):Pd:=⟨0,0,0,z⟩
theorem Gr.cutH{S:Nat->Prop}{w:World}{a:Option Addr}{cap:Nat}{l:List Pd}(h:Gr PdE S w a cap l)(n:Nat)(hn:n<=l.length):Gr PdE S w (if cap=n then a else a.map (fun x=>x.add (n*4))) (cap-n) (l.drop n):=by
 by_cases h0:n<l.length
 . obtain⟨b,off,e,hb⟩:=h.blk (fun e=>by rw[e]at h0;simp at h0)
   subst e
   have:=h.1
   rw[if_neg (by omega)]
   have zbq:(⟨b,off,none⟩:Addr).add (n*4)=⟨b,off+n*PdE.sz,none⟩:=by
    show _=(⟨b,off+n*4,none⟩:Addr)
    unfold Addr.add
    split <;> simp_all
   show Gr PdE S w (some ((⟨b,off,none⟩:Addr).add (n*4))) _ _
   rw[zbq]
   exact h.from n hn
 . have e1:l.drop n=[]:=List.drop_eq_nil_of_le (by omega)
   rw[e1]
   have h2:=h.2.1
   refine Gr.nil _ _ _ _ _ (by omega) (fun e=>?_)
   by_cases hc:cap=n
   . omega
   . rw[if_neg hc]at e
     cases a with
     | none=>have:=h.2.2.1 rfl;omega
     | some x=>cases e
theorem zd6(S:Nat->Prop)(a:Option Addr)(ca:Nat)(xs:List Int)(n:Int)(w:World)(h:Gr E32 S w a ca xs)(hn:0<=n/\n<256)(hT:Spn w) :
 Calls Tryz.prog 7 #[.slice a xs.length ca,.int .u8 n] w fun e w'=>e=.returned (.bool true)/\Below w.heap.size w w':=by
 have kx:=h.lenB
 have HH:Hid (Gr E32 S w a ca xs):=h
 obtain⟨m,rfl⟩:∃m:Nat,n=(m:Int):=⟨n.toNat,by omega⟩
 obtain⟨P,hP⟩:∃P,xs.map pdA=P:=⟨_,rfl⟩
 have HPX:Hid (xs.map pdA=P):=hP
 have hPl:P.length=xs.length:=by rw[<-hP,List.length_map]
 have HPA:Hid (∀p∈P,-2147483648<=p.a/\p.a<=2147483647):=fun p hp=>by
  rw[<-HPX.out]at hp
  obtain⟨z,hz,rfl⟩:=List.mem_map.1 hp
  obtain⟨i,hi,e⟩:=List.getElem_of_mem hz
  obtain⟨b,off,vs,_,_,hr,_⟩:=HH.out.at (Below.refl _ _) i hi
  have:=hr.2
  rw[List.getD_eq_getElem?_getD,List.getElem?_eq_getElem hi,Option.getD_some,e]at this
  exact this
 have zag:Below w.heap.size w w:=Below.refl _ _
 clear h hP
 go_enter Tryz.func7,Tryz.ntmps7
 go_wp2_with fail
 refine(zd2 w hT).mono ?_
 rintro e u ⟨rfl,hb⟩
 replace zag:=zag.trans (hb.mono zag.size)
 clear hb
 by_cases f0:200<xs.length
 . have d0:decide ((200:Int)<(xs.length:Int))=true:=decide_eq_true (by omega)
   have d0n:decide (200<xs.length)=true:=decide_eq_true f0
   go_wp2_with fail
   refine(zd2 _ (hT.below zag)).mono ?_
   rintro e uz ⟨rfl,hbz⟩
   replace zag:=zag.trans (hbz.mono zag.size)
   clear hbz
   go_wp2_with fail
   go_ret
   exact⟨rfl,zag⟩
 have d0:decide ((200:Int)<(xs.length:Int))=false:=decide_eq_false (by omega)
 have d0n:decide (200<xs.length)=false:=decide_eq_false f0
 have HFU:Hid (Below w.heap.size w u):=zag
 go_wp2_with fail
 clear d0 d0n
 go_loopw [5,6,7] (fun v s i wr=>∃k:Nat,k<=xs.length/\i=.int .i64 k/\Hid (Ln w.heap.size wr v (P.take k))/\s=.int .i64 (wiP (P.take k))/\Below w.heap.size w wr) (fun _ _ i _=>xs.length-(intOf i).toNat)
 case atStart=>exact⟨0,Nat.zero_le _,rfl,Gw.nil _ _ _ _ _,rfl,HFU.out⟩
 case round =>
  clear HFU zag;obtain⟨k,hk,rfl,HL,rfl,hB⟩:=hrel;obtain⟨oa,oc,ev,hgr,-⟩:=HL.out.slice
  rw[List.length_take,Nat.min_eq_left (by omega)]at ev
  subst ev
  by_cases hkn:k<xs.length
  . obtain⟨b,off,vs,ea,hb,hr,hc⟩:=HH.out.at hB k hkn
    obtain⟨hv,hz1⟩:=hr
    have d0:=hc 0 (by decide)
    rw[hv,show k*E32.sz=k from Nat.mul_one k]at d0
    replace d0:wr.cell? ⟨b,off+k,none⟩=some (.int .i32 (xs.getD k 0)):=d0
    replace hz1:-2147483648<=xs.getD k 0/\xs.getD k 0<=2147483647:=hz1
    have HPK:Hid (P.getD k Pd.none=pdA (xs.getD k 0)):=by
     show _=_
     rw[<-HPX.out]
     simp[List.getD,hkn]
    have HST:Hid (_):=@zgv P k (by omega)
    have HTK:Hid (P.take (k+1)=P.take k++[pdA (xs.getD k 0)]):=by
     show _=_
     rw[List.take_succ_eq_append_getElem (by omega),<-HPK.out,List.getD_eq_getElem?_getD,List.getElem?_eq_getElem (by omega),Option.getD_some]
    rw[HPK.out]at HST
    generalize xs.getD k 0=z at d0 hz1 HPK HST HTK
    obtain⟨hz1,hz2⟩:=hz1;subst ea
    have i1:(0:Int)<=(k:Int):=by omega
    have i2:(k:Int)<(xs.length:Int):=by omega
    generalize wiP (P.take k)=y at HST ⊢
    have ztm:Hid (w6 (y+z)=wiP (P.take (k+1))):=HST.out
    obtain⟨V9,hV9,Y9,hb9⟩:∃V,V=wr.alloc (.cells #[.int .i64 0,.int .i64 0,.int .i64 0,.int .i64 z] 66)/\Bk 66 V wr.heap.size [.int .i64 0,.int .i64 0,.int .i64 0,.int .i64 z]/\Below wr.heap.size wr V:=⟨_,rfl,Bk.new _ _ _,bl1 _⟩
    have hGb:Ln w.heap.size V9 (.slice oa k oc) (P.take k):=Gw.below HL.out hb9
    have hBb:=hB.trans (hb9.mono hB.size)
    have hbs:w.heap.size<=V9.heap.size:=hBb.size
    have hll:(P.take k).length+1<=1000000:=by rw[List.length_take];omega
    have zle:Gr PdE (fun k9=>(fun _=>False) k9/\(Value.slice oa k oc).ownBlock≠some k9) V9 (some ⟨wr.heap.size,0,none⟩) 1 [pdA z]:=Gr.anyPJ (S:=fun _=>True) (Gr.one (za0.2 ⟨rfl,PdW.zero.1,PdW.zero.2.1,PdW.zero.2.2.1,⟨by show _<=z;omega,by show z<=_;omega⟩⟩) Y9.lt (fun j hj=>Y9.cell j hj))
    have HLO:Hid (∀q,(Value.slice oa k oc).ownBlock=some q->w.heap.size<=q):=fun q hq=>(Gw.lo HL.out hq).1
    have HAT:Hid (∀U,Below w.heap.size w U->U.cell? ⟨b,off+k,none⟩=some (.int .i32 z)):=fun U hU=>(hU.cell (p:=⟨b,off+k,none⟩) hb).trans ((hB.cell (p:=⟨b,off+k,none⟩) hb).symm.trans d0)
    clear HL hgr HST HPK hc hv
    go_wp2_with (at_builtin;rw[<-hV9];refine zak 46 66 Tryz.underlying46 zf9 rfl (by decide) (by decide) rfl _ _ rfl w.heap.size (fun _=>False) _ (P.take k) rfl hGb _ _ _ [pdA z] rfl rfl zle hll hbs ?_)
    intro v9 w9 hT9 hgrow _
    rw[<-hV9]at hgrow;rw[<-HTK.out]at hT9
    have HT9:Hid (Ln w.heap.size w9 v9 (P.take (k+1))):=hT9
    have hB9:Below w.heap.size w w9:=hBb.grown hgrow hBb.size (fun q hq=>HLO.out q hq)
    have d8:=HAT.out w9 hB9
    clear hT9 hgrow hGb hbs hll hBb hV9 Y9 d0 hb9 zle HAT;go_wp2
    go_roundw
    case rel=>exact⟨k+1,by omega,by go_num,HT9,by rw[<-ztm.out,<-w6_64],hB9⟩
    case measure=>simp[intOf];omega
  . obtain rfl:k=xs.length:=by omega
    have hT1:P.take xs.length=P:=List.take_of_length_le (by omega)
    have HLN:Hid (Ln w.heap.size wr (.slice oa xs.length oc) P):=by
     have:=HL.out
     rw[hT1]at this
     exact this
    have hrem:Int.tmod (m:Int) ((xs.length:Int)+1)=((m%(xs.length+1):Nat):Int):=by
     rw[Int.tmod_eq_emod_of_nonneg (by omega)]
     rfl
    have hqn:m%(xs.length+1)<xs.length+1:=Nat.mod_lt _ (by omega)
    rw[hT1]
    generalize m%(xs.length+1)=q at hrem hqn
    have hg4:¬(xs.length:Int)<(xs.length:Int):=by omega
    have zsm:Gr PdE (fun _=>False) wr oa oc P:=by rw[<-hT1];exact hgr
    have hoc:P.length<=oc:=zsm.1
    have HW1:Hid (∀U,Below wr.heap.size wr U->Calls Tryz.prog 18 #[.slice oa xs.length oc] U fun e w'=>e=.returned (.int .i64 (wiP P))/\Below U.heap.size U w'):=fun U hU=>by
     have:=zbc _ oa oc P U (zsm.below hU)
     rw[hPl]at this
     exact this
    have HW2:Hid (∀U,Below wr.heap.size wr U->Calls Tryz.prog 18 #[.slice oa q oc] U fun e w'=>e=.returned (.int .i64 (wiP (P.take q)))/\Below U.heap.size U w'):=fun U hU=>by
     have:=zbc _ oa oc (P.take q) U ((zsm.below hU).take q)
     rw[List.length_take,Nat.min_eq_left (by omega)]at this
     exact this
    have HW3:Hid (∀U,Below wr.heap.size wr U->Calls Tryz.prog 18 #[.slice (if oc=q then oa else oa.map (fun x=>x.add (q*4))) (xs.length-q) (oc-q)] U fun e w'=>e=.returned (.int .i64 (wiP (P.drop q)))/\Below U.heap.size U w'):=fun U hU=>by
     have:=zbc _ _ _ (P.drop q) U ((zsm.below hU).cutH q (by omega))
     rw[List.length_drop,hPl]at this
     exact this
    have HW4:Hid (∀U,Below wr.heap.size wr U->Calls Tryz.prog 18 #[.slice none 0 0] U fun e w'=>e=.returned (.int .i64 0)/\Below U.heap.size U w'):=fun U hU=>zbc (fun _=>True) none 0 [] U (Gr.nil _ _ _ _ _ (Nat.zero_le _) (fun _=>rfl))
    have znh:w6 (wiP (P.take q)+wiP (P.drop q))=wiP P:=by
     have h2:=znt HPA.out (by omega) q
     rw[h2]
     exact w6_id (w6_in _).1 (w6_in _).2
    have zj2:wrap64 (wiP (P.take q)+wiP (P.drop q))=wiP P:=(w6_64 _).trans znh
    have hoq:q<=oc:=by omega
    have hoq2:xs.length<=oc:=by omega
    have hqx:q<=xs.length:=by omega
    generalize wiP (P.take q)=y1 at HW2 zj2 znh
    generalize wiP (P.drop q)=y2 at HW3 zj2 znh
    generalize wiP P=y0 at HW1 zj2 znh ⊢
    generalize hA2:(if oc=q then oa else oa.map (fun x=>x.add (q*4)))=a2 at HW3
    have HA2:Hid (_=a2):=hA2
    have HSU:Hid (wrap64 (y1+y2)=y0):=zj2
    clear HL hgr zsm HLN HPX HPA znh zj2 HH hT hT1 hA2 hPl hoc
    go_upto_region 11 with fail
    refine wp_region_held_drew (S:=fun _=>True) (by kernel_rfl) trivial (fun hH=>?_)
    have hdr:Below wr.heap.size wr wr.drew:=Below.drew1
    generalize wr.drew=Z at hdr hH ⊢
    refine hT 0 hH ?_;refine hT 2 hH ?_
    refine hCall (i:=1) rfl (by kernel_rfl) (by rfl) (fun K hK=>?_)
    go_simp
    refine(HW1.out Z hdr).mono ?_
    rintro e v1 ⟨rfl,hc⟩
    replace hdr:=hdr.trans (hc.mono hdr.size)
    clear hc hH
    go_wp2_with fail
    refine hK.out _ _ trivial (fun hH=>?_)
    clear hK K
    try simp only[Act.put,pZ]
    refine hT 3 hH ?_;refine hT 4 hH ?_;refine hT 5 hH ?_;refine hT 6 hH ?_
    refine hTake (i:=7) (v:=.slice oa q oc) rfl (by kernel_rfl) (by kernel_rfl) (by kernel_rfl) (fun _ _ _ h=>h) (Or.inl ⟨by rfl,?y10⟩) hH ?r10
    case y10 =>
     intro w9 hSw
     (try dsimp only at hSw)
     go_simp
    try simp only[Act.put,pZ]
    refine hT 9 hH ?_;refine hT 10 hH ?_
    refine hTake (i:=11) (v:=.slice a2 (xs.length-q) (oc-q)) rfl (by kernel_rfl) (by kernel_rfl) (by kernel_rfl) (fun _ _ _ h=>h) (Or.inl ⟨by rfl,?y11⟩) hH ?r11
    case y11 =>
     intro w9 hSw
     (try dsimp only at hSw)
     go_simp
     exact HA2.out
    try simp only[Act.put,pZ]
    have hSU:=HSU.out
    have hSK:IntKind.i64.wrap (y1+y2)=y0:=(w6_eq _).trans ((w6_64 _).symm.trans hSU)
    have hEE:(y0==y0)=true:=beq_self_eq_true y0
    refine hT 14 hH ?_
    refine hCall (i:=8) rfl (by kernel_rfl) (by rfl) (fun K hK=>?_)
    go_simp
    refine(HW2.out v1 hdr).mono ?_
    rintro e v2 ⟨rfl,hc⟩
    replace hdr:=hdr.trans (hc.mono hdr.size)
    clear hc hH
    go_wp2_with fail
    refine hK.out _ _ trivial (fun hH=>?_)
    clear hK K
    try simp only[Act.put,pZ]
    refine hCall (i:=12) rfl (by kernel_rfl) (by rfl) (fun K hK=>?_)
    go_simp
    refine(HW3.out v2 hdr).mono ?_
    rintro e v3 ⟨rfl,hc⟩
    replace hdr:=hdr.trans (hc.mono hdr.size)
    clear hc hH
    go_wp2_with fail
    refine hK.out _ _ trivial (fun hH=>?_)
    clear hK K
    try simp only[Act.put,pZ]
    refine hT 13 hH ?_;refine hT 15 hH ?_;refine hT 16 hH ?_;refine hT 17 hH ?_
    refine hCall (i:=18) rfl (by kernel_rfl) (by rfl) (fun K hK=>?_)
    go_simp
    refine(HW4.out v3 hdr).mono ?_
    rintro e v4 ⟨rfl,hc⟩
    replace hdr:=hdr.trans (hc.mono hdr.size)
    clear hc hH
    go_wp2_with fail
    refine hK.out _ _ trivial (fun hH=>?_)
    clear hK K
    try simp only[Act.put,pZ]
    refine hT 19 hH ?_;refine hT 20 hH ?_;refine hT 21 hH ?_
    refine wpAnyH_done (by kernel_rfl) ?_ _
    have zag:=hB.trans (hdr.mono hB.size)
    clear hH;go_wp2
    go_ret
    exact⟨rfl,zag⟩
