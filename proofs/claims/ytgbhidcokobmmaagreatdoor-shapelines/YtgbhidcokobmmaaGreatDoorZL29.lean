import Derived.Test.YtgbhidcokobmmaaGreatDoorZL28
set_option maxHeartbeats 8000000
set_option maxRecDepth 100000
set_option linter.unusedSimpArgs false
set_option linter.unusedVariables false
namespace Go.Proofs.YtgbhidcokobmmaaGreatDoor
open Go.RowKit Go.Maps
theorem addF(b off q:Nat):Option.map (fun(x:Addr)=>x.add q) (some (⟨b,off,none⟩:Addr))=some ⟨b,off+q,none⟩:=by
 show some ((⟨b,off,none⟩:Addr).add q)=_
 unfold Addr.add
 split <;> simp_all
theorem Gr.cutF{S:Nat->Prop}{w:World}{a:Option Addr}{cap:Nat}{l:List Int}(h:Gr El.int S w a cap l)(n:Nat)(hn:n<=l.length):Gr El.int S w (if cap=n then a else a.map (fun x=>x.add n)) (cap-n) (l.drop n):=by
 by_cases h0:n<l.length
 . obtain⟨b,off,e,hb⟩:=h.blk (fun e=>by rw[e]at h0;simp at h0)
   subst e
   have:=h.1
   rw[if_neg (by omega)]
   have zdx:(⟨b,off,none⟩:Addr).add n=⟨b,off+n*El.int.sz,none⟩:=by
    show _=(⟨b,off+n*1,none⟩:Addr)
    rw[Nat.mul_one]
    unfold Addr.add
    split <;> simp_all
   show Gr El.int S w (some ((⟨b,off,none⟩:Addr).add n)) _ _
   rw[zdx]
   exact h.from n hn
 . have e:l.drop n=[]:=List.drop_eq_nil_of_le (by omega)
   rw[e]
   refine Gr.nil _ _ _ _ _ (Nat.le_trans (Nat.sub_le _ _) h.2.1) (fun e2=>?_)
   by_cases hc:cap=n
   . omega
   . rw[if_neg hc]at e2
     have:=h.2.2.1 (by cases a with | none=>rfl | some x=>cases e2)
     omega
theorem zvn(n:Int):∀l:List Int,(puT n l).length<=l.length+1:=by
 intro l
 induction l with
 | nil=>simp[puT]
 | cons x t ih =>
  rw[puT]
  split
  . simp only[List.length_cons];omega
  . split <;> simp only[List.length_cons] <;> omega
theorem zmr(S:Nat->Prop)(a:Option Addr)(ca:Nat)(L:List Int)(n:Int)(w:World)(hl:Gr El.int S w a ca L)(hn:I64 n)(hL:L.length<=400000) :
 Calls Tryz.prog 61 #[.slice a L.length ca,.int .i64 n] w fun e w'=>RowF (puT n L) w.heap.size w' e/\Below w.heap.size w w':=by
 have kl:=hl.lenB
 have HN:Hid (I64 n):=hn
 have HL:Hid (Gr El.int S w a ca L):=hl
 have HPU:Hid (∀k,k<=L.length->(∀j,j<k->L.getD j 0<n)->(k<L.length->¬L.getD k 0<n)->puT n L=L.take k++n::L.drop (if k<L.length/\L.getD k 0=n then k+1 else k)):=fun k h1 h2 h3=>zx4 h1 h2 h3
 clear hl hn
 go_enter Tryz.func61,Tryz.ntmps61
 go_upto_block 0 with fail
 go_cut [5,6]from 7 to 27 (fun s5 s6 wx=>∃(k:Nat) (P:List Int),s6=.int .i64 (k:Int)/\k<=L.length/\Hid (∀j,j<k->L.getD j 0<n)/\Hid (k<L.length->¬L.getD k 0<n)/\Hid (P=L.take k)/\Hid (Gi w.heap.size wx s5 P)/\Below w.heap.size w wx)
 case first =>
  go_wp2_with fail
  go_loopw [5,6] (fun v i wr=>∃(k:Nat) (P:List Int),k<=L.length/\i=.int .i64 (k:Int)/\Hid (∀j,j<k->L.getD j 0<n)/\Hid (P=L.take k)/\Hid (Gi w.heap.size wr v P)/\Below w.heap.size w wr) (fun _ i _=>L.length-(intOf i).toNat)
  case atStart=>exact⟨0,[],Nat.zero_le _,rfl,(fun j hj=>by omega),(rfl:[]=L.take 0),Gi.nil _ _,Below.refl _ _⟩
  case round =>
   obtain⟨k,P,hk,rfl,HLE,HP,hGw,hB⟩:=hrel
   by_cases hkn:k<L.length
   rotate_left
   . have g1:decide ((k:Int)<(L.length:Int))=false:=decide_eq_false (by omega)
     have g2:¬(k:Int)<(L.length:Int):=by omega
     have HNX:Hid (k<L.length->¬L.getD k 0<n):=fun h=>absurd h hkn
     clear hkn
     go_wp2_with fail
     go_meet
     exact⟨k,P,rfl,hk,HLE,HNX,HP,hGw,hB⟩
   have g1:decide ((k:Int)<(L.length:Int))=true:=decide_eq_true (by omega)
   obtain⟨b,off,rfl,hb,hI,d0⟩:=HL.out.in1 hB k hkn
   have i1:(0:Int)<=(k:Int):=by omega
   have i2:(k:Int)<(L.length:Int):=by omega
   by_cases hlt:L.getD k 0<n
   rotate_left
   . have HNX:Hid (k<L.length->¬L.getD k 0<n):=fun _=>hlt
     generalize L.getD k 0=x at d0 hI hlt
     have g2:decide (x<n)=false:=decide_eq_false hlt
     clear hkn hlt
     go_wp2_with fail
     go_meet
     exact⟨k,P,rfl,hk,HLE,HNX,HP,hGw,hB⟩
   have zxh:Hid (∀j,j<k+1->L.getD j 0<n):=fun j hj=>by
    rcases Nat.lt_or_ge j k with h1|h1
    . exact HLE.out j h1
    . rw[show j=k by omega];exact hlt
   have HSN:Hid (P++[L.getD k 0]=L.take (k+1)):=by show _=_;rw[HP.out,zgb (d:=(0:Int)) hkn]
   have hpl:P.length<=400000:=by rw[HP.out,List.length_take];omega
   generalize L.getD k 0=x at d0 hI hlt HSN
   have g2:decide (x<n)=true:=decide_eq_true hlt
   obtain⟨va,vc,rfl,-,-⟩:=hGw.out.slice
   obtain⟨V9,hV9,Y9,hb9⟩:∃V,V=wr.alloc (.cells #[.int .i64 x] 3)/\Bk 3 V wr.heap.size [.int .i64 x]/\Below wr.heap.size wr V:=⟨_,rfl,Bk.new _ _ _,bl1 _⟩
   have hGb:=hGw.out.below hb9
   have hBb:=hB.trans (hb9.mono hB.size)
   have hbs:w.heap.size<=V9.heap.size:=hBb.size
   have hll:P.length+1<=1000000:=by omega
   have zyu:=Y9.lt
   have y0:V9.cell? ⟨wr.heap.size,0,none⟩=some (.int .i64 x):=Y9.cell 0 (by simp)
   have HLO:Hid (∀q,(Value.slice va P.length vc).ownBlock=some q->w.heap.size<=q):=fun q hq=>(hGw.out.lo hq).1
   clear HLE HP hGw hkn hlt hpl
   go_wp2_with (at_builtin;rw[<-hV9];refine za7 rfl _ _ rfl w.heap.size _ P rfl hGb wr.heap.size x rfl zyu y0 hI hll hbs ?_)
   intro v9 w9 hT9 hgrow _
   rw[<-hV9]at hgrow
   have HT9:Hid (Gi w.heap.size w9 v9 (P++[x])):=hT9
   have hB9:Below w.heap.size w w9:=hBb.grown hgrow hBb.size (fun q hq=>HLO.out q hq)
   clear hT9 hgrow hGb hbs hll hBb hV9 Y9 d0 hB y0 zyu hb9 g2;go_wp2
   go_roundw
   case rel=>exact⟨k+1,P++[x],by omega,by go_num,zxh,HSN,HT9,hB9⟩
   case measure=>simp[intOf];omega
 case rest =>
 obtain⟨k,P,rfl,hk,HLE,HNX,HP,hGw,hB⟩:=hcut
 have HF:Hid (_):=HPU.out k hk HLE.out HNX.out
 rw[<-HP.out]at HF
 have hpl:P.length<=400000:=by rw[HP.out,List.length_take];omega
 obtain⟨va,vc,rfl,-,-⟩:=hGw.out.slice
 obtain⟨V9,hV9,Y9,hb9⟩:∃V,V=wc.alloc (.cells #[.int .i64 n] 3)/\Bk 3 V wc.heap.size [.int .i64 n]/\Below wc.heap.size wc V:=⟨_,rfl,Bk.new _ _ _,bl1 _⟩
 have hGb:=hGw.out.below hb9
 have hBb:=hB.trans (hb9.mono hB.size)
 have hbs:w.heap.size<=V9.heap.size:=hBb.size
 have hll:P.length+1<=1000000:=by omega
 have zyu:=Y9.lt
 have y0:V9.cell? ⟨wc.heap.size,0,none⟩=some (.int .i64 n):=Y9.cell 0 (by simp)
 have HLO:Hid (∀q,(Value.slice va P.length vc).ownBlock=some q->w.heap.size<=q):=fun q hq=>(hGw.out.lo hq).1
 have hnn:=HN.out
 clear HLE HP hGw HPU HNX
 go_wp2_with (at_builtin;rw[<-hV9];refine za7 rfl _ _ rfl w.heap.size _ P rfl hGb wc.heap.size n rfl zyu y0 hnn hll hbs ?_)
 intro v2 w2 hT9 hgrow _
 rw[<-hV9]at hgrow
 have hB2:Below w.heap.size w w2:=hBb.grown hgrow hBb.size (fun q hq=>HLO.out q hq)
 clear hgrow hGb hbs hll hBb hV9 Y9 hB y0 zyu hb9 hnn HLO
 have HF2:Hid (puT n L=(P++[n])++L.drop (if k<L.length/\L.getD k 0=n then k+1 else k)):=by show _=_;rw[HF.out,List.append_assoc];rfl
 have hrl:(P++[n]).length<=400001:=by rw[List.length_append];simp;omega
 generalize P++[n]=R at hT9 HF2 hrl
 obtain⟨a2,c2,rfl,-,-⟩:=hT9.slice
 have HT2:Hid (Gi w.heap.size w2 (.slice a2 R.length c2) R):=hT9
 clear hT9 HF hpl
 by_cases hkn:k<L.length
 rotate_left
 . rw[if_neg (fun h=>hkn h.1)]at HF2
   have g1:decide ((k:Int)<(L.length:Int))=false:=decide_eq_false (by omega)
   have g1n:decide (k<L.length)=false:=decide_eq_false hkn
   have hqL:k<=L.length:=hk
   clear hkn
   have HQ:Hid (Gr El.int (fun k9=>False/\(Value.slice a2 R.length c2).ownBlock≠some k9) w2 (if ca=k then a else Option.map (fun(x:Addr)=>x.add k) a) (ca-k) (L.drop k)):=((HL.out.below hB2).cutF k hqL).anyF
   have zkb:(L.drop k).length<=400000:=by rw[List.length_drop];omega
   have HLD:Hid (L.length-k=(L.drop k).length):=by show _=_;rw[List.length_drop]
   have hqc:k<=ca:=Nat.le_trans hqL HL.out.1
   obtain⟨D,hD⟩:∃D,L.drop k=D:=⟨_,rfl⟩
   rw[hD]at HQ zkb HLD HF2
   have zhn:R.length+D.length<=1000000:=by omega
   have hW2:=hB2.size
   clear hD
   by_cases hc:ca=k
   . subst hc
     rw[if_pos rfl,Nat.sub_self]at HQ
     have HLD0:Hid (0=D.length):=by have:=HLD.out;have:=HL.out.1;show _=_;omega
     go_wp2_with (at_builtin;refine zab (E:=El.int) 37 3 Tryz.underlying37 zbn rfl (by decide) (by decide) rfl _ _ rfl w.heap.size (fun _=>False) _ R rfl HT2.out _ _ _ D HLD.out rfl HQ.out zhn hW2 ?_)
     intro v3 w3 hT3 hgrow _
     have hB3:Below w.heap.size w w3:=hB2.grown hgrow hW2 (fun k9 hk=>(HT2.out.lo hk).1)
     have HV:Hid (RowF (puT n L) w.heap.size w3 (.returned v3)):=⟨v3,rfl,by rw[HF2.out];exact hT3⟩
     clear hgrow hT3 zhn hW2;go_wp2
     go_ret
     exact⟨HV.out,hB3⟩
   . rw[if_neg hc]at HQ
     go_wp2_with (at_builtin;refine zab (E:=El.int) 37 3 Tryz.underlying37 zbn rfl (by decide) (by decide) rfl _ _ rfl w.heap.size (fun _=>False) _ R rfl HT2.out _ _ _ D HLD.out rfl HQ.out zhn hW2 ?_)
     intro v3 w3 hT3 hgrow _
     have hB3:Below w.heap.size w w3:=hB2.grown hgrow hW2 (fun k9 hk=>(HT2.out.lo hk).1)
     have HV:Hid (RowF (puT n L) w.heap.size w3 (.returned v3)):=⟨v3,rfl,by rw[HF2.out];exact hT3⟩
     clear hgrow hT3 zhn hW2;go_wp2
     go_ret
     exact⟨HV.out,hB3⟩
 have g1:decide ((k:Int)<(L.length:Int))=true:=decide_eq_true (by omega)
 have g1n:decide (k<L.length)=true:=decide_eq_true hkn
 obtain⟨b,off,rfl,hb,hI,d0⟩:=HL.out.in1 hB2 k hkn
 have i1:(0:Int)<=(k:Int):=by omega
 have i2:(k:Int)<(L.length:Int):=by omega
 by_cases heq:L.getD k 0=n
 . rw[if_pos ⟨hkn,heq⟩]at HF2
   rw[heq]at d0
   have hqL:k+1<=L.length:=hkn
   clear hkn heq
   obtain⟨q,hq⟩:∃q:Nat,k+1=q:=⟨_,rfl⟩
   have hqi:(k:Int)+1=(q:Int):=by omega
   rw[hq]at HF2 hqL
   go_upto_region 9 with fail
   try rw[hqi]
   clear hq hqi d0;clear g1 g1n
   have HQ:Hid (Gr El.int (fun k=>False/\(Value.slice a2 R.length c2).ownBlock≠some k) w2 (if ca=q then (some (⟨b,off,none⟩:Addr))else Option.map (fun(x:Addr)=>x.add q) (some (⟨b,off,none⟩:Addr))) (ca-q) (L.drop q)):=((HL.out.below hB2).cutF q hqL).anyF
   have zkb:(L.drop q).length<=400000:=by rw[List.length_drop];omega
   have HLD:Hid (L.length-q=(L.drop q).length):=by show _=_;rw[List.length_drop]
   have hqc:q<=ca:=Nat.le_trans hqL HL.out.1
   obtain⟨D,hD⟩:∃D,L.drop q=D:=⟨_,rfl⟩
   rw[hD]at HQ zkb HLD HF2
   have zhn:R.length+D.length<=1000000:=by omega
   have hW2:=hB2.size
   clear hD
   by_cases hc:ca=q
   . subst hc
     rw[if_pos rfl,Nat.sub_self]at HQ
     have HLD0:Hid (0=D.length):=by have:=HLD.out;have:=HL.out.1;show _=_;omega
     go_wp2_with (at_builtin;refine zab (E:=El.int) 37 3 Tryz.underlying37 zbn rfl (by decide) (by decide) rfl _ _ rfl w.heap.size (fun _=>False) _ R rfl HT2.out _ _ _ D HLD.out rfl HQ.out zhn hW2 ?_)
     intro v3 w3 hT3 hgrow _
     have hB3:Below w.heap.size w w3:=hB2.grown hgrow hW2 (fun k hk=>(HT2.out.lo hk).1)
     have HV:Hid (RowF (puT n L) w.heap.size w3 (.returned v3)):=⟨v3,rfl,by rw[HF2.out];exact hT3⟩
     clear hgrow hT3 zhn hW2;go_wp2
     go_ret
     exact⟨HV.out,hB3⟩
   . rw[if_neg hc,addF]at HQ
     go_wp2_with (at_builtin;refine zab (E:=El.int) 37 3 Tryz.underlying37 zbn rfl (by decide) (by decide) rfl _ _ rfl w.heap.size (fun _=>False) _ R rfl HT2.out _ _ _ D HLD.out rfl HQ.out zhn hW2 ?_)
     intro v3 w3 hT3 hgrow _
     have hB3:Below w.heap.size w w3:=hB2.grown hgrow hW2 (fun k hk=>(HT2.out.lo hk).1)
     have HV:Hid (RowF (puT n L) w.heap.size w3 (.returned v3)):=⟨v3,rfl,by rw[HF2.out];exact hT3⟩
     clear hgrow hT3 zhn hW2;go_wp2
     go_ret
     exact⟨HV.out,hB3⟩
 . rw[if_neg (fun h=>heq h.2)]at HF2
   have hqL:k<=L.length:=hk
   generalize L.getD k 0=x at d0 heq
   have g2:(x==n)=false:=beq_eq_false_iff_ne.2 heq
   clear hkn heq hI;clear hb
   have HQ:Hid (Gr El.int (fun k9=>False/\(Value.slice a2 R.length c2).ownBlock≠some k9) w2 (if ca=k then (some (⟨b,off,none⟩:Addr))else Option.map (fun(x:Addr)=>x.add k) (some (⟨b,off,none⟩:Addr))) (ca-k) (L.drop k)):=((HL.out.below hB2).cutF k hqL).anyF
   have zkb:(L.drop k).length<=400000:=by rw[List.length_drop];omega
   have HLD:Hid (L.length-k=(L.drop k).length):=by show _=_;rw[List.length_drop]
   have hqc:k<=ca:=Nat.le_trans hqL HL.out.1
   obtain⟨D,hD⟩:∃D,L.drop k=D:=⟨_,rfl⟩
   rw[hD]at HQ zkb HLD HF2
   have zhn:R.length+D.length<=1000000:=by omega
   have hW2:=hB2.size
   clear hD
   by_cases hc:ca=k
   . subst hc
     rw[if_pos rfl,Nat.sub_self]at HQ
     have HLD0:Hid (0=D.length):=by have:=HLD.out;have:=HL.out.1;show _=_;omega
     go_wp2_with (at_builtin;refine zab (E:=El.int) 37 3 Tryz.underlying37 zbn rfl (by decide) (by decide) rfl _ _ rfl w.heap.size (fun _=>False) _ R rfl HT2.out _ _ _ D HLD.out rfl HQ.out zhn hW2 ?_)
     intro v3 w3 hT3 hgrow _
     have hB3:Below w.heap.size w w3:=hB2.grown hgrow hW2 (fun k9 hk=>(HT2.out.lo hk).1)
     have HV:Hid (RowF (puT n L) w.heap.size w3 (.returned v3)):=⟨v3,rfl,by rw[HF2.out];exact hT3⟩
     clear hgrow hT3 zhn hW2;go_wp2
     go_ret
     exact⟨HV.out,hB3⟩
   . rw[if_neg hc,addF]at HQ
     go_wp2_with (at_builtin;refine zab (E:=El.int) 37 3 Tryz.underlying37 zbn rfl (by decide) (by decide) rfl _ _ rfl w.heap.size (fun _=>False) _ R rfl HT2.out _ _ _ D HLD.out rfl HQ.out zhn hW2 ?_)
     intro v3 w3 hT3 hgrow _
     have hB3:Below w.heap.size w w3:=hB2.grown hgrow hW2 (fun k9 hk=>(HT2.out.lo hk).1)
     have HV:Hid (RowF (puT n L) w.heap.size w3 (.returned v3)):=⟨v3,rfl,by rw[HF2.out];exact hT3⟩
     clear hgrow hT3 zhn hW2;go_wp2
     go_ret
     exact⟨HV.out,hB3⟩
theorem zdn(S:Nat->Prop)(a:Option Addr)(ca:Nat)(l:List Ft)(b:Option Addr)(cb:Nat)(sw:List Sw)(c:Option Addr)(cc:Nat)(cs:List Int)(d:Option Addr)(cd:Nat)(on:List ByteArray)(w:World)(hl:Gr FtE S w a ca l)(hs:Gr SwE S w b cb sw)(hc:Gr El.int S w c cc cs)(ho:Gr El.str S w d cd on)(hb1:∀f∈l,f.lk.length<=1000)(hb2:∀x∈sw,x.lk.length<=1000)(hll:l.length<=300) :
 Calls Tryz.prog 31 #[.slice a l.length ca,.slice b sw.length cb,.slice c cs.length cc,.slice d on.length cd] w fun e w'=>RowF (chFt l sw cs on) w.heap.size w' e/\Below w.heap.size w w':=by
 have kl:=hl.lenB
 have ks:=hs.lenB
 have kc:=hc.lenB
 have ko:=ho.lenB
 have HL:Hid (Gr FtE S w a ca l):=hl
 have HS:Hid (Gr SwE S w b cb sw):=hs
 have HC:Hid (Gr El.int S w c cc cs):=hc
 have HO:Hid (Gr El.str S w d cd on):=ho
 have HB1:Hid (∀f∈l,f.lk.length<=1000):=hb1
 have HB2:Hid (∀x∈sw,x.lk.length<=1000):=hb2
 have HLN:Hid (∀n,(lkQ l sw n cs).length<=1000):=fun n=>zpy (p:=fun x=>x.length<=1000) (by simp) hb1 hb2
 have HFIN:Hid (chFt l sw cs on=chT l sw cs on l.length):=rfl
 clear hl hs hc ho hb1 hb2
 go_enter Tryz.func31,Tryz.ntmps31
 go_wp2
 go_loopw [9,10] (fun v i wr=>∃(k:Nat) (M:List Int),k<=l.length/\i=.int .i64 (k:Int)/\Hid (M=chT l sw cs on k)/\M.length<=1000*k/\Hid (Gi w.heap.size wr v M)/\Below w.heap.size w wr) (fun _ i _=>l.length-(ioF i).toNat)
 case atStart=>exact⟨0,[],Nat.zero_le _,rfl,(rfl:[]=chT l sw cs on 0),Nat.zero_le _,Gi.nil _ _,Below.refl _ _⟩
 case round =>
  obtain⟨k,M,hk,rfl,HM,hml,hGw,hB⟩:=hrel;obtain⟨va,vc,rfl,-,-⟩:=hGw.out.slice
  by_cases hkn:k<l.length
  . obtain⟨b1,off,a1,c1,ea,hb,hsz,d0,d1,hr⟩:=HL.out.ft hB k hkn
    have HT:Hid (chT l sw cs on (k+1)=if hasT on (l.getD k Ft.none).tg then adT M (lkQ l sw (k:Int) cs)else M):=by show _=_;rw[HM.out];rfl
    have i1:(0:Int)<=(k:Int):=by omega
    have i2:(k:Int)<(l.length:Int):=by omega
    generalize l.getD k Ft.none=x at *
    obtain⟨tg,lk⟩:=x
    dsimp only at *
    have hco:=zmt S d cd on tg wr (HO.out.below hB)
    have hlo:=zib S a ca l b cb sw (k:Int) c cc cs wr (HL.out.below hB) (HS.out.below hB) (HC.out.below hB) ⟨by omega,by omega⟩ HB1.out HB2.out
    subst ea;clear hr hsz HM
    cases hh:hasT on tg with
    | false =>
     rw[hh]at hco HT
     rw[if_neg (by decide)]at HT
     have HT2:Hid (M=chT l sw cs on (k+1)):=HT.out.symm
     clear HT hlo hh
     go_wp2_with fail
     refine hco.mono ?_
     rintro e u ⟨rfl,rfl⟩;clear hco;go_wp2
     go_roundw
     case rel=>exact⟨k+1,M,by omega,by go_num,HT2,by omega,hGw,hB⟩
     case measure=>simp[ioF,Go.RowKit.intOf];omega
    | true =>
     rw[hh]at hco HT;rw[if_pos rfl]at HT;clear hh
     go_wp2_with fail
     refine hco.mono ?_
     rintro e u ⟨rfl,rfl⟩;clear hco
     go_wp2_with fail
     refine hlo.mono ?_
     rintro e u2 ⟨hrow,hb3⟩;obtain⟨v,rfl,hG⟩:=hrow.out
     have hxl:=HLN.out (k:Int)
     have hg2:=hGw.out.below hb3
     replace hB:=hB.trans (hb3.mono hB.size)
     obtain⟨X,hX⟩:∃X,lkQ l sw (k:Int) cs=X:=⟨_,rfl⟩
     rw[hX]at hG hxl HT
     obtain⟨a2,c2,rfl,hgr,-⟩:=Gw.slice hG
     have HX:Hid (Gr El.int (fun _=>False) u2 a2 c2 X):=hgr
     have HG0:Hid (Gi w.heap.size u2 (.slice va M.length vc) M):=hg2
     have HB0:Hid (Below w.heap.size w u2):=hB
     have HAS:Hid (∀j,j<X.length->adT M (X.take (j+1))=puT (X.getD j 0) (adT M (X.take j))):=fun j hj=>zts hj
     clear hlo hb3 hG hrow hX hgr hg2 hB hGw d0 d1
     have HA0:Hid (M=adT M (X.take 0)):=rfl
     go_wp2
     go_loopw [9,12] (fun v i wr2=>∃(j:Nat) (R:List Int),j<=X.length/\i=.int .i64 (j:Int)/\Hid (R=adT M (X.take j))/\R.length<=1000*k+j/\Hid (Gi w.heap.size wr2 v R)/\Below u2.heap.size u2 wr2/\Below w.heap.size w wr2) (fun _ i _=>X.length-(ioF i).toNat)
     case atStart=>exact⟨0,M,Nat.zero_le _,rfl,HA0,by omega,HG0,Below.refl _ _,HB0.out⟩
     case round =>
      clear HG0 HB0 HA0
      rename World=>wy
      obtain⟨j,R,hj,rfl,HR,hrl,hGw,hX,hB⟩:=hrel
      obtain⟨va2,vc2,rfl,hgr,-⟩:=Gw.slice hGw.out
      by_cases hjn:j<X.length
      . obtain⟨b4,o4,ea,hb4,hI,d4⟩:=HX.out.in1 hX j hjn
        have HRN:Hid (puT (X.getD j 0) R=adT M (X.take (j+1))):=by show _=_;rw[HAS.out j hjn,HR.out]
        have hpl:=zvn (X.getD j 0) R
        generalize X.getD j 0=z at d4 hI HRN hpl
        subst ea
        have i3:(0:Int)<=(j:Int):=by omega
        have i4:(j:Int)<(X.length:Int):=by omega
        have hsp:=zmr _ va2 vc2 R z wy hgr hI (by omega)
        clear HR hGw hgr hI
        go_wp2_with fail
        refine hsp.mono ?_
        rintro e u3 ⟨hrow,hb5⟩;obtain⟨v,rfl,hG⟩:=hrow.out
        have HG5:Hid (Gi w.heap.size u3 v (puT z R)):=hG.lowF hB.size
        have hX5:=hX.trans (hb5.mono hX.size)
        have hB5:=hB.trans (hb5.mono hB.size)
        clear hsp hrow hb5 hG hX hB d4;go_wp2
        go_roundw
        case rel=>exact⟨j+1,puT z R,by omega,by go_num,HRN,by omega,HG5,hX5,hB5⟩
        case measure=>simp[ioF,Go.RowKit.intOf];omega
      . have HT2:Hid (R=chT l sw cs on (k+1)):=by show _=_;rw[HT.out,HR.out,show j=X.length by omega,List.take_length]
        have g4:¬(j:Int)<(X.length:Int):=by omega
        clear HT HR hgr;go_wp2
        go_roundw
        case rel=>exact⟨k+1,R,by omega,by go_num,HT2,by omega,hGw,hB⟩
        case measure=>simp[ioF,Go.RowKit.intOf];omega
  . obtain rfl:k=l.length:=by omega
    have g4:¬(l.length:Int)<(l.length:Int):=by omega
    have HV:Hid (RowF (chFt l sw cs on) w.heap.size wr (.returned (.slice va M.length vc))):=⟨_,rfl,by rw[HFIN.out,<-HM.out];exact hGw.out⟩
    clear hGw HM;go_wp2
    go_ret
    exact⟨HV.out,hB⟩
theorem zge(S:Nat->Prop)(d:FoD)(x:Fo)(c:Option Addr)(cc:Nat)(cs:List Int)(t:ByteArray)(o:Option Addr)(oc:Nat)(on:List ByteArray)(w:World)(h:FoR S w d x)(hB:FoB x)(hc:Gr El.int S w c cc cs)(ho:Gr El.str S w o oc on)(ht:t.size<=100000) :
 Calls Tryz.prog 11 #[fV d x,.slice c cs.length cc,.string t,.slice o on.length oc] w fun e w'=>LnR (lnP x cs (sb t) on) w' e/\Below w.heap.size w w':=by
 have kg:x.gl.length<=40:=hB.gl
 obtain⟨xa,xl,xc,ba,bl,bc,ga,gc,ma,mc,la,lc,ta,tl,tc,da,dl,dc,ra,rc,ka,kc,fa,fc,sa,sc⟩:=d
 have HSH:Hid (∀U,Below w.heap.size w U->Calls Tryz.prog 17 #[.agg #[.slice xa xl xc,.slice ba bl bc,.slice ga x.s.rg.length gc,.slice ma x.s.rw.length mc,.slice la x.gl.length lc,.slice ta tl tc,.slice da dl dc,.slice ra x.rn.length rc,.slice ka x.lk.length kc,.slice fa x.ft.length fc,.slice sa x.sw.length sc]] U fun e w'=>e=.returned (.bool (shB x))/\Below U.heap.size U w'):=fun U hU=>zem S ⟨xa,xl,xc,ba,bl,bc,ga,gc,ma,mc,la,lc,ta,tl,tc,da,dl,dc,ra,rc,ka,kc,fa,fc,sa,sc⟩ x U (h.below hU) hB
 have HCH:Hid (∀U,Below w.heap.size w U->Calls Tryz.prog 31 #[.slice fa x.ft.length fc,.slice sa x.sw.length sc,.slice c cs.length cc,.slice o on.length oc] U fun e w'=>RowF (chFt x.ft x.sw cs on) U.heap.size w' e/\Below U.heap.size U w'):=fun U hU=>zdn S fa fc x.ft sa sc x.sw c cc cs o oc on U (h.hf.below hU) (h.hs.below hU) (hc.below hU) (ho.below hU) hB.f1 hB.f2 hB.f3
 have HMK:Hid (∀U,Below w.heap.size w U->Calls Tryz.prog 32 #[.agg #[.slice xa xl xc,.slice ba bl bc,.slice ga x.s.rg.length gc,.slice ma x.s.rw.length mc,.slice la x.gl.length lc,.slice ta tl tc,.slice da dl dc,.slice ra x.rn.length rc,.slice ka x.lk.length kc,.slice fa x.ft.length fc,.slice sa x.sw.length sc]] U fun e w'=>RowM (mkG x.gl) U.heap.size w' e/\Below U.heap.size U w'):=fun U hU=>zfe S ⟨xa,xl,xc,ba,bl,bc,ga,gc,ma,mc,la,lc,ta,tl,tc,da,dl,dc,ra,rc,ka,kc,fa,fc,sa,sc⟩ x U (h.below hU) hB
 have HMP:Hid (∀U,Below w.heap.size w U->Calls Tryz.prog 20 #[.slice ra x.rn.length rc,.string t] U fun e w'=>(∃v,e=.returned v/\Io U.heap.size w' v (mpC x.rn (sb t)))/\Below U.heap.size U w'):=fun U hU=>(zr4 S ra rc x.rn t U (h.hr.below hU) ht hB.no).mono (fun e w' ⟨v,h1,h2,h3⟩=>⟨⟨v,h1,h2⟩,h3⟩)
 have HLK:Hid (∀U,Below w.heap.size w U->Gr LkE S U ka kc x.lk):=fun U hU=>h.hk.below hU
 obtain⟨W,hW,XW,hbW⟩:∃W,W=w.alloc (.cells #[.slice xa xl xc,.slice ba bl bc,.slice ga x.s.rg.length gc,.slice ma x.s.rw.length mc,.slice la x.gl.length lc,.slice ta tl tc,.slice da dl dc,.slice ra x.rn.length rc,.slice ka x.lk.length kc,.slice fa x.ft.length fc,.slice sa x.sw.length sc] 36)/\Bk 36 W w.heap.size [.slice xa xl xc,.slice ba bl bc,.slice ga x.s.rg.length gc,.slice ma x.s.rw.length mc,.slice la x.gl.length lc,.slice ta tl tc,.slice da dl dc,.slice ra x.rn.length rc,.slice ka x.lk.length kc,.slice fa x.ft.length fc,.slice sa x.sw.length sc]/\Below w.heap.size w W:=⟨_,rfl,Bk.new _ _ _,bl1 _⟩
 have hsh:=HSH.out W hbW
 have XU:=XW
 obtain⟨x0,x1,x2,x3,x4,x5,x6,x7,x8,x9,x10⟩:=XU.elevenH;clear h hB hc ho HSH
 go_enter Tryz.func11,Tryz.ntmps11
 go_upto_region 1 with fail
 rw[<-hW];clear hW
 cases hS:shB x with
 | false =>
  rw[hS]at hsh
  have HV:Hid (lnP x cs (sb t) on=(1,[])):=zug hS
  clear HCH HMK HMP HLK hS
  go_wp2_with fail
  refine hsh.mono ?_
  rintro e u ⟨rfl,hb⟩
  have zaf:=hbW.trans (hb.mono hbW.size)
  clear hsh hb x0 x1 x2 x3 x4 x5 x6 x7 x8 x9 x10;go_wp2
  go_ret2
  exact⟨LnR.nil HV.out _,zaf⟩
 | true =>
  rw[hS]at hsh
  go_wp2_with fail
  refine hsh.mono ?_
  rintro e u ⟨rfl,hb⟩
  have hb2:=hbW.trans (hb.mono hbW.size)
  replace XU:=XU.below hb
  have hmp:=HMP.out u hb2
  clear hsh hb HMP XW x0 x1 x2 x3 x4 x5 x6 x7 x8 x9 x10;obtain⟨x0,x1,x2,x3,x4,x5,x6,x7,x8,x9,x10⟩:=XU.elevenH
  go_wp2_with fail
  refine hmp.mono ?_
  rintro e u3 ⟨⟨v,rfl,hIo⟩,hb⟩
  obtain⟨va,vc,rfl,HGL⟩:=hIo.grL (S:=fun _=>True)
  have hb3:=hb2.trans (hb.mono hb2.size)
  replace XU:=XU.below hb
  have HVL:Hid (100<(mpC x.rn (sb t)).length->lnP x cs (sb t) on=(3,[])):=zlt hS
  have HVA:Hid (¬100<(mpC x.rn (sb t)).length->lnP x cs (sb t) on=_):=zj6 hS
  generalize mpC x.rn (sb t)=M at HVL HVA HGL
  have kM:=HGL.lenB
  have HGM:Hid (Gr El.int (fun _=>True) u3 va vc M):=HGL
  clear hmp hIo hb hb2 HGL hS x0 x1 x2 x3 x4 x5 x6 x7 x8 x9 x10
  by_cases zkd:100<M.length
  . have d0:decide ((100:Int)<(M.length:Int))=true:=decide_eq_true (by omega)
    have d0n:decide (100<M.length)=true:=decide_eq_true zkd
    have HV:Hid (lnP x cs (sb t) on=(3,[])):=HVL.out zkd
    clear HCH HMK HLK HVL HVA zkd XU
    go_wp2_with fail
    go_ret2
    exact⟨LnR.nil HV.out _,hb3⟩
  . have d0:decide ((100:Int)<(M.length:Int))=false:=decide_eq_false (by omega)
    have d0n:decide (100<M.length)=false:=decide_eq_false zkd
    have HV:Hid (lnP x cs (sb t) on=_):=HVA.out zkd
    have HML:Hid (M.length<=100):=by show _<=_;omega
    clear HVL HVA zkd
    go_upto_region 6 with fail
    clear d0 d0n
    refine wp_region_held_drew (S:=fun u=>u.cell? ⟨w.heap.size,0,none⟩=some (.slice xa xl xc)/\u.cell? ⟨w.heap.size,1,none⟩=some (.slice ba bl bc)/\u.cell? ⟨w.heap.size,2,none⟩=some (.slice ga x.s.rg.length gc)/\u.cell? ⟨w.heap.size,3,none⟩=some (.slice ma x.s.rw.length mc)/\u.cell? ⟨w.heap.size,4,none⟩=some (.slice la x.gl.length lc)/\u.cell? ⟨w.heap.size,5,none⟩=some (.slice ta tl tc)/\u.cell? ⟨w.heap.size,6,none⟩=some (.slice da dl dc)/\u.cell? ⟨w.heap.size,7,none⟩=some (.slice ra x.rn.length rc)/\u.cell? ⟨w.heap.size,8,none⟩=some (.slice ka x.lk.length kc)/\u.cell? ⟨w.heap.size,9,none⟩=some (.slice fa x.ft.length fc)/\u.cell? ⟨w.heap.size,10,none⟩=some (.slice sa x.sw.length sc)) (by kernel_rfl) XU.elevenH (fun hH=>?_)
    have hdr:Below u3.heap.size u3 u3.drew:=Below.drew1
    generalize u3.drew=Z at hdr hH ⊢
    have hbz:=hb3.trans (hdr.mono hb3.size)
    have XZ:=XU.below hdr
    have HGZ:Hid (Gr El.int (fun _=>True) Z va vc M):=HGM.out.below hdr
    clear XU hdr hb3 HGM;refine hT 0 hH ?_;refine hT 1 hH ?_;refine hT 2 hH ?_;refine hT 3 hH ?_;refine hT 4 hH ?_;refine hT 5 hH ?_;refine hT 6 hH ?_;refine hT 7 hH ?_;refine hT 9 hH ?_;refine hT 11 hH ?_
    refine hCall (i:=8) rfl (by kernel_rfl) (by rfl) (fun K hK=>?_)
    go_simp
    refine(HCH.out Z hbz).mono ?_
    rintro e v1 ⟨hr1,hc1⟩;obtain⟨v5,rfl,hG1⟩:=hr1.out;obtain⟨ea,ec,rfl,R1,-⟩:=hG1.slice
    have zi1:=hbz.trans (hc1.mono hbz.size)
    have X1:=XZ.below hc1
    have HK1:Hid (Ri v1 ea ec (chFt x.ft x.sw cs on)):=R1
    generalize chFt x.ft x.sw cs on=C at HK1 HV
    have HG1:Hid (Gr El.int (fun _=>True) v1 va vc M):=HGZ.out.below hc1
    clear hr1 hG1 R1 hc1 hH
    go_wp2_with fail
    refine hK.out _ _ X1.elevenH (fun hH=>?_)
    clear hK K
    try simp only[Act.put,pZ]
    refine hCall (i:=10) rfl (by kernel_rfl) (by rfl) (fun K hK=>?_)
    go_simp
    refine(HMK.out v1 zi1).mono ?_
    rintro e v2 ⟨hr2,hc2⟩;obtain⟨v6,rfl,hG2⟩:=hr2.out;obtain⟨ma2,mc2,rfl,R2,-⟩:=hG2.slice;rw[zaw];rw[zaw]at hG2
    have zh3:=zi1.trans (hc2.mono zi1.size)
    have X2:=X1.below hc2
    have hlk:=HLK.out v2 zh3
    have hal:=zop x.lk (mkG x.gl) S _ _ ka kc ma2 mc2 ea ec C va vc M v2 hlk R2 (HK1.out.below hc2) (HG1.out.below hc2) (by have:=HML.out;omega)
    rw[zaw]at hal;clear hr2 hG2 R2 hc2 hH hlk HGZ HK1 HG1 HLK HCH HMK
    go_wp2_with fail
    refine hK.out _ _ X2.elevenH (fun hH=>?_)
    clear hK K
    try simp only[Act.put,pZ]
    refine hCall (i:=12) rfl (by kernel_rfl) (by rfl) (fun K hK=>?_)
    go_simp
    refine hal.mono ?_
    rintro e v3 ⟨hr3,hc3⟩
    have zaf:=zh3.trans (hc3.mono zh3.size)
    have X3:=X2.below hc3
    obtain⟨ra2,rc2,rfl,hG3⟩:=hr3.out;rw[<-HV.out]at hG3
    have HG3:Hid (LnR (lnP x cs (sb t) on) v3 (.returned (.tuple #[.slice ra2 (alP x.lk (mkG x.gl) C M).2.length rc2,.int .i64 (alP x.lk (mkG x.gl) C M).1]))):=⟨ra2,rc2,by rw[HV.out],hG3⟩
    generalize (alP x.lk (mkG x.gl) C M).2.length=n3 at HG3 ⊢
    generalize (alP x.lk (mkG x.gl) C M).1=e3 at HG3 ⊢
    clear hal hr3 hG3 hc3 hH HV
    go_wp2_with fail
    refine hK.out _ _ X3.elevenH (fun hH=>?_)
    clear hK K
    try simp only[Act.put,pZ]
    refine hT 13 hH ?_;refine hT 14 hH ?_;refine hT 15 hH ?_;refine hT 16 hH ?_
    refine wpAnyH_done (by kernel_rfl) ?_ _
    clear hH;go_wp2
    go_ret2
    exact⟨HG3.out,zaf⟩
open Classical
theorem zac(z:Int)(w:World):Calls Tryz.prog 226 #[.int .i64 z] w fun e w'=>e=.returned (.bool (crd z))/\w=w':=by
 by_cases h1:-16384<=z
 . go_enter Tryz.func226,Tryz.ntmps226
   go_wp2
   go_ret
   exact⟨zaz (by simp[crd,h1]),rfl⟩
 . go_enter Tryz.func226,Tryz.ntmps226
   go_wp2
   go_ret
   exact⟨zaz (by simp[crd];omega),rfl⟩
theorem zxs{t:Te}(h1:crd t.st=true)(h2:crd t.pk=true)(h3:crd t.en=true)(h:0<t.pk):tfB t=(decide (0<=t.st)&&(decide (t.st<t.pk)&&(decide (t.pk<t.en)||(t.pk==16384&&t.en==16384)))):=by
 rw[crdT]at h1 h2 h3;rw[Bool.eq_iff_iff,zck]
 unfold TfT
 simp
 omega
theorem zry{t:Te}(h1:crd t.st=true)(h2:crd t.pk=true)(h3:crd t.en=true)(h:t.pk<0):tfB t=(decide (t.en<=0)&&(decide (t.pk<t.en)&&(decide (t.st<t.pk)||(t.pk == -16384&&t.st == -16384)))):=by
 rw[crdT]at h1 h2 h3;rw[Bool.eq_iff_iff,zck]
 unfold TfT
 simp
 omega
theorem zvb{t:Te}(h1:crd t.st=true)(h2:crd t.pk=true)(h3:crd t.en=true)(h:t.pk=0):tfB t=(t.st==0&&t.en==0):=by
 rw[crdT]at h1 h2 h3;rw[Bool.eq_iff_iff,zck]
 unfold TfT
 simp
 omega
theorem zmv(t:Te)(w:World) :
 Calls Tryz.prog 225 #[.agg #[.int .i64 t.st,.int .i64 t.pk,.int .i64 t.en]] w fun e w'=>e=.returned (.bool (tfB t))/\Below w.heap.size w w':=by
 obtain⟨W,hW,X1,hbW⟩:∃W,W=w.alloc (.cells #[.int .i64 t.st,.int .i64 t.pk,.int .i64 t.en] 220)/\Box 220 W w.heap.size (.int .i64 t.st) (.int .i64 t.pk) (.int .i64 t.en)/\Below w.heap.size w W:=⟨_,rfl,Box.new _ _ _ _ _,al1 _⟩
 cases c1:crd t.st with
 | false =>
  have HF:Hid (tfB t=false):=zf9 (fun h=>by rw[crdT.2 h.1]at c1;cases c1)
  obtain⟨st,pk,en⟩:=t
  dsimp only at *
  obtain⟨p0,p1,p2,_⟩:=X1.cells
  go_enter Tryz.func225,Tryz.ntmps225
  go_wp2_with fail
  rw[<-hW];clear hW
  refine(zac st _).mono ?_
  rintro e u1 ⟨rfl,rfl⟩;rw[c1];go_wp2
  go_ret
  exact⟨zaa HF.out.symm,hbW⟩
 | true =>
  cases c2:crd t.pk with
  | false =>
   have HF:Hid (tfB t=false):=zf9 (fun h=>by rw[crdT.2 h.2.1]at c2;cases c2)
   obtain⟨st,pk,en⟩:=t
   dsimp only at *
   obtain⟨p0,p1,p2,_⟩:=X1.cells
   go_enter Tryz.func225,Tryz.ntmps225
   go_wp2_with fail
   rw[<-hW];clear hW
   refine(zac st _).mono ?_
   rintro e u1 ⟨rfl,rfl⟩;rw[c1]
   go_wp2_with fail
   refine(zac pk _).mono ?_
   rintro e u1 ⟨rfl,rfl⟩;rw[c2];go_wp2
   go_ret
   exact⟨zaa HF.out.symm,hbW⟩
  | true =>
   cases c3:crd t.en with
   | false =>
    have HF:Hid (tfB t=false):=zf9 (fun h=>by rw[crdT.2 h.2.2.1]at c3;cases c3)
    obtain⟨st,pk,en⟩:=t
    dsimp only at *
    obtain⟨p0,p1,p2,_⟩:=X1.cells
    go_enter Tryz.func225,Tryz.ntmps225
    go_wp2_with fail
    rw[<-hW];clear hW
    refine(zac st _).mono ?_
    rintro e u1 ⟨rfl,rfl⟩;rw[c1]
    go_wp2_with fail
    refine(zac pk _).mono ?_
    rintro e u1 ⟨rfl,rfl⟩;rw[c2]
    go_wp2_with fail
    refine(zac en _).mono ?_
    rintro e u1 ⟨rfl,rfl⟩;rw[c3];go_wp2
    go_ret
    exact⟨zaa HF.out.symm,hbW⟩
   | true =>
    by_cases hu:0<t.pk
    . have HF:Hid (tfB t=_):=zxs c1 c2 c3 hu
      cases g1:(decide (0<=t.st):Bool) with
      | false =>
       rw[g1]at HF;obtain⟨st,pk,en⟩:=t
       dsimp only at *
       obtain⟨p0,p1,p2,_⟩:=X1.cells
       go_enter Tryz.func225,Tryz.ntmps225
       go_wp2_with fail
       rw[<-hW];clear hW
       refine(zac st _).mono ?_
       rintro e u1 ⟨rfl,rfl⟩;rw[c1]
       go_wp2_with fail
       refine(zac pk _).mono ?_
       rintro e u1 ⟨rfl,rfl⟩;rw[c2]
       go_wp2_with fail
       refine(zac en _).mono ?_
       rintro e u1 ⟨rfl,rfl⟩;rw[c3];clear c1 c2 c3;go_wp2
       go_ret
       exact⟨zaa (by rw[HF.out];simp),hbW⟩
      | true =>
       cases g2:(decide (t.st<t.pk):Bool) with
       | false =>
        rw[g1,g2]at HF;obtain⟨st,pk,en⟩:=t
        dsimp only at *
        obtain⟨p0,p1,p2,_⟩:=X1.cells
        go_enter Tryz.func225,Tryz.ntmps225
        go_wp2_with fail
        rw[<-hW];clear hW
        refine(zac st _).mono ?_
        rintro e u1 ⟨rfl,rfl⟩;rw[c1]
        go_wp2_with fail
        refine(zac pk _).mono ?_
        rintro e u1 ⟨rfl,rfl⟩;rw[c2]
        go_wp2_with fail
        refine(zac en _).mono ?_
        rintro e u1 ⟨rfl,rfl⟩;rw[c3];clear c1 c2 c3;go_wp2
        go_ret
        exact⟨zaa (by rw[HF.out];simp),hbW⟩
       | true =>
        cases g3:(decide (t.pk<t.en):Bool) with
        | false =>
         cases g4:(t.pk==16384:Bool) with
         | false =>
          rw[g1,g2,g3,g4]at HF;obtain⟨st,pk,en⟩:=t
          dsimp only at *
          obtain⟨p0,p1,p2,_⟩:=X1.cells
          go_enter Tryz.func225,Tryz.ntmps225
          go_wp2_with fail
          rw[<-hW];clear hW
          refine(zac st _).mono ?_
          rintro e u1 ⟨rfl,rfl⟩;rw[c1]
          go_wp2_with fail
          refine(zac pk _).mono ?_
          rintro e u1 ⟨rfl,rfl⟩;rw[c2]
          go_wp2_with fail
          refine(zac en _).mono ?_
          rintro e u1 ⟨rfl,rfl⟩;rw[c3];clear c1 c2 c3;go_wp2
          go_ret
          exact⟨zaa (by rw[HF.out];simp),hbW⟩
         | true =>
          rw[g1,g2,g3,g4]at HF;obtain⟨st,pk,en⟩:=t
          dsimp only at *
          obtain⟨p0,p1,p2,_⟩:=X1.cells
          go_enter Tryz.func225,Tryz.ntmps225
          go_wp2_with fail
          rw[<-hW];clear hW
          refine(zac st _).mono ?_
          rintro e u1 ⟨rfl,rfl⟩;rw[c1]
          go_wp2_with fail
          refine(zac pk _).mono ?_
          rintro e u1 ⟨rfl,rfl⟩;rw[c2]
          go_wp2_with fail
          refine(zac en _).mono ?_
          rintro e u1 ⟨rfl,rfl⟩;rw[c3];clear c1 c2 c3;go_wp2
          go_ret
          exact⟨zaa (by rw[HF.out];simp),hbW⟩
        | true =>
         rw[g1,g2,g3]at HF;obtain⟨st,pk,en⟩:=t
         dsimp only at *
         obtain⟨p0,p1,p2,_⟩:=X1.cells
         go_enter Tryz.func225,Tryz.ntmps225
         go_wp2_with fail
         rw[<-hW];clear hW
         refine(zac st _).mono ?_
         rintro e u1 ⟨rfl,rfl⟩;rw[c1]
         go_wp2_with fail
         refine(zac pk _).mono ?_
         rintro e u1 ⟨rfl,rfl⟩;rw[c2]
         go_wp2_with fail
         refine(zac en _).mono ?_
         rintro e u1 ⟨rfl,rfl⟩;rw[c3];clear c1 c2 c3;go_wp2
         go_ret
         exact⟨zaa (by rw[HF.out];simp),hbW⟩
    . by_cases hd:t.pk<0
      . have HF:Hid (tfB t=_):=zry c1 c2 c3 hd
        cases g1:(decide (t.en<=0):Bool) with
        | false =>
         rw[g1]at HF;obtain⟨st,pk,en⟩:=t
         dsimp only at *
         obtain⟨p0,p1,p2,_⟩:=X1.cells
         go_enter Tryz.func225,Tryz.ntmps225
         go_wp2_with fail
         rw[<-hW];clear hW
         refine(zac st _).mono ?_
         rintro e u1 ⟨rfl,rfl⟩;rw[c1]
         go_wp2_with fail
         refine(zac pk _).mono ?_
         rintro e u1 ⟨rfl,rfl⟩;rw[c2]
         go_wp2_with fail
         refine(zac en _).mono ?_
         rintro e u1 ⟨rfl,rfl⟩;rw[c3];clear c1 c2 c3;go_wp2
         go_ret
         exact⟨zaa (by rw[HF.out];simp),hbW⟩
        | true =>
         cases g2:(decide (t.pk<t.en):Bool) with
         | false =>
          rw[g1,g2]at HF;obtain⟨st,pk,en⟩:=t
          dsimp only at *
          obtain⟨p0,p1,p2,_⟩:=X1.cells
          go_enter Tryz.func225,Tryz.ntmps225
          go_wp2_with fail
          rw[<-hW];clear hW
          refine(zac st _).mono ?_
          rintro e u1 ⟨rfl,rfl⟩;rw[c1]
          go_wp2_with fail
          refine(zac pk _).mono ?_
          rintro e u1 ⟨rfl,rfl⟩;rw[c2]
          go_wp2_with fail
          refine(zac en _).mono ?_
          rintro e u1 ⟨rfl,rfl⟩;rw[c3];clear c1 c2 c3;go_wp2
          go_ret
          exact⟨zaa (by rw[HF.out];simp),hbW⟩
         | true =>
          cases g3:(decide (t.st<t.pk):Bool) with
          | false =>
           cases g4:(t.pk == -16384:Bool) with
           | false =>
            rw[g1,g2,g3,g4]at HF;obtain⟨st,pk,en⟩:=t
            dsimp only at *
            obtain⟨p0,p1,p2,_⟩:=X1.cells
            go_enter Tryz.func225,Tryz.ntmps225
            go_wp2_with fail
            rw[<-hW];clear hW
            refine(zac st _).mono ?_
            rintro e u1 ⟨rfl,rfl⟩;rw[c1]
            go_wp2_with fail
            refine(zac pk _).mono ?_
            rintro e u1 ⟨rfl,rfl⟩;rw[c2]
            go_wp2_with fail
            refine(zac en _).mono ?_
            rintro e u1 ⟨rfl,rfl⟩;rw[c3];clear c1 c2 c3;go_wp2
            go_ret
            exact⟨zaa (by rw[HF.out];simp),hbW⟩
           | true =>
            rw[g1,g2,g3,g4]at HF;obtain⟨st,pk,en⟩:=t
            dsimp only at *
            obtain⟨p0,p1,p2,_⟩:=X1.cells
            go_enter Tryz.func225,Tryz.ntmps225
            go_wp2_with fail
            rw[<-hW];clear hW
            refine(zac st _).mono ?_
            rintro e u1 ⟨rfl,rfl⟩;rw[c1]
            go_wp2_with fail
            refine(zac pk _).mono ?_
            rintro e u1 ⟨rfl,rfl⟩;rw[c2]
            go_wp2_with fail
            refine(zac en _).mono ?_
            rintro e u1 ⟨rfl,rfl⟩;rw[c3];clear c1 c2 c3;go_wp2
            go_ret
            exact⟨zaa (by rw[HF.out];simp),hbW⟩
          | true =>
           rw[g1,g2,g3]at HF;obtain⟨st,pk,en⟩:=t
           dsimp only at *
           obtain⟨p0,p1,p2,_⟩:=X1.cells
           go_enter Tryz.func225,Tryz.ntmps225
           go_wp2_with fail
           rw[<-hW];clear hW
           refine(zac st _).mono ?_
           rintro e u1 ⟨rfl,rfl⟩;rw[c1]
           go_wp2_with fail
           refine(zac pk _).mono ?_
           rintro e u1 ⟨rfl,rfl⟩;rw[c2]
           go_wp2_with fail
           refine(zac en _).mono ?_
           rintro e u1 ⟨rfl,rfl⟩;rw[c3];clear c1 c2 c3;go_wp2
           go_ret
           exact⟨zaa (by rw[HF.out];simp),hbW⟩
      . have HF:Hid (tfB t=_):=zvb c1 c2 c3 (by omega)
        cases g1:(t.st==0:Bool) with
        | false =>
         rw[g1]at HF;obtain⟨st,pk,en⟩:=t
         dsimp only at *
         obtain⟨p0,p1,p2,_⟩:=X1.cells
         go_enter Tryz.func225,Tryz.ntmps225
         go_wp2_with fail
         rw[<-hW];clear hW
         refine(zac st _).mono ?_
         rintro e u1 ⟨rfl,rfl⟩;rw[c1]
         go_wp2_with fail
         refine(zac pk _).mono ?_
         rintro e u1 ⟨rfl,rfl⟩;rw[c2]
         go_wp2_with fail
         refine(zac en _).mono ?_
         rintro e u1 ⟨rfl,rfl⟩;rw[c3];clear c1 c2 c3;go_wp2
         go_ret
         exact⟨zaa (by rw[HF.out];simp),hbW⟩
        | true =>
         rw[g1]at HF;obtain⟨st,pk,en⟩:=t
         dsimp only at *
         obtain⟨p0,p1,p2,_⟩:=X1.cells
         go_enter Tryz.func225,Tryz.ntmps225
         go_wp2_with fail
         rw[<-hW];clear hW
         refine(zac st _).mono ?_
         rintro e u1 ⟨rfl,rfl⟩;rw[c1]
         go_wp2_with fail
         refine(zac pk _).mono ?_
         rintro e u1 ⟨rfl,rfl⟩;rw[c2]
         go_wp2_with fail
         refine(zac en _).mono ?_
         rintro e u1 ⟨rfl,rfl⟩;rw[c3];clear c1 c2 c3;go_wp2
         go_ret
         exact⟨zaa (by rw[HF.out];simp),hbW⟩
theorem zbw(a:Option Addr)(cap:Nat)(xs:List Nat)(w:World)(h:Rd w a cap xs)(hl:xs.length<=1000000000) :
 Calls Tryz.prog 222 #[.slice a xs.length cap] w fun e w'=>∃a' cap',e=.returned (.slice a' (strip xs).length cap')/\Res 211 w.heap.size w' a' cap' (strip xs)/\Below w.heap.size w w':=by
 obtain⟨i0,hi,hz0,hz1,hz2⟩:=info_parts za3
 have hsl:=zag xs
 have hc2:xs.length<=cap:=h.le
 have hc3:cap<=maxLen:=h.cap
 unfold maxLen at hc3
 have hst:=h.strip
 have lst:=h.lim.strip
 have fm:=h.fm
 clear h
 go_enter Tryz.func222,Tryz.ntmps222
 go_wp2
 go_loop [3] (fun n=>∃k:Nat,k<=xs.length/\n=.int .i64 k/\strip (xs.take k)=strip xs) (fun n=>(intOf n).toNat)
 case atStart=>exact⟨xs.length,Nat.le_refl _,rfl,by rw[List.take_length]⟩
 case round =>
  obtain⟨k,hk,rfl,hs0⟩:=hrel
  have HS:Hid (strip (xs.take k)=strip xs):=hs0
  clear hs0
  by_cases hk0:k=0
  . subst hk0
    have e0:strip xs=[]:=by rw[<-HS.out];rfl
    rw[e0]at hst lst
    have E0:Hid (strip xs=[]):=e0
    clear e0 HS
    go_wp2_with (at_builtin;refine zbx rfl _ _ 159 rfl w.heap.size 211 i0 Tryz.underlying159 hi hz0 hz1 hz2 _ 0 [] rfl (World.ownsRow_nil _ _ _ _) a cap 0 [] ?_ rfl hst (by simp) (Nat.le_refl _) ?_)
    intro v' w1 hown hgrow
    obtain⟨a',cap',rfl,hres⟩:=Res.of (xs:=[]) Lim.nil hown
    go_wp2
    go_ret
    exact⟨a',cap',by rw[E0.out];rfl,by rw[E0.out];exact hres,(Below.refl _ _).grown hgrow (Nat.le_refl _) (fun k hk=>by simp[Value.ownBlock]at hk)⟩
  . obtain⟨j,rfl⟩:∃j,k=j+1:=⟨k-1,by omega⟩
    obtain⟨b,off,rfl,_,hcj⟩:=fm.at (Below.refl _ _) j (by omega)
    obtain⟨x,hx⟩:∃x,xs.getD j 0=x:=⟨_,rfl⟩
    rw[hx]at hcj
    have HX:Hid (xs.getD j 0=x):=hx
    clear hx
    by_cases hx0:x=0
    . subst hx0
      go_wp2
      go_round
      case rel=>exact⟨j,by omega,rfl,by rw[<-HS.out,zb4 xs j (by omega) HX.out]⟩
      case measure=>simp[intOf]
    . have hx1:((x:Int)==0)=false:=by simp;omega
      have e:strip xs=xs.take (j+1):=by rw[<-HS.out];exact zb5 xs j (by omega) (by rw[HX.out];exact hx0)
      have el:j+1=(strip xs).length:=by rw[e];simp;omega
      have EL:Hid (j+1=(strip xs).length):=el
      clear e el
      go_wp2_with (at_builtin;refine zbx rfl _ _ 159 rfl w.heap.size 211 i0 Tryz.underlying159 hi hz0 hz1 hz2 _ 0 [] rfl (World.ownsRow_nil _ _ _ _) (some ⟨b,off,none⟩) cap (j+1) (strip xs) rfl EL.out hst (by omega) (Nat.le_refl _) ?_)
      intro v' w1 hown hgrow
      obtain⟨a',cap',rfl,hres⟩:=Res.of lst hown
      go_wp2
      go_ret
      exact⟨a',cap',rfl,hres,(Below.refl _ _).grown hgrow (Nat.le_refl _) (fun k hk=>by simp[Value.ownBlock]at hk)⟩
theorem zky(n:Nat)(h:n<4294967296):bits BinOp.and IntKind.u32 (n:Int) 1=((n%2:Nat):Int):=by
 have:=u32_and_nat n 1 h (by decide)
 rw[Nat.and_one_is_mod]at this
 exact this
theorem V_bit(xs:List Nat)(lm:Lim xs)(i:Nat):V xs/2 ^ i%2=xs.getD (i/32) 0/2 ^ (i%32)%2:=by
 have e:=zb8 xs (i/32)
 have hd:=zbb (xs.drop (i/32))
 have hg:(xs.drop (i/32)).getD 0 0=xs.getD (i/32) 0:=by simp[List.getD]
 rw[hg]at hd
 have hl:V (xs.take (i/32))<4294967296 ^ (i/32):=by
  have:=zcj xs (i/32)
  rw[this]
  exact Sv_lt (fun j _=>lm.getD j)
 have hp:2 ^ i=4294967296 ^ (i/32)*2 ^ (i%32):=by
  rw[show(4294967296:Nat)=2 ^ 32 from rfl,<-Nat.pow_mul,<-Nat.pow_add,Nat.div_add_mod]
 rw[hp,<-Nat.div_div_eq_div_mul,e,Nat.add_mul_div_left _ _ (Nat.pow_pos (by decide)),Nat.div_eq_of_lt hl,Nat.zero_add,hd]
 generalize V (xs.drop (i/32)).tail=T
 generalize xs.getD (i/32) 0=x
 have h32:(4294967296:Nat)=2 ^ (i%32)*(2*2 ^ (31-i%32)):=by
  have:(4294967296:Nat)=2 ^ 32:=rfl
  rw[this,<-Nat.pow_succ',<-Nat.pow_add]
  congr 1
  omega
 rw[h32,Nat.mul_assoc,Nat.add_mul_div_left _ _ (Nat.pow_pos (by decide)),Nat.mul_assoc,Nat.add_mul_mod_self_left]
theorem zij(a:Option Addr)(n cap:Nat)(w:World)(hn:n<=100000000000000000) :
 Calls Tryz.prog 208 #[.slice a n cap] w fun e w'=>e=.returned (.int .i64 (32*(n:Int)))/\w=w':=by
 go_enter Tryz.func208,Tryz.ntmps208
 go_wp2
 go_ret
 exact⟨rfl,rfl⟩
theorem zlf(a:Option Addr)(cap:Nat)(xs:List Nat)(i:Nat)(w:World)(h:Rd w a cap xs)(hi:i<=100000000000000000) :
 Calls Tryz.prog 210 #[.slice a xs.length cap,.int .i64 (i:Int)] w fun e w'=>e=.returned (.int .u32 ((V xs/2 ^ i%2:Nat):Int))/\w=w':=by
 have k1:=h.le
 have k2:=h.cap
 unfold maxLen at k2
 have fm:=h.fm
 have lm:=h.lim
 clear h
 by_cases hlt:i/32<xs.length
 . obtain⟨b,off,rfl,_,hc⟩:=fm.at (Below.refl _ _) (i/32) hlt
   obtain⟨x,hx⟩:∃x,xs.getD (i/32) 0=x:=⟨_,rfl⟩
   rw[hx]at hc
   have bx:x<4294967296:=by rw[<-hx];exact lm.getD _
   go_enter Tryz.func210,Tryz.ntmps210
   go_wp2
   go_ret
   refine⟨zcd ?_,rfl⟩
   have hq:x/2 ^ (i%32)<=x:=Nat.div_le_self _ _
   have hcast:(x:Int)/2 ^ (i%32)=((x/2 ^ (i%32):Nat):Int):=by simp
   rw[V_bit xs lm i,hx,hcast,zky _ (by omega)]
 . go_enter Tryz.func210,Tryz.ntmps210
   go_wp2
   go_ret
   refine⟨zcd ?_,rfl⟩
   rw[V_bit xs lm i,za5 _ _ (by omega)]
   simp
theorem zgh(m:Nat):4294967296 ^ m=2 ^ (32*m):=by rw[Nat.pow_mul]
theorem zhj{v j:Nat}(h:v<2 ^ (j+1))(hb:v/2 ^ j%2=0):v<2 ^ j:=by
 have hp:0<2 ^ j:=Nat.pow_pos (by decide)
 rw[Nat.pow_succ]at h
 have h1:v/2 ^ j<2:=Nat.div_lt_of_lt_mul (by omega)
 have h2:v/2 ^ j=0:=by generalize v/2 ^ j=t at h1 hb ⊢;omega
 rcases (Nat.div_eq_zero_iff).1 h2 with h3|h3
 . omega
 . exact h3
theorem zhb{v j:Nat}(hb:v/2 ^ j%2=1):2 ^ j<=v:=by
 rcases Nat.lt_or_ge v (2 ^ j)with h|h
 . rw[Nat.div_eq_of_lt h]at hb;simp at hb
 . exact h
theorem zg7(a:Option Addr)(cap:Nat)(xs:List Nat)(w:World)(h:Rd w a cap xs)(hl:xs.length<=500000000) :
 Calls Tryz.prog 223 #[.slice a xs.length cap] w fun e w'=>∃n:Nat,e=.returned (.int .i64 (n:Int))/\n<=32*xs.length/\V xs<2 ^ n/\(1<=n->2 ^ (n-1)<=V xs)/\w=w':=by
 go_enter Tryz.func223,Tryz.ntmps223
 go_wp2_with fail
 refine(zij _ _ _ _ (by omega)).mono ?_
 rintro e w' ⟨rfl,rfl⟩
 go_wp2
 go_loop [3] (fun i=>∃k:Nat,k<=32*xs.length/\i=.int .i64 (k:Int)/\V xs<2 ^ k) (fun i=>(intOf i).toNat)
 case atStart=>exact⟨32*xs.length,Nat.le_refl _,by go_num,by rw[<-zgh];exact V_lt h.lim⟩
 case round =>
  obtain⟨k,hk,rfl,hv⟩:=hrel
  have HV:Hid (V xs<2 ^ k):=hv
  clear hv
  by_cases hk0:k=0
  . subst hk0
    go_wp2
    go_ret
    exact⟨0,rfl,Nat.zero_le _,HV.out,fun h=>by omega,rfl⟩
  . obtain⟨j,rfl⟩:∃j,k=j+1:=⟨k-1,by omega⟩
    have hjj:((j+1:Nat):Int)-1=(j:Int):=by omega
    go_wp2_with fail
    refine(zlf _ _ _ _ _ h (by omega)).mono ?_
    rintro e w' ⟨rfl,rfl⟩
    rcases Nat.mod_two_eq_zero_or_one (V xs/2 ^ j)with hb0|hb0
    . rw[hb0]
      have HB:Hid (V xs/2 ^ j%2=0):=hb0
      clear hb0;go_wp2
      go_round
      case rel=>exact⟨j,by omega,by go_num,zhj HV.out HB.out⟩
      case measure=>simp[intOf]
    . rw[hb0]
      have HB:Hid (V xs/2 ^ j%2=1):=hb0
      clear hb0;go_wp2
      go_ret
      exact⟨j+1,rfl,hk,HV.out,fun _=>zhb HB.out,rfl⟩
theorem zu7{zs xs:List Nat}{m k cy x p s:Nat}(hz:zs.length=m+k)(he:V zs+4294967296 ^ (m+k)*cy=4294967296 ^ m*(V (xs.take k)*2 ^ s))(hx:xs.getD k 0=x)(hp:x*2 ^ s=p) :
 V (zs++[(cy+p)%4294967296])+4294967296 ^ (m+(k+1))*((cy+p)/4294967296)=4294967296 ^ m*(V (xs.take (k+1))*2 ^ s):=by
 rw[zd4,hz,zao,hx,<-Nat.add_assoc,Nat.pow_succ]
 have hd:=Nat.mod_add_div (cy+p) 4294967296
 generalize (cy+p)%4294967296=r at hd ⊢
 generalize (cy+p)/4294967296=d at hd ⊢
 subst hp;rw[Nat.pow_add]at he ⊢
 generalize 4294967296 ^ k=q at he ⊢
 generalize 4294967296 ^ m=t at he ⊢
 generalize V zs=o at he ⊢
 generalize V (xs.take k)=A at he ⊢
 generalize 2 ^ s=S at he hd ⊢
 have h1:t*q*(r+4294967296*d)=t*q*(cy+x*S):=by rw[hd]
 grind
theorem zvh(a:Option Addr)(cap:Nat)(xs:List Nat)(n:Nat)(w:World)(h:Rd w a cap xs)(hl:xs.length<=400000000)(hn:n<=400000000) :
 Calls Tryz.prog 224 #[.slice a xs.length cap,.int .i64 (n:Int)] w fun e w' =>
     ∃a' cap' zs,e=.returned (.slice a' zs.length cap')/\V zs=V xs*2 ^ n/\Tr zs/\Res 211 w.heap.size w' a' cap' zs/\Below w.heap.size w w':=by
 obtain⟨i0,hi,hz0,hz1,hz2⟩:=info_parts za3
 have fL:=h.fm
 have lL:=h.lim
 clear h
 obtain⟨m,hm⟩:∃m,n/32=m:=⟨_,rfl⟩
 obtain⟨s,hs⟩:∃s,n%32=s:=⟨_,rfl⟩
 have hs32:s<32:=by omega
 have hmb:m<=400000000:=by omega
 have hmi:(n:Int)/32=(m:Int):=by omega
 have hsi:(n:Int)%32=(s:Int):=by omega
 have HPW:Hid (2 ^ n=4294967296 ^ m*2 ^ s):=by
  show _=_
  rw[zgh,<-Nat.pow_add];congr 1;omega
 clear hm hs
 go_enter Tryz.func224,Tryz.ntmps224
 go_wp2_with (at_make;refine wpList_make_full _ rfl _ _ 159 rfl w.heap.size 211 i0 (.int .u32 0) 1 Tryz.underlying159 hi hz0 hz1 _ _ _ _ m rfl rfl (by omega) (by omega) (by rw[hz2];omega) (by unfold maxLen;omega) (Nat.le_refl _) ?_)
 intro u0 zcm zbo
 have hb0:Below w.heap.size w u0:=(Below.refl _ _).grown zbo (Nat.le_refl _) (fun k h=>by cases h)
 have hown1:u0.ownsRow w.heap.size 211 1 (.slice (some ⟨w.heap.size,0,none⟩) m m) m ((List.replicate m 0).map U):=by
  rw[<-zc7];exact zcm
 clear zcm zbo;go_wp2
 go_loopw [5,6,7] (fun out c i wr=>∃(k:Nat) (zs:List Nat) (cy:Nat),k<=xs.length/\i=.int .i64 k/\c=.int .u64 cy/\cy<2 ^ s/\zs.length=m+k/\Lim zs/\V zs+4294967296 ^ (m+k)*cy=4294967296 ^ m*(V (xs.take k)*2 ^ s)/\wr.ownsRow w.heap.size 211 1 out (m+k) (zs.map U)/\Below w.heap.size w wr) (fun _ _ i _=>xs.length-(intOf i).toNat)
 case atStart=>exact⟨0,List.replicate m 0,0,Nat.zero_le _,rfl,rfl,Nat.pow_pos (by decide),by simp,fun x hx=>by rw[List.eq_of_mem_replicate hx];decide,by rw[zk2];simp[V],hown1,hb0⟩
 case round =>
  obtain⟨k,zs,cy,hk,rfl,rfl,hcy,hzl,lz,heq,hown,hnx⟩:=hrel
  have HE:Hid (V zs+4294967296 ^ (m+k)*cy=4294967296 ^ m*(V (xs.take k)*2 ^ s)):=heq
  have HZ:Hid (zs.length=m+k):=hzl
  have hsz:=hnx.size
  have hP1:2 ^ s<=2 ^ 31:=Nat.pow_le_pow_right (by decide) (by omega)
  clear heq hzl
  by_cases hkn:k<xs.length
  . obtain⟨bl,ol,rfl,_,hcl⟩:=fL.at hnx k hkn
    obtain⟨x,hx⟩:∃x,xs.getD k 0=x:=⟨_,rfl⟩
    have bx:x<4294967296:=by rw[<-hx];exact lL.getD k
    rw[hx]at hcl
    have HX:Hid (xs.getD k 0=x):=hx
    obtain⟨p,hp⟩:∃p,x*2 ^ s=p:=⟨_,rfl⟩
    have bp0:p<=4294967295*2 ^ s:=by rw[<-hp];exact Nat.mul_le_mul_right _ (by omega)
    have bp:p<=9223372034707292160:=by omega
    have hpi:(x:Int)*2 ^ s=(p:Int):=by rw[<-hp];simp
    have hw1:IntKind.u64.wrap (p:Int)=(p:Int):=by rw[zej];omega
    have zy0:(cy+p)/4294967296<2 ^ s:=Nat.div_lt_of_lt_mul (by omega)
    have HP:Hid (x*2 ^ s=p):=hp
    have bcy:cy<2147483648:=by omega
    have HCY:Hid ((cy+p)/4294967296<2 ^ s):=zy0
    clear hx hp hP1 bp0 hcy zy0
    go_wp2_with (at_builtin;refine zae rfl _ _ 159 rfl w.heap.size 211 i0 Tryz.underlying159 hi hz0 hz1 hz2 _ (m+k) zs rfl (hown.alloc _) wr.heap.size ((cy+p)%4294967296) rfl (zan _ _ _ _ (by omega)) (by omega) (by simp;omega) ?_)
    intro v' w1 hown1 zaq
    have hb1:Below w.heap.size w w1:=(hnx.alloc hsz _).grown zaq (by simp;omega) (fun k hk=>(hown.lt k hk).1)
    clear hown;go_wp2
    go_roundw
    case rel =>
     exact⟨k+1,zs++[(cy+p)%4294967296],(cy+p)/4294967296,by omega,by go_num,by go_num,HCY.out,by simp[HZ.out];omega,lz.snoc (by omega),zu7 HZ.out HE.out HX.out HP.out,zat hown1,hb1⟩
    case measure=>simp[intOf];omega
  . obtain rfl:k=xs.length:=by omega
    have bcy:cy<4294967296:=by omega
    clear hcy hP1
    go_wp2_with (at_builtin;refine zae rfl _ _ 159 rfl w.heap.size 211 i0 Tryz.underlying159 hi hz0 hz1 hz2 _ _ zs rfl (hown.alloc _) wr.heap.size cy rfl (zan _ _ _ _ (by omega)) (by omega) (by simp;omega) ?_)
    intro v' w1 hown1 zaq
    have hb1:Below w.heap.size w w1:=(hnx.alloc hsz _).grown zaq (by simp;omega) (fun k hk=>(hown.lt k hk).1)
    have o1:=zat hown1
    have lts:=lz.snoc bcy
    obtain⟨ts,hts⟩:∃ts,zs++[cy]=ts:=⟨_,rfl⟩
    have htl:ts.length<=1000000000:=by rw[<-hts];simp[HZ.out];omega
    rw[hts]at o1 lts
    have HT:Hid (zs++[cy]=ts):=hts
    obtain⟨a',cap',rfl,hres⟩:=Res.of lts o1
    clear hown1 hown hts o1
    go_wp2_with fail
    refine(zbw _ _ _ _ hres.rd htl).mono ?_
    rintro e w2 ⟨a2,c2,rfl,hr2,hb2⟩;go_wp2
    go_ret
    refine⟨a2,c2,_,rfl,?_,zak _,hr2.mono hb1.size,hb1.trans (hb2.mono hb1.size)⟩
    have h1:=HE.out
    rw[List.take_length]at h1;rw[zaj,<-HT.out,zd4,HZ.out,h1,HPW.out,Nat.mul_left_comm]
theorem zg4(a:Option Addr)(cap:Nat)(xs:List Nat)(b:Option Addr)(cbp:Nat)(ys:List Nat)(w:World)(ha:Rd w a cap xs)(hb:Rd w b cbp ys)(hla:xs.length<=500000000)(hlb:ys.length<=500000000) :
 Calls Tryz.prog 207 #[.slice a xs.length cap,.slice b ys.length cbp] w fun e w' =>
     ∃a' cap' zs,e=.returned (.slice a' zs.length cap')/\V zs=V xs-V ys/\Tr zs/\Res 211 w.heap.size w' a' cap' zs/\Below w.heap.size w w':=by
 obtain⟨i0,hi,hz0,hz1,hz2⟩:=info_parts za3
 by_cases hle:V xs<=V ys
 . have hc:=zq9 hle
   go_enter Tryz.func207,Tryz.ntmps207
   go_wp2_with fail
   refine(zdr _ _ _ _ _ _ _ ha hb).mono ?_
   rintro e w1 ⟨rfl,rfl⟩
   generalize cmpN (V xs) (V ys)=q at hc ⊢
   go_wp2
   go_ret
   refine⟨none,0,[],rfl,?_,zcq,⟨Lim.nil,World.ownsRow_nil _ _ _ _⟩,Below.refl _ _⟩
   show 0=_;omega
 . have hc:=zra (Nat.lt_of_not_le hle)
   have HC:Hid (cmpN (V xs) (V ys)=1):=hc
   have HV:Hid (V ys<V xs):=Nat.lt_of_not_le hle
   have lL:=ha.lim
   have lS:=hb.lim
   have fL:=ha.fm
   have fS:=hb.fm
   have q1:=ha.le
   have q2:=ha.cap
   unfold maxLen at q2
   clear hc
   go_enter Tryz.func207,Tryz.ntmps207
   go_wp2_with fail
   refine(zdr _ _ _ _ _ _ _ ha hb).mono ?_
   rintro e w0 ⟨rfl,rfl⟩;rw[HC.out];clear ha hb;go_wp2
   go_loopw [5,6,7] (fun out c i wr=>∃(k:Nat) (zs:List Nat) (cy:Nat),k<=xs.length/\i=.int .i64 k/\c=.int .u64 cy/\cy<=1/\zs.length=k/\Lim zs/\V zs+V (ys.take k)=V (xs.take k)+4294967296 ^ k*cy/\wr.ownsRow w.heap.size 211 1 out k (zs.map U)/\Below w.heap.size w wr) (fun _ _ i _=>xs.length-(intOf i).toNat)
   case atStart=>exact⟨0,[],0,Nat.zero_le _,rfl,rfl,Nat.zero_le _,rfl,Lim.nil,by simp[V],World.ownsRow_nil _ _ _ _,Below.refl _ _⟩
   case round =>
    obtain⟨k,zs,cy,hk,rfl,rfl,hcy,hzl,lz,heq,hown,hnx⟩:=hrel
    have HE:Hid (V zs+V (ys.take k)=V (xs.take k)+4294967296 ^ k*cy):=heq
    have HZ:Hid (zs.length=k):=hzl
    have hsz:=hnx.size
    clear heq hzl
    by_cases hkn:k<xs.length
    . obtain⟨bl,ol,rfl,_,hcl⟩:=fL.at hnx k hkn
      obtain⟨x,hx⟩:∃x,xs.getD k 0=x:=⟨_,rfl⟩
      obtain⟨y,hy⟩:∃y,ys.getD k 0=y:=⟨_,rfl⟩
      have bx:x<4294967296:=by rw[<-hx];exact lL.getD k
      have byy:y<4294967296:=by rw[<-hy];exact lS.getD k
      rw[hx]at hcl
      have HX:Hid (xs.getD k 0=x):=hx
      have HY:Hid (ys.getD k 0=y):=hy
      clear hx hy
      by_cases hkm:k<ys.length
      . obtain⟨bs,os,rfl,_,hcs⟩:=fS.at hnx k hkm
        rw[HY.out]at hcs
        go_wp2_with (at_builtin;refine zae rfl _ _ 159 rfl w.heap.size 211 i0 Tryz.underlying159 hi hz0 hz1 hz2 _ k zs rfl (hown.alloc _) wr.heap.size ((x+4294967296-cy-y)%4294967296) rfl (zan _ _ _ _ (by omega)) (by omega) (by simp;omega) ?_)
        intro v' w1 hown1 zaq
        have hb1:Below w.heap.size w w1:=(hnx.alloc hsz _).grown zaq (by simp;omega) (fun k hk=>(hown.lt k hk).1)
        clear hown;go_wp2
        go_roundw
        case rel =>
         exact⟨k+1,zs++[(x+4294967296-cy-y)%4294967296],1-(x+4294967296-cy-y)/4294967296,by omega,by go_num,zk7 (by omega),by omega,by simp[HZ.out],lz.snoc (by omega),zez HZ.out HE.out HX.out HY.out (by omega) hcy byy bx,zat hown1,hb1⟩
        case measure=>simp[intOf];omega
      . have y0:y=0:=by rw[<-HY.out];exact za5 _ _ (by omega)
        subst y0
        go_wp2_with (at_builtin;refine zae rfl _ _ 159 rfl w.heap.size 211 i0 Tryz.underlying159 hi hz0 hz1 hz2 _ k zs rfl (hown.alloc _) wr.heap.size ((x+4294967296-cy)%4294967296) rfl (zan _ _ _ _ (by omega)) (by omega) (by simp;omega) ?_)
        intro v' w1 hown1 zaq
        have hb1:Below w.heap.size w w1:=(hnx.alloc hsz _).grown zaq (by simp;omega) (fun k hk=>(hown.lt k hk).1)
        clear hown;go_wp2
        go_roundw
        case rel =>
         exact⟨k+1,zs++[(x+4294967296-cy)%4294967296],1-(x+4294967296-cy)/4294967296,by omega,by go_num,zk7 (by omega),by omega,by simp[HZ.out],lz.snoc (by omega),zez HZ.out HE.out HX.out HY.out (by omega) hcy byy bx,zat hown1,hb1⟩
        case measure=>simp[intOf];omega
    . obtain rfl:k=xs.length:=by omega
      obtain⟨a',cap',rfl,hres⟩:=Res.of lz hown
      clear hown
      go_wp2_with fail
      refine(zbw _ _ _ _ hres.rd (by rw[HZ.out];omega)).mono ?_
      rintro e w2 ⟨a2,c2,rfl,hr2,hb2⟩;go_wp2
      go_ret
      refine⟨a2,c2,_,rfl,?_,zak _,hr2.mono hsz,hnx.trans (hb2.mono hsz)⟩
      rw[zaj]
      exact zn8 lz HZ.out HE.out lL HV.out
