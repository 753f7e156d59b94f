import Derived.Test.YtkmcodofnckdmaaGreatZK22
set_option maxHeartbeats 4000000
set_option maxRecDepth 100000
set_option linter.unusedSimpArgs false
set_option linter.unusedVariables false
namespace Go.Proofs.YtkmcodofnckdmaaGreat
open Go.RowKit Go.Maps
def fz(n:Nat)(f:Nat->Int)(i:Nat):LI:=(List.range n).map (fun j=>if j<i then f j else 0)
def totO(cs:List (List Pn)):Nat:=cs.length+cs.flatten.length
def fewB(o:Ol):Bool:=decide (totO o.cs<=1000)&&decide (o.ps.length<=100)
theorem zq2{cs:List (List Pn)}{k:Nat}(hk:k<cs.length):totO (cs.take (k+1))=totO (cs.take k)+(1+(cs.getD k []).length):=by
 unfold totO
 rw[zan hk,List.length_take,List.length_take]
 omega
theorem zz5(cs:List (List Pn))(k:Nat):totO (cs.take k)<=totO cs:=by
 unfold totO
 have:=zay cs k
 rw[List.length_take]
 omega
theorem z2z{o:Ol}(h:fewB o=true):o.cs.length<=1000/\o.cs.flatten.length<=1000/\o.ps.length<=100:=by
 unfold fewB totO at h
 rw[Bool.and_eq_true,decide_eq_true_iff,decide_eq_true_iff]at h
 omega
theorem zrj(S:Nat->Prop)(a:OA)(ca:Nat)(b:OA)(cb:Nat)(o:Ol)(w:World)(hc:Gr PnE.row S w a ca o.cs)(hp:Gr PaE S w b cb o.ps) :
 Calls Tryz.prog 63 #[.agg #[.slice a o.cs.length ca,.slice b o.ps.length cb]] w fun e w'=>e=.returned (.bool (fewB o))/\Below w.heap.size w w':=by
 have k1:=hc.lenB
 have k2:=hp.lenB
 obtain⟨W,hW,X1,hbW⟩:∃W,W=w.alloc (.cells #[.slice a o.cs.length ca,.slice b o.ps.length cb] 57)/\Bk 57 W w.heap.size [.slice a o.cs.length ca,.slice b o.ps.length cb]/\Below w.heap.size w W:=⟨_,rfl,Bk.new _ _ _,bl1 _⟩
 obtain⟨x0,x1,_⟩:=X1.two
 have HC:Hid (Gr PnE.row S W a ca o.cs):=hc.below hbW
 have HF:Hid (fewB o=(decide (totO o.cs<=1000)&&decide (o.ps.length<=100))):=rfl
 clear hc hp X1
 generalize fewB o=fb at *
 go_enter Tryz.func63,Tryz.ntmps63
 go_wp2;rw[<-hW];clear hW
 go_loopw [3,4] (fun nv i wr=>∃k n:Nat,k<=o.cs.length/\i=.int .i64 k/\nv=.int .i64 (n:Int)/\n=totO (o.cs.take k)/\n<=140737488361232/\W=wr) (fun _ i _=>o.cs.length-(intOf i).toNat)
 case atStart=>exact⟨0,0,Nat.zero_le _,rfl,rfl,rfl,by omega,rfl⟩
 case round =>
  obtain⟨k,n,hk,rfl,rfl,hn,hnb,rfl⟩:=hrel
  have HN:Hid (n=totO (o.cs.take k)):=hn
  clear hn
  by_cases hgo:k<o.cs.length/\n<=1000
  . obtain⟨hkn,hn1⟩:=hgo
    obtain⟨b1,off,a1,c1,ea,hb,d0,hrow,hlb,_⟩:=HC.out.rw (Below.refl _ _) k hkn
    subst ea
    have hst:=zq2 hkn
    rw[<-HN.out]at hst
    obtain⟨c,hcc⟩:∃c,o.cs.getD k []=c:=⟨_,rfl⟩
    rw[hcc]at d0 hst hlb
    have HN2:Hid (n+(1+c.length)=totO (o.cs.take (k+1))):=hst.symm
    have g1:decide (k<o.cs.length)=true:=decide_eq_true hkn
    have g2:decide ((n:Int)<=1000)=true:=decide_eq_true (by omega)
    have i1:(0:Int)<=(k:Int):=by omega
    have i2:(k:Int)<(o.cs.length:Int):=by omega
    clear hst hcc hrow HN;go_wp2
    go_roundw
    case rel=>exact⟨k+1,n+(1+c.length),by omega,by go_num,by go_num,HN2.out,by omega,trivial⟩
    case measure=>simp[intOf];omega
  . have hle:=zz5 o.cs k
    have HFF:Hid (fb=(decide ((n:Int)<=1000)&&decide ((o.ps.length:Int)<=100))):=by
     show _=_
     rw[HF.out]
     have h1:decide (totO o.cs<=1000)=decide ((n:Int)<=1000):=by
      rw[decide_eq_decide]
      by_cases hkk:k<o.cs.length
      . rw[<-HN.out]at hle
        omega
      . have:o.cs.take k=o.cs:=List.take_of_length_le (by omega)
        have h2:=HN.out
        rw[this]at h2
        omega
     have h2:decide (o.ps.length<=100)=decide ((o.ps.length:Int)<=100):=by
      rw[decide_eq_decide]
      omega
     rw[h1,h2]
    clear HN hle
    by_cases hkn:k<o.cs.length
    . have g1:decide (k<o.cs.length)=true:=decide_eq_true hkn
      have g2:decide ((n:Int)<=1000)=false:=decide_eq_false (by omega)
      rw[g2,Bool.false_and]at HFF;go_wp2
      go_ret
      exact⟨zaa HFF.out.symm,hbW⟩
    . have g1:decide (k<o.cs.length)=false:=decide_eq_false hkn
      by_cases hn1:n<=1000
      . have g2:decide ((n:Int)<=1000)=true:=decide_eq_true (by omega)
        rw[g2,Bool.true_and]at HFF;go_wp2
        go_ret
        exact⟨zaa HFF.out.symm,hbW⟩
      . have g2:decide ((n:Int)<=1000)=false:=decide_eq_false (by omega)
        rw[g2,Bool.false_and]at HFF;go_wp2
        go_ret
        exact⟨zaa HFF.out.symm,hbW⟩
theorem zj5(S:Nat->Prop)(a:OA)(ca:Nat)(vb:Value)(cs:List (List Pn))(w:World)(h:Gr PnE.row S w a ca cs)(hl:cs.flatten.length<=100000)(hv:vb.cells=#[vb]) :
 Calls Tryz.prog 65 #[.agg #[.slice a cs.length ca,vb]] w fun e w'=>∃a' c',e=.returned (.slice a' cs.flatten.length c')/\Gr PnE (fun _=>True) w' a' c' cs.flatten/\(∀b o,a'=some ⟨b,o,none⟩->w.heap.size<=b/\b<w'.heap.size)/\Below w.heap.size w w':=by
 have k2:=h.lenB
 obtain⟨W,hW,X1,hbW⟩:∃W,W=w.alloc (.cells #[.slice a cs.length ca,vb] 57)/\Bk 57 W w.heap.size [.slice a cs.length ca,vb]/\Below w.heap.size w W:=⟨_,rfl,Bk.new _ _ _,bl1 _⟩
 have HH:Hid (Gr PnE.row S w a ca cs):=h
 have HX:Hid (Bk 57 W w.heap.size [.slice a cs.length ca,vb]):=X1
 have HB0:Hid (Below w.heap.size w W):=hbW
 have HGL:Hid (w.heap.size<W.heap.size):=X1.lt
 clear h X1 hbW
 go_enter Tryz.func65,Tryz.ntmps65
 go_wp2;rw[<-hW];clear hW
 go_loopw [3,4] (fun v i wr=>∃k:Nat,k<=cs.length/\i=.int .i64 k/\Gw PnE 65 W.heap.size (fun _=>True) wr v ((cs.take k).flatten)/\Below W.heap.size W wr) (fun _ i _=>cs.length-(intOf i).toNat)
 case atStart=>exact⟨0,Nat.zero_le _,rfl,Gw.nil _ _ _ _ _,Below.refl _ _⟩
 case round =>
  obtain⟨k,hk,rfl,hT,hB⟩:=hrel;obtain⟨a2,c2,rfl,hgr,hblk⟩:=hT.slice
  have HT:Hid (Gw PnE 65 W.heap.size (fun _=>True) wr (.slice a2 ((cs.take k).flatten).length c2) ((cs.take k).flatten)):=hT
  obtain⟨x0,x1,_⟩:=(HX.out.below hB).two
  have hBw:Below w.heap.size w wr:=HB0.out.trans (hB.mono HB0.out.size)
  clear hT
  by_cases hkn:k<cs.length
  . obtain⟨b,off,a1,c1,ea,hb,d0,hrow,hlb,_⟩:=HH.out.rw hBw k hkn
    subst ea
    have hst:=zan hkn
    have hle:=zay cs (k+1)
    obtain⟨c,hc⟩:∃c,cs.getD k []=c:=⟨_,rfl⟩
    have HS:Hid (_):=zdz hkn hc
    rw[hc]at d0 hst hlb hrow
    have hll:((cs.take k).flatten).length+c.length<=1000000:=by omega
    have i1:(0:Int)<=(k:Int):=by omega
    have i2:(k:Int)<(cs.length:Int):=by omega
    have hbs:W.heap.size<=wr.heap.size:=hB.size
    clear hc hst hle hlb hgr hblk
    generalize (cs.take k).flatten=L at *
    go_wp2_with (at_builtin;refine zad 63 65 Tryz.underlying63 zcx rfl (by decide) (by decide) rfl _ _ rfl W.heap.size (fun _=>True) _ L rfl HT.out a1 c1 _ c rfl rfl hrow.anyP hll hbs ?_)
    intro v9 w9 hT9 hgrow _
    have hB9:Below W.heap.size W w9:=hB.grown hgrow hbs (fun k hk=>(HT.out.lo hk).1)
    rw[<-HS.out]at hT9;clear hgrow hbs hll HS;go_wp2
    go_roundw
    case rel=>exact⟨k+1,by omega,by go_num,hT9,hB9⟩
    case measure=>simp[intOf];omega
  . obtain rfl:k=cs.length:=by omega
    rw[List.take_length]at HT hgr ⊢
    have HB2:Hid (∀b o,a2=some ⟨b,o,none⟩->w.heap.size<=b/\b<wr.heap.size):=fun b o e=>⟨Nat.le_trans (Nat.le_of_lt HGL.out) (hblk b o e).1,(hblk b o e).2⟩
    have g4:¬(cs.length:Int)<(cs.length:Int):=by omega
    clear hblk;go_wp2
    go_ret
    exact⟨a2,c2,rfl,hgr,HB2.out,hBw⟩
theorem wrapU{z:Int}(h1:-9223372036854775808<=z)(h2:z<=9223372036854775807):IntKind.i64.wrap z=z:=by
 unfold IntKind.wrap
 simp[IntKind.bits,IntKind.signed]
 omega
def szT(t:Tu):Nat:=1+t.rg.length+t.pts.length+t.dx.length+t.dy.length
def totT(l:List Tu):Nat:=(l.map szT).sum
def fewT(l:List Tu):Bool:=decide (totT l<=3000)&&decide (l.length<=30)
theorem zq1{l:List Tu}{k:Nat}(hk:k<l.length):totT (l.take (k+1))=totT (l.take k)+szT (l.getD k Tu.none):=by
 unfold totT
 rw[zaj (d:=Tu.none) hk,List.map_append,List.sum_append]
 simp
theorem zz4(l:List Tu)(k:Nat):totT (l.take k)<=totT l:=by
 have h:totT l=totT (l.take k)+totT (l.drop k):=by
  unfold totT
  rw[<-List.sum_append,<-List.map_append,List.take_append_drop]
 omega
theorem z2y{l:List Tu}(h:fewT l=true):l.length<=30/\totT l<=3000:=by
 unfold fewT at h
 rw[Bool.and_eq_true,decide_eq_true_iff,decide_eq_true_iff]at h
 exact⟨h.2,h.1⟩
theorem zri(S:Nat->Prop)(a:OA)(ca:Nat)(l:List Tu)(w:World)(hl:Gr TuE S w a ca l) :
 Calls Tryz.prog 64 #[.slice a l.length ca] w fun e w'=>e=.returned (.bool (fewT l))/\Below w.heap.size w w':=by
 have k1:=hl.lenB
 have HC:Hid (Gr TuE S w a ca l):=hl
 have HF:Hid (fewT l=(decide (totT l<=3000)&&decide (l.length<=30))):=rfl
 clear hl
 generalize fewT l=fb at *
 go_enter Tryz.func64,Tryz.ntmps64
 go_wp2
 go_loopw [3,4] (fun nv i wr=>∃k n:Nat,k<=l.length/\i=.int .i64 k/\nv=.int .i64 (n:Int)/\n=totT (l.take k)/\n<=562949953425001/\Below w.heap.size w wr) (fun _ i _=>l.length-(intOf i).toNat)
 case atStart=>exact⟨0,0,Nat.zero_le _,rfl,rfl,rfl,by omega,Below.refl _ _⟩
 case round =>
  obtain⟨k,n,hk,rfl,rfl,hn,hnb,hB⟩:=hrel
  have HN:Hid (n=totT (l.take k)):=hn
  have HB:Hid (Below w.heap.size w wr):=hB
  clear hn
  by_cases hgo:k<l.length/\n<=3000
  . obtain⟨hkn,hn1⟩:=hgo
    obtain⟨b0,off,ra,rc,pa,pc,xa,xc,ya,yc,ea,hb,ht,d0,d1,d2,d3,d4⟩:=HC.out.tu hB k hkn
    subst ea
    have hst:=zq1 hkn
    rw[<-HN.out]at hst;obtain⟨l1,l2,l3,l4⟩:=ht.len
    obtain⟨t,htt⟩:∃t,l.getD k Tu.none=t:=⟨_,rfl⟩
    rw[htt]at d0 d1 d2 d3 d4 hst l1 l2 l3 l4
    unfold szT at hst
    generalize t.rg.length=r at *
    generalize t.pts.length=p at *
    generalize t.dx.length=x at *
    generalize t.dy.length=y at *
    have HN2:Hid (n+(1+r+p+x+y)=totT (l.take (k+1))):=hst.symm
    have g1:decide (k<l.length)=true:=decide_eq_true hkn
    have g2:decide ((n:Int)<=3000)=true:=decide_eq_true (by omega)
    have i1:(0:Int)<=(k:Int):=by omega
    have i2:(k:Int)<(l.length:Int):=by omega
    have w1:IntKind.i64.wrap (1+(r:Int))=1+(r:Int):=wrapU (by omega) (by omega)
    have w2:IntKind.i64.wrap (1+(r:Int)+(p:Int))=1+(r:Int)+(p:Int):=wrapU (by omega) (by omega)
    have w3:IntKind.i64.wrap (1+(r:Int)+(p:Int)+(x:Int))=1+(r:Int)+(p:Int)+(x:Int):=wrapU (by omega) (by omega)
    have w4:IntKind.i64.wrap (1+(r:Int)+(p:Int)+(x:Int)+(y:Int))=1+(r:Int)+(p:Int)+(x:Int)+(y:Int):=wrapU (by omega) (by omega)
    have w5:IntKind.i64.wrap ((n:Int)+(1+(r:Int)+(p:Int)+(x:Int)+(y:Int)))=(n:Int)+(1+(r:Int)+(p:Int)+(x:Int)+(y:Int)):=wrapU (by omega) (by omega)
    clear hst htt ht HN hB
    go_upto_region 5 with fail
    refine wp_region_held_drew (S:=fun w9=>w9.cell? ⟨b0,off+k*5,none⟩=some (.slice ra r rc)/\w9.cell? ⟨b0,off+k*5+2,none⟩=some (.slice pa p pc)/\w9.cell? ⟨b0,off+k*5+3,none⟩=some (.slice xa x xc)/\w9.cell? ⟨b0,off+k*5+4,none⟩=some (.slice ya y yc)) (by kernel_rfl) ?_ (fun hH=>?_)
    . (try dsimp only)
      go_keep
    have hdr:Below wr.heap.size wr wr.drew:=Below.drew1
    generalize wr.drew=Z at hdr hH ⊢
    clear d0 d1 d2 d3 d4;refine hT 0 hH ?_;refine hT 1 hH ?_;refine hT 2 hH ?_;refine hT 3 hH ?_;refine hT 4 hH ?_;refine hT 5 hH ?_;refine hT 6 hH ?_;refine hT 7 hH ?_;refine hT 8 hH ?_;refine hT 9 hH ?_;refine hT 10 hH ?_;refine hT 11 hH ?_;refine hT 12 hH ?_
    refine hT 13 hH ?_;refine hT 14 hH ?_;refine hT 15 hH ?_;refine hT 16 hH ?_;refine hT 17 hH ?_;refine hT 18 hH ?_;refine hT 19 hH ?_;refine hT 20 hH ?_;refine hT 21 hH ?_;refine hT 22 hH ?_;refine hT 23 hH ?_;refine hT 24 hH ?_;refine hT 25 hH ?_
    refine hT 26 hH ?_;refine hT 27 hH ?_;refine hT 28 hH ?_;refine hT 29 hH ?_;refine hT 30 hH ?_
    refine wpAnyH_done (by kernel_rfl) ?_ _
    have HB2:Hid (Below w.heap.size w Z):=HB.out.trans (hdr.mono HB.out.size)
    clear hH hdr;go_wp2
    go_roundw
    case rel=>exact⟨k+1,n+(1+r+p+x+y),by omega,by go_num,by exact congrArg (Value.int .i64) (by omega),HN2.out,by omega,HB2.out⟩
    case measure=>simp[intOf];omega
  . have hle:=zz4 l k
    have HFF:Hid (fb=(decide ((n:Int)<=3000)&&decide ((l.length:Int)<=30))):=by
     show _=_
     rw[HF.out]
     have h1:decide (totT l<=3000)=decide ((n:Int)<=3000):=by
      rw[decide_eq_decide]
      by_cases hkk:k<l.length
      . rw[<-HN.out]at hle
        omega
      . have:l.take k=l:=List.take_of_length_le (by omega)
        have h2:=HN.out
        rw[this]at h2
        omega
     have h2:decide (l.length<=30)=decide ((l.length:Int)<=30):=by
      rw[decide_eq_decide]
      omega
     rw[h1,h2]
    clear HN hle
    by_cases hkn:k<l.length
    . have g1:decide (k<l.length)=true:=decide_eq_true hkn
      have g2:decide ((n:Int)<=3000)=false:=decide_eq_false (by omega)
      rw[g2,Bool.false_and]at HFF;go_wp2
      go_ret
      exact⟨zaa HFF.out.symm,hB⟩
    . have g1:decide (k<l.length)=false:=decide_eq_false hkn
      by_cases hn1:n<=3000
      . have g2:decide ((n:Int)<=3000)=true:=decide_eq_true (by omega)
        rw[g2,Bool.true_and]at HFF;go_wp2
        go_ret
        exact⟨zaa HFF.out.symm,hB⟩
      . have g2:decide ((n:Int)<=3000)=false:=decide_eq_false (by omega)
        rw[g2,Bool.false_and]at HFF;go_wp2
        go_ret
        exact⟨zaa HFF.out.symm,hB⟩
