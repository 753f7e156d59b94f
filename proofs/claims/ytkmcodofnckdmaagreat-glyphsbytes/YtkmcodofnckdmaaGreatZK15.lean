import Derived.Test.YtkmcodofnckdmaaGreatZK14
import Derived.Deep.CutBlock
set_option maxHeartbeats 4000000
set_option maxRecDepth 100000
set_option linter.unusedSimpArgs false
set_option linter.unusedVariables false
namespace Go.Proofs.YtkmcodofnckdmaaGreat
open Tryz Go.RowKit Go.Maps
theorem z1g{bs:LN}{ws:LI}{n:Int}(h1:-2147483648<=n)(h2:n<=4294967295):(St.mk bs ws false).put32 n=⟨bs++be4 n,ws,false⟩:=by simp[St.put32,h1,h2,St.app]
theorem zb0{bs:LN}{ws:LI}{n:Int}(h1:-32768<=n)(h2:n<=65535):(St.mk bs ws false).put16 n=⟨bs++be2 n,ws,false⟩:=by simp[St.put16,h1,h2,St.app]
theorem zjn(w:World)(G:Nat->Prop)(hG:∀k,G k->k<w.heap.size):Pc (w.alloc (.cells #[.slice none 0 0,.int .i64 0,.map none,.bool false] 90)) w.heap.size G St.zero:=by
 refine⟨fun k hk=>by have:=hG k hk;simp;omega,fun h=>by have:=hG _ h;omega,Wf.zero,.slice none 0 0,.map none,heap_alloc_new w _,(fun h=>by cases h),fun _=>⟨⟨World.ownsRow_nil _ 0 _ 1,fun g hg=>by cases hg⟩,.inl ⟨rfl,rfl⟩⟩⟩
theorem Pc.moreA{w:World}{B:Nat}{G:Nat->Prop}{s:St}(h:Pc w B G s)(o:Obj):Pc (w.alloc o) B (fun k=>G k\/k=w.heap.size) s:=by
 refine h.guard_new (by simp) (fun k hk _=>(bl1 o).block k hk) ?_;rintro k (hk|rfl)
 . exact⟨by have:=h.1 k hk;simp;omega,fun _=>hk⟩
 . exact⟨by simp,fun hlt=>absurd hlt (Nat.lt_irrefl _)⟩
theorem Ri.kept{G:Nat->Prop}{w w':World}{a:OA}{cap:Nat}{zs:LI}(h:Ri w a cap zs)(hk:Keep G w w')(hG:∀b o,a=some ⟨b,o,none⟩->G b):Ri w' a cap zs:=by
 obtain⟨h1,h2,h3,h4⟩:=h;refine⟨h1,h2,h3,?_⟩;rcases h4 with h4|⟨b,off,e,h5,h6⟩
 . exact .inl h4
 . exact .inr ⟨b,off,e,qN h5 hk.size,fun i hi=>(hk.cell (p:=⟨b,off+i,none⟩) (hG b off e)).trans (h6 i hi)⟩
theorem Ri.get{w:World}{a:OA}{cap:Nat}{zs:LI}(h:Ri w a cap zs)(k:Nat)(hk:k<zs.length) :
 ∃b off,a=some ⟨b,off,none⟩/\b<w.heap.size/\w.cell? ⟨b,off+k,none⟩=some (.int .i64 (zs.getD k 0)):=h.at (Below.refl _ _) k hk
theorem put8A{bs:LN}{ws:LI}{n:Int}(h1:-128<=n)(h2:n<=255):(St.mk bs ws false).put8 n=⟨bs++be1 n,ws,false⟩:=by simp[St.put8,h1,h2,St.app]
theorem ze8{f:Int->LN}{l:LI}{k:Nat}{x:Int}(hk:k<l.length)(hx:l.getD k 0=x):(l.take (k+1)).flatMap f=(l.take k).flatMap f++f x:=by
 have e:l.take (k+1)=l.take k++[x]:=by
  rw[List.take_add_one,qG hk,<-hx];simp[List.getD,hk]
 rw[e,List.flatMap_append];simp
theorem zfa{f:Int->LN}(h:∀x,(f x).length<=2)(m:LI):(m.flatMap f).length<=2*m.length:=by
 induction m with
 | nil=>simp
 | cons x t ih=>have:=h x;rw[List.flatMap_cons,qA,List.length_cons];omega
theorem zet{f:Int->LN}(h:∀x,(f x).length<=2)(l:LI)(k:Nat):((l.take k).flatMap f).length<=2*l.length:=by
 have:=zfa h (l.take k);rw[qL]at this;omega
theorem zc8{l:LI}{k:Nat}(h:k<l.length):l.getD k 0∈l:=by
 rw[qH,qG h];exact List.getElem_mem h
theorem zfm{m:Nat}(h:m<256):be1 (m:Int)=[m]:=by
 unfold be1;rw[show((m:Int)%256).toNat=m by omega]
def slLen:Value->Nat
 | .slice _ n _=>n
 | _=>0
theorem Pc.wider{w w':World}{B:Nat}{G:Nat->Prop}{s:St}(h:Pc w B G s)(hb:Below w.heap.size w w'):Pc w' B (fun k=>G k\/(w.heap.size<=k/\k<w'.heap.size)) s:=by
 refine h.guard_new hb.size (fun k hk _=>hb.block k hk) ?_;rintro k (hk|⟨h1,h2⟩)
 . exact⟨qN (h.1 k hk) hb.size,fun _=>hk⟩
 . exact⟨h2,fun h3=>by omega⟩
theorem all_B(ys:LN):allB ⟨ys,[],false⟩=ys:=rfl
theorem all_E(ys:LN):allE ⟨ys,[],false⟩=0:=rfl
theorem zhv:(Tryz.prog.info? 5).map (fun i=>(i.zero,i.size,i.bytes))=some (some (.int .u8 0),1,1):=by kernel_rfl
def Bo(base:Nat)(w:World)(v:Value)(ys:LN):Prop:=Byt ys/\w.ownsRow base 5 1 v ys.length (ys.map Y)
theorem Bo.nil(base:Nat)(w:World):Bo base w (.slice none 0 0) []:=⟨Byt.nil,World.ownsRow_nil w base _ 1⟩
theorem Bo.slice{base:Nat}{w:World}{v:Value}{ys:LN}(h:Bo base w v ys):∃a cap,v=.slice a ys.length cap/\Rb w a cap ys:=by
 have h3:=h.2;rcases h3.2 with ⟨e,h0⟩|⟨g,cap,cur,e,hb,hg,hc1,hc2,hc3,ht⟩
 . have:ys=[]:=List.length_eq_zero_iff.1 h0
   subst this;exact⟨none,0,e,Rb.nil _ _ _ (qD _) (fun _=>rfl)⟩
 . subst e
   exact⟨_,_,rfl,Rw.rd (e:=5) (base:=base) ⟨h.1,h3⟩⟩
theorem Bo.below{base:Nat}{w w':World}{v:Value}{ys:LN}(h:Bo base w v ys)(hb:Below w.heap.size w w'):Bo base w' v ys:=by
 obtain⟨h1,h3⟩:=h;refine⟨h1,h3.1,?_⟩;rcases h3.2 with h0|⟨g,cap',cur,k1,k2,k3,k4⟩
 . exact .inl h0
 . exact .inr ⟨g,cap',cur,k1,k2,(hb.block g (Array.getElem?_eq_some_iff.1 k3).1).trans k3,k4⟩
theorem Bo.lo{base:Nat}{w:World}{v:Value}{ys:LN}(h:Bo base w v ys){g:Nat}(hg:v.ownBlock=some g):base<=g/\g<w.heap.size:=World.ownsRow.lt h.2 g hg
theorem zaj{w:World}{ops:Array Oper}{rest:List Oper}{o:Oper}{a:Act}{Q:Exit->Act->World->Prop}
    (hgd:o.guard=none) (s x:Operand) (ho:o.op=.call { callee:=.builtin .append,args:=#[s,x],argTypes:=#[42,42] })
    (base:Nat) (v:Value) (ys:LN) (hs:a.eval s=v) (hown:Bo base w v ys) (g:Nat) (z:Nat) (hx:a.eval x=.slice (some ⟨g,0,none⟩) 1 1)
    (c0:w.cell? ⟨g,0,none⟩=some (.int .u8 (z:Int))) (hz:z<256) (hlen:ys.length+1<=1000000) (hbase:base<=w.heap.size)
    (h:∀v' w',Bo base w' v' (ys++[z])->w.grownBy w' v.ownBlock->wpList Tryz.prog ops Q rest (a.put o.dst v') w'):wpList Tryz.prog ops Q (o::rest) a w:=by
 obtain⟨i0,hi,hz0,hz1,hz2⟩:=info_parts zhv;refine zcf hgd s x 42 ho base 5 i0 underlying42 hi hz0 hz1 hz2 v ys.length ys hs hown.2 g z hx c0 (by omega) hbase ?_;intro v' w' k1 k2 _;exact h v' w' ⟨hown.1.append (fun y hy=>by rw[List.mem_singleton.1 hy];exact hz),by rw[qA];exact k1⟩ k2
theorem za2{w:World}{ops:Array Oper}{rest:List Oper}{o:Oper}{a:Act}{Q:Exit->Act->World->Prop}
    (hgd:o.guard=none) (s x:Operand) (ho:o.op=.call { callee:=.builtin .append,args:=#[s,x],argTypes:=#[42,42] })
    (base:Nat) (v:Value) (ys:LN) (hs:a.eval s=v) (hown:Bo base w v ys) (ad:OA) (c m:Nat) (zs:LN) (hm:m=zs.length) (hx:a.eval x=.slice ad m c)
    (hrd:Rb w ad c zs) (hlen:ys.length+zs.length<=1000000) (hbase:base<=w.heap.size)
    (h:∀v' w',Bo base w' v' (ys++zs)->w.grownBy w' v.ownBlock->wpList Tryz.prog ops Q rest (a.put o.dst v') w'):wpList Tryz.prog ops Q (o::rest) a w:=by
 obtain⟨i0,hi,hz0,hz1,hz2⟩:=info_parts zhv;refine zas hgd s x 42 ho base 5 i0 underlying42 hi hz0 hz1 hz2 v ys.length ys hs hown.2 ad c m zs hx hm hrd (by omega) hbase ?_;intro v' w' k1 k2 _;exact h v' w' ⟨hown.1.append hrd.lim,by rw[qA];exact k1⟩ k2
theorem ztv{base b2:Nat}{w:World}{v:Value}{ys:LN}(h:Bo base w v ys)(hb:b2<=base):Bo b2 w v ys:=by
 obtain⟨h1,h3⟩:=h;refine⟨h1,h3.1,?_⟩;rcases h3.2 with h0|⟨g,cap,cur,k1,k2,k3,k4⟩
 . exact .inl h0
 . exact .inr ⟨g,cap,cur,k1,qF hb k2,k3,k4⟩
theorem zcc(l:LI)(i j:Nat):(l.drop i).getD j 0=l.getD (i+j) 0:=by simp[List.getD]
theorem zct{P:Pk}{l:LI}{i e:Nat}(h0:i<e)(h1:e<=i+P.M)(h2:e<=l.length)(h3:∀j,i<=j->j<e->P.c (l.getD j 0)=P.c (l.getD i 0))(h4:e=i+P.M\/e=l.length\/P.c (l.getD e 0)≠P.c (l.getD i 0)):rn P.c P.M (l.drop i)=e-i:=by
 refine rn_eq (by omega) (by omega) (by rw[qJ];omega) (fun j hj=>?_) ?_
 . rw[zcc,zcc,Nat.add_zero]
   exact h3 (i+j) (by omega) (by omega)
 . rw[zcc,zcc,Nat.add_zero,show i+(e-i)=e by omega,qJ]
   rcases h4 with h4|h4|h4
   . exact .inl (by omega)
   . exact .inr (.inl (by omega))
   . exact .inr (.inr h4)
theorem zjl{P:Pk}(hM:0<P.M){l:LI}{i e c0 h:Nat}{ys tot:LN}(hi:i<l.length)(hr:rn P.c P.M (l.drop i)=e-i)(hie:i<e)(hc:P.c (l.getD i 0)=c0)(hh:h=P.M*c0+(e-i)-1)(ht:ys++pk P (l.drop i)=tot) :
 ys++[h]++((l.drop i).take (e-i)).flatMap (P.en c0)++pk P (l.drop e)=tot:=by
 have hne:l.drop i≠[]:=by intro e;have:=congrArg List.length e;rw[qJ]at this;simp at this;omega
 rw[<-ht,zjm P hM hne,hr,zcc,Nat.add_zero,hc,<-hh,List.drop_drop,show i+(e-i)=e by omega];simp only[qI]
theorem zli{P:Pk}{l:LI}{i j c0:Nat}{x:Int}(hij:i<=j)(hj:j<l.length)(hx:l.getD j 0=x):((l.drop i).take (j+1-i)).flatMap (P.en c0)=((l.drop i).take (j-i)).flatMap (P.en c0)++P.en c0 x:=by
 have e:(l.drop i).take (j+1-i)=(l.drop i).take (j-i)++[x]:=by
  rw[show j+1-i=(j-i)+1 by omega,List.take_add_one,List.getElem?_drop,show i+(j-i)=j by omega,qG hj,<-hx];simp[List.getD,hj]
 rw[e,List.flatMap_append];simp
theorem z0c(kd:Nat)(x:Int):(enC kd x).length<=2:=by unfold enC be1 be2;split <;> (try split) <;> simp
theorem zeg{z m:Int}(h:0<=z):z.tmod m=z%m:=Int.tmod_eq_emod_of_nonneg h
theorem zib{x:Int}:be2 ((x+65536)%65536)=be2 x:=by
 unfold be2;rw[show(x+65536)%65536/256%256=x/256%256 by omega,show(x+65536)%65536%256=x%256 by omega]
theorem znb{P:Pk}{l:LI}{i e c0:Nat}(hr:rn P.c P.M (l.drop i)=e-i)(hc:P.c (l.getD i 0)=c0){j:Nat}(h1:i<=j)(h2:j<e):P.c (l.getD j 0)=c0:=by
 have:=zlv (c:=P.c) (M:=P.M) (l:=l.drop i) (j:=j-i) (by omega);rw[zcc,zcc,Nat.add_zero,show i+(j-i)=j by omega,hc]at this;exact this
theorem zez(a:OA)(cap:Nat)(l:LI)(w:World)(h:Ri w a cap l) :
 Calls Tryz.prog 85 #[.slice a l.length cap] w fun e w'=>∃v,e=.returned (.tuple #[v,.int .i64 (pcE l)])/\Bo w.heap.size w' v (pcB l)/\Below w.heap.size w w':=by
 have k2:=h.lenB;have hfo:=zko a cap l w h;have HH:Hid (Ri w a cap l):=h;clear h;cases hc:chB l with
 | false =>
  have HE:Hid (pcE l=1/\pcB l=[]):=⟨by simp[pcE,hc],by simp[pcB,hc]⟩;rw[hc]at hfo;clear hc;go_enter func85,ntmps85;go_wp2_with fail
  refine hfo.mono ?_;rintro e u1 ⟨rfl,hb1⟩;clear hfo;go_wp2;go_ret2;exact⟨.slice none 0 0,by rw[HE.out.1];rfl,by rw[HE.out.2];exact Bo.nil _ _,hb1⟩
 | true =>
  have HE:Hid (pcE l=0/\pcB l=pk PC l):=⟨by simp[pcE,hc],by simp[pcB,hc]⟩;have hl2:=(zcp.1 hc).2;have HD:Hid (∀j,j<l.length->-32768<=l.getD j 0/\l.getD j 0<=32767):=fun j hj=>(zcp.1 hc).1 _ (by rw[qH,qG hj];exact List.getElem_mem hj);have HTL:Hid ((pk PC l).length<=6000):=by
   show _<=_;have:=zci hc;rw[pcB,if_pos hc]at this;omega
  rw[hc]at hfo;clear hc;go_enter func85,ntmps85;go_wp2_with fail
  refine hfo.mono ?_;rintro e u1 ⟨rfl,hb1⟩;clear hfo;have HB1:Hid (Below w.heap.size w u1):=hb1;clear hb1;go_wp2
  go_loopw [4,5] (fun v ii wr=>∃(i:Nat) (ys:LN),i<=l.length/\ii=.int .i64 (i:Int)/\ys++pk PC (l.drop i)=pk PC l/\Bo u1.heap.size wr v ys/\Below u1.heap.size u1 wr) (fun _ ii _=>l.length-(intOf ii).toNat)
  case atStart=>exact⟨0,[],qD _,rfl,by rw[List.drop_zero,List.nil_append],Bo.nil _ _,Below.refl _ _⟩
  case round =>
   obtain⟨i,ys,hi,rfl,zhx,hBo,hBu⟩:=hrel;have HT:Hid (ys++pk PC (l.drop i)=pk PC l):=zhx;have hyl:ys.length+(pk PC (l.drop i)).length<=6000:=(by have:=HTL.out;rw[<-zhx,qA]at this;exact this);clear zhx;by_cases hin:i<l.length;rotate_left
   . obtain rfl:i=l.length:=by omega
     have HY:Hid (ys=pk PC l):=(by show _=_;rw[<-HT.out,List.drop_length];simp[zkz]);obtain⟨a2,c2,rfl,hrb⟩:=hBo.slice;have hbW:=HB1.out.trans (hBu.mono HB1.out.size);have g1:¬(l.length:Int)<(l.length:Int):=(by omega);go_wp2;go_ret2;exact⟨.slice a2 ys.length c2,by rw[HE.out.1];rfl,by rw[HE.out.2,<-HY.out];exact ztv hBo HB1.out.size,hbW⟩
   have g1:(i:Int)<(l.length:Int):=(by omega);obtain⟨wo,rfl⟩:∃wo,wo=wr:=⟨_,rfl⟩;have HBo:Hid (Below w.heap.size w wo):=HB1.out.trans (hBu.mono HB1.out.size);obtain⟨av,cv,rfl,_⟩:=hBo.slice;have HBo0:Hid (Bo u1.heap.size wo (.slice av ys.length cv) ys):=hBo;have HBu:Hid (Below u1.heap.size u1 wo):=hBu;clear hBo hBu
   go_upto_block 2 with fail
   go_cut [6]from 12 to 86 (fun s6 wx=>∃e:Nat,s6=.int .i64 (e:Int)/\rn PC.c PC.M (l.drop i)=e-i/\i<e/\e<=l.length/\Below wo.heap.size wo wx)
   case first =>
    go_wp2_with fail
    go_loopw [6] (fun s6 wr=>∃e:Nat,i<=e/\e<=i+64/\e<=l.length/\s6=.int .i64 (e:Int)/\(∀j,i<=j->j<e->kdC (l.getD j 0)=kdC (l.getD i 0))/\Below wo.heap.size wo wr) (fun s6 _=>l.length-(intOf s6).toNat)
    case atStart=>exact⟨i,qE _,by omega,hi,rfl,(fun j h1 h2=>by omega),Below.refl _ _⟩
    case round =>
     obtain⟨e,he1,he2,hle,rfl,hsm,hbR⟩:=hrel;have HSM:Hid (∀j,i<=j->j<e->kdC (l.getD j 0)=kdC (l.getD i 0)):=hsm;have hbW:=HBo.out.trans (hbR.mono HBo.out.size);clear hsm;have j1:(i:Int)<(l.length:Int):=(by omega);by_cases h1:e<l.length
     . by_cases h2:e<i+64
       . obtain⟨b,off,ea,hb,d0⟩:=HH.out.at hbW e h1
         obtain⟨b',off',ea',_,d1⟩:=HH.out.at hbW i hin;rw[ea]at ea';cases ea';subst ea;have HD:Hid (kdC (l.getD e 0)≠kdC (l.getD i 0)->rn PC.c PC.M (l.drop i)=e-i/\i<e):=fun h=>by
          have hie:i<e:=by
           rcases Nat.lt_or_ge i e with h1|h1
           . exact h1
           . exact absurd (by rw[show e=i by omega]) h
          exact⟨zct (P:=PC) hie (by show e<=i+64;omega) (by omega) HSM.out (.inr (.inr h)),hie⟩
         obtain⟨x,hx⟩:∃x,l.getD e 0=x:=⟨_,rfl⟩;obtain⟨y,hy⟩:∃x,l.getD i 0=x:=⟨_,rfl⟩;have HK:Hid (kdC x=kdC y->∀j,i<=j->j<e+1->kdC (l.getD j 0)=kdC (l.getD i 0)):=fun h j hj1 hj2=>by
          rcases Nat.lt_or_ge j e with h1|h1
          . exact HSM.out j hj1 h1
          . rw[show j=e by omega,hx,hy];exact h
         rw[hx]at d0 HD;rw[hy]at d1 HD;have A0:Cl wr b (off+e) (.int .i64 x):=⟨World.block_lt_of_cell? wr _ d0,d0⟩;have A1:Cl wr b (off+i) (.int .i64 y):=⟨World.block_lt_of_cell? wr _ d1,d1⟩;clear d0 d1 hx hy;have q0:=A0.2;have q1:=A1.2;have hw64:IntKind.i64.wrap ((i:Int)+64)=(i:Int)+64:=zcy (by omega) (by omega);have g1:decide (e<l.length)=true:=qC h1;have g2:decide ((e:Int)<(i:Int)+64)=true:=qC (by omega);have j2:(e:Int)<(l.length:Int):=(by omega);have j3:(0:Int)<=(e:Int):=(by omega);have j4:(0:Int)<=(i:Int):=(by omega);have hka:=fun U=>(zex x U).mono fun e w' (h:_/\_)=>(⟨h.1,h.2 ▸ Below.refl _ _⟩:_/\Below U.heap.size U w');have hkb:=fun U=>(zex y U).mono fun e w' (h:_/\_)=>(⟨h.1,h.2 ▸ Below.refl _ _⟩:_/\Below U.heap.size U w');by_cases h3:kdC x=kdC y
         . have zqc:Hid (∀j,i<=j->j<e+1->kdC (l.getD j 0)=kdC (l.getD i 0)):=HK.out h3
           have g3:(((kdC x:Nat):Int)==((kdC y:Nat):Int))=true:=(by simp[h3]);simp only[h3]at hka g3;generalize ((kdC y:Nat):Int)=cy at *;have g4:(cy==cy)=true:=(by simp);clear h3 HK HD HSM;go_upto_region 7 with fail
           refine wp_region_held_drew (S:=(fun u=>u.cell? ⟨b,off+e,none⟩=some (.int .i64 x)/\u.cell? ⟨b,off+i,none⟩=some (.int .i64 y))) (by kernel_rfl) ?_ (fun hH=>?_)
           . (try dsimp only)
             go_keep
           have hdr:Below wr.heap.size wr wr.drew:=Below.drew1;generalize wr.drew=ud1 at hdr hH ⊢;replace A0:=A0.below hdr;replace A1:=A1.below hdr;replace hbW:Below w.heap.size w ud1:=hbW.trans (hdr.mono hbW.size);replace hbR:Below wo.heap.size wo ud1:=hbR.trans (hdr.mono hbR.size);clear hdr;refine hT 0 hH ?_;refine hT 1 hH ?_;refine hT 2 hH ?_;refine hT 3 hH ?_;refine hT 4 hH ?_;refine hT 5 hH ?_;refine hT 6 hH ?_;refine hT 7 hH ?_;refine hT 8 hH ?_;refine hT 9 hH ?_;refine hT 10 hH ?_;refine hT 11 hH ?_;refine hT 12 hH ?_;refine hT 13 hH ?_;refine hT 14 hH ?_;refine hT 16 hH ?_;refine hT 17 hH ?_;refine hT 18 hH ?_;refine hT 19 hH ?_;refine hCall (i:=15) rfl (by kernel_rfl) (by rfl) (fun K hK=>?_);go_simp;refine(hka _).mono ?_;rintro e u1 ⟨rfl,hb1⟩;replace A0:=A0.below hb1;replace A1:=A1.below hb1;replace hbW:Below w.heap.size w u1:=hbW.trans (hb1.mono hbW.size);replace hbR:Below wo.heap.size wo u1:=hbR.trans (hb1.mono hbR.size);clear hb1;go_wp2_with fail
           refine hK.out _ _ ?_ (fun hH=>?_)
           . (try dsimp only)
             exact⟨A0.2,A1.2⟩
           clear hK K;try simp only[Act.put,pZ]
           refine hCall (i:=20) rfl (by kernel_rfl) (by rfl) (fun K hK=>?_);go_simp;refine(hkb _).mono ?_;rintro e u2 ⟨rfl,hb2⟩;replace A0:=A0.below hb2;replace A1:=A1.below hb2;replace hbW:Below w.heap.size w u2:=hbW.trans (hb2.mono hbW.size);replace hbR:Below wo.heap.size wo u2:=hbR.trans (hb2.mono hbR.size);clear hb2;go_wp2_with fail
           refine hK.out _ _ ?_ (fun hH=>?_)
           . (try dsimp only)
             exact⟨A0.2,A1.2⟩
           clear hK K;try simp only[Act.put,pZ]
           refine hT 21 hH ?_;refine hT 22 hH ?_;refine wpAnyH_done (by kernel_rfl) ?_ _;clear hH;go_wp2_with fail
           go_roundw
           case rel=>exact⟨e+1,by omega,by omega,by omega,by go_num,zqc.out,hbR⟩
           case measure=>simp[intOf];omega
         . obtain⟨h5,h6⟩:=HD.out h3
           have HRN:Hid (rn PC.c PC.M (l.drop i)=e-i):=h5;have HIE:Hid (i<e):=h6;have g3:(((kdC x:Nat):Int)==((kdC y:Nat):Int))=false:=beq_eq_false_iff_ne.2 (by omega);generalize ((kdC x:Nat):Int)=cx at *;generalize ((kdC y:Nat):Int)=cy at *;clear h3 HK HD HSM h5 h6;go_upto_region 7 with fail
           refine wp_region_held_drew (S:=(fun u=>u.cell? ⟨b,off+e,none⟩=some (.int .i64 x)/\u.cell? ⟨b,off+i,none⟩=some (.int .i64 y))) (by kernel_rfl) ?_ (fun hH=>?_)
           . (try dsimp only)
             go_keep
           have hdr:Below wr.heap.size wr wr.drew:=Below.drew1;generalize wr.drew=ud2 at hdr hH ⊢;replace A0:=A0.below hdr;replace A1:=A1.below hdr;replace hbW:Below w.heap.size w ud2:=hbW.trans (hdr.mono hbW.size);replace hbR:Below wo.heap.size wo ud2:=hbR.trans (hdr.mono hbR.size);clear hdr;refine hT 0 hH ?_;refine hT 1 hH ?_;refine hT 2 hH ?_;refine hT 3 hH ?_;refine hT 4 hH ?_;refine hT 5 hH ?_;refine hT 6 hH ?_;refine hT 7 hH ?_;refine hT 8 hH ?_;refine hT 9 hH ?_;refine hT 10 hH ?_;refine hT 11 hH ?_;refine hT 12 hH ?_;refine hT 13 hH ?_;refine hT 14 hH ?_;refine hT 16 hH ?_;refine hT 17 hH ?_;refine hT 18 hH ?_;refine hT 19 hH ?_;refine hCall (i:=15) rfl (by kernel_rfl) (by rfl) (fun K hK=>?_);go_simp;refine(hka _).mono ?_;rintro e u1 ⟨rfl,hb1⟩;replace A0:=A0.below hb1;replace A1:=A1.below hb1;replace hbW:Below w.heap.size w u1:=hbW.trans (hb1.mono hbW.size);replace hbR:Below wo.heap.size wo u1:=hbR.trans (hb1.mono hbR.size);clear hb1;go_wp2_with fail
           refine hK.out _ _ ?_ (fun hH=>?_)
           . (try dsimp only)
             exact⟨A0.2,A1.2⟩
           clear hK K;try simp only[Act.put,pZ]
           refine hCall (i:=20) rfl (by kernel_rfl) (by rfl) (fun K hK=>?_);go_simp;refine(hkb _).mono ?_;rintro e u2 ⟨rfl,hb2⟩;replace A0:=A0.below hb2;replace A1:=A1.below hb2;replace hbW:Below w.heap.size w u2:=hbW.trans (hb2.mono hbW.size);replace hbR:Below wo.heap.size wo u2:=hbR.trans (hb2.mono hbR.size);clear hb2;go_wp2_with fail
           refine hK.out _ _ ?_ (fun hH=>?_)
           . (try dsimp only)
             exact⟨A0.2,A1.2⟩
           clear hK K;try simp only[Act.put,pZ]
           refine hT 21 hH ?_;refine hT 22 hH ?_;refine wpAnyH_done (by kernel_rfl) ?_ _;clear hH;go_wp2_with fail
           go_meet;exact⟨e,rfl,HRN.out,HIE.out,hle,hbR⟩
       . have hie:i<e:=by omega
         have HRN:Hid (rn PC.c PC.M (l.drop i)=e-i):=zct (P:=PC) hie (by show e<=i+64;omega) (by omega) HSM.out (.inl (by show e=i+64;omega));have HIE:Hid (i<e):=hie;have hw64:IntKind.i64.wrap ((i:Int)+64)=(i:Int)+64:=zcy (by omega) (by omega);have g1:decide (e<l.length)=true:=qC h1;have g2:decide ((e:Int)<(i:Int)+64)=false:=qB (by omega);clear h1 h2 HSM hie;go_upto_region 7 with fail
         refine wp_region_held_drew (S:=(fun _=>True)) (by kernel_rfl) ?_ (fun hH=>?_)
         . (try dsimp only)
           all_goals go_keep
         have hdr:Below wr.heap.size wr wr.drew:=Below.drew1;generalize wr.drew=ud3 at hdr hH ⊢;replace hbW:Below w.heap.size w ud3:=hbW.trans (hdr.mono hbW.size);replace hbR:Below wo.heap.size wo ud3:=hbR.trans (hdr.mono hbR.size);clear hdr;refine hT 0 hH ?_;refine hT 1 hH ?_;refine hT 2 hH ?_;refine hT 3 hH ?_;refine hT 4 hH ?_;refine hT 5 hH ?_;refine hT 6 hH ?_;refine hT 7 hH ?_;refine hT 8 hH ?_;refine hT 9 hH ?_;refine hT 10 hH ?_;refine hN 11 hH ?_;refine hN 12 hH ?_;refine hN 13 hH ?_;refine hN 14 hH ?_;refine hN 15 hH ?_;refine hN 16 hH ?_;refine hN 17 hH ?_;refine hN 18 hH ?_;refine hN 19 hH ?_;refine hN 20 hH ?_;refine hN 21 hH ?_;refine hT 22 hH ?_;refine wpAnyH_done (by kernel_rfl) ?_ _;clear hH;go_wp2_with fail
         go_meet;exact⟨e,rfl,HRN.out,HIE.out,hle,hbR⟩
     . have hie:i<e:=by omega
       have HRN:Hid (rn PC.c PC.M (l.drop i)=e-i):=zct (P:=PC) hie (by show e<=i+64;omega) (by omega) HSM.out (.inr (.inl (by omega)));have HIE:Hid (i<e):=hie;have g1:decide (e<l.length)=false:=qB h1;clear h1 HSM hie;go_upto_region 7 with fail
       refine wp_region_held_drew (S:=(fun _=>True)) (by kernel_rfl) ?_ (fun hH=>?_)
       . (try dsimp only)
         all_goals go_keep
       have hdr:Below wr.heap.size wr wr.drew:=Below.drew1;generalize wr.drew=ud4 at hdr hH ⊢;replace hbW:Below w.heap.size w ud4:=hbW.trans (hdr.mono hbW.size);replace hbR:Below wo.heap.size wo ud4:=hbR.trans (hdr.mono hbR.size);clear hdr;refine hT 0 hH ?_;refine hT 1 hH ?_;refine hT 2 hH ?_;refine hT 3 hH ?_;refine hT 4 hH ?_;refine hN 5 hH ?_;refine hN 6 hH ?_;refine hN 7 hH ?_;refine hN 8 hH ?_;refine hT 9 hH ?_;refine hT 10 hH ?_;refine hN 11 hH ?_;refine hN 12 hH ?_;refine hN 13 hH ?_;refine hN 14 hH ?_;refine hN 15 hH ?_;refine hN 16 hH ?_;refine hN 17 hH ?_;refine hN 18 hH ?_;refine hN 19 hH ?_;refine hN 20 hH ?_;refine hN 21 hH ?_;refine hT 22 hH ?_;refine wpAnyH_done (by kernel_rfl) ?_ _;clear hH;go_wp2_with fail
       go_meet;exact⟨e,rfl,HRN.out,HIE.out,hle,hbR⟩
   case rest =>
    obtain⟨e,rfl,hrn,hie,hle,hbR⟩:=hcut;have HRN:Hid (rn PC.c PC.M (l.drop i)=e-i):=hrn;have hek:e-i<=64:=(by have:=(rn_le (c:=PC.c) (M:=PC.M) (l.drop i)).2;rw[hrn]at this;exact this);have hbW:=HBo.out.trans (hbR.mono HBo.out.size);have hT:=HBo0.out.below hbR;have hBu:=HBu.out.trans (hbR.mono HBu.out.size);clear hrn hbR;obtain⟨b,off,ea,hb,d0⟩:=HH.out.at hbW i hin;subst ea;obtain⟨y,hy⟩:∃x,l.getD i 0=x:=⟨_,rfl⟩;rw[hy]at d0;have hkc:kdC y<=2:=by rcases zba y with h | h | h <;> omega
    have hks:=zex y wc;obtain⟨c0,hc0⟩:∃c,kdC y=c:=⟨_,rfl⟩;have HC:Hid (PC.c (l.getD i 0)=c0):=(by show kdC (l.getD i 0)=c0;rw[hy,hc0]);rw[hc0]at hks hkc;obtain⟨hd,hhd⟩:∃h:Nat,h=64*c0+(e-i)-1:=⟨_,rfl⟩;have HHD:Hid (hd=PC.M*c0+(e-i)-1):=hhd;have hd2:hd<256:=(by omega);have hE:64*(c0:Int)+(e:Int)-(i:Int)-1=(hd:Int):=(by omega);clear hy hc0 hhd;go_wp2_with fail
    refine hks.mono ?_;rintro e' w1 ⟨rfl,rfl⟩;have hT5:=hT.below (bl1 (.cells #[.int .u8 (hd:Int)] 5));have hN:=heap_alloc_new wc (.cells #[.int .u8 (hd:Int)] 5);have n0:=cell_of_row _ wc.heap.size 0 _ _ (0,0) hN;have hbs:u1.heap.size<=(wc.alloc (.cells #[.int .u8 (hd:Int)] 5)).heap.size:=(by have:=hBu.size;simp at this ⊢;omega);have hll:ys.length+1<=1000000:=(by omega);clear hN hks d0;go_wp2_with (at_builtin;refine zaj rfl _ _ rfl u1.heap.size _ ys rfl hT5 wc.heap.size hd rfl n0 hd2 hll hbs ?_)
    intro v' w9 hT9 hgrow;have hB9:Below u1.heap.size u1 w9:=(hBu.alloc hBu.size _).grown hgrow hbs (fun k hk=>(hT.lo hk).1);clear hgrow hT5 n0 hbs hll hT hBu hbW hE;have HYL:Hid (ys.length<=6000):=(by show _<=_;omega);clear hyl;go_wp2
    go_loopw [4,7] (fun v kk wr=>∃j:Nat,i<=j/\j<=e/\kk=.int .i64 (j:Int)/\Bo u1.heap.size wr v (ys++[hd]++((l.drop i).take (j-i)).flatMap (PC.en c0))/\Below u1.heap.size u1 wr) (fun _ kk _=>e-(intOf kk).toNat)
    case atStart=>exact⟨i,qE _,Nat.le_of_lt hie,rfl,by rw[Nat.sub_self,List.take_zero,List.flatMap_nil,List.append_nil];exact hT9,hB9⟩
    case round =>
     obtain⟨j,hj1,hj2,rfl,hT,hBu⟩:=hrel;by_cases hje:j<e;rotate_left
     . obtain rfl:j=e:=by omega
       have HS:Hid (_):=zjl (P:=PC) (by decide) hin HRN.out hie HC.out HHD.out HT.out;clear hT9 hB9;go_wp2;go_roundw
       case rel=>exact⟨j,_,hle,rfl,HS.out,hT,hBu⟩
       case measure=>simp[intOf];omega
     have hbW:=HB1.out.trans (hBu.mono HB1.out.size);obtain⟨b',off',ea,hb',d0⟩:=HH.out.at hbW j (by omega);cases ea;have hdm:=HD.out j (by omega);have hkx:kdC (l.getD j 0)=c0:=znb (P:=PC) HRN.out HC.out hj1 hje;obtain⟨x,hx⟩:∃x,l.getD j 0=x:=⟨_,rfl⟩;have HS:Hid (_):=zli (P:=PC) (c0:=c0) hj1 (show j<l.length by omega) hx;have hln:(ys++[hd]++((l.drop i).take (j-i)).flatMap (PC.en c0)).length<=7000:=by
      have h1:=HYL.out;have h2:(((l.drop i).take (j-i)).flatMap (PC.en c0)).length<=2*_:=zfa (z0c c0) _;rw[qL]at h2;rw[qA,qA,List.length_singleton];omega
     obtain⟨zs,hzs⟩:∃zs,ys++[hd]++((l.drop i).take (j-i)).flatMap (PC.en c0)=zs:=⟨_,rfl⟩;have HN:Hid (ys++[hd]++((l.drop i).take (j+1-i)).flatMap (PC.en c0)=zs++enC c0 x):=by
      show _=_;rw[HS.out,<-hzs];simp only[qI];rfl
     rw[hx]at hdm hkx d0;rw[hzs]at hT hln;clear HS hzs hx hT9 hB9 HD HYL HHD hd2 hbW;have hks:=zex x;rw[hkx]at hks;obtain⟨a4,c4,rfl,_⟩:=hT.slice;have g1:(j:Int)<(e:Int):=(by omega);rcases zba x with ⟨h1,h2⟩|⟨h0,h1,h2⟩|⟨h0,h1,h2⟩
     . have hc0:c0=2:=hkx.symm.trans h2
       rw[show enC c0 x=[] by rw[hc0];rfl,List.append_nil]at HN;rw[hc0]at hks;clear hc0;clear hkx h1 h2;go_wp2_with fail
       refine(hks _).mono ?_;rintro e' w1 ⟨rfl,rfl⟩;go_wp2_with fail
       refine(hks _).mono ?_;rintro e' w1 ⟨rfl,rfl⟩;clear hks;go_wp2;go_roundw
       case rel=>exact⟨j+1,by omega,by omega,by go_num,by rw[HN.out];exact hT,hBu⟩
       case measure=>simp[intOf];omega
     . have hc0:c0=1:=hkx.symm.trans h2
       rw[show enC c0 x=be2 x by rw[hc0];rfl]at HN;rw[hc0]at hks;clear hc0;have hx0:0<=x+65536:=(by omega);obtain⟨z,hz⟩:∃z,z=(x+65536)%65536:=⟨_,rfl⟩;have hm:(x+65536).tmod 65536=z:=(by rw[zeg hx0,hz]);have hbg:=fun U=>zbf z U (by omega) (by omega);rw[show be2 z=be2 x by rw[hz,zib]]at hbg;clear hz;clear hkx h1 h2 h0;go_wp2_with fail
       refine(hks _).mono ?_;rintro e' w1 ⟨rfl,rfl⟩;go_wp2_with fail
       refine(hks _).mono ?_;rintro e' w1 ⟨rfl,rfl⟩;clear hks;go_wp2_with fail
       refine(hbg _).mono ?_;rintro e' w2 ⟨ab,cb,rfl,hrb,hb2⟩;clear hbg;have hT5:=hT.below hb2;have hB2:=hBu.trans (hb2.mono hBu.size);have hbs:=hB2.size;have hll:zs.length+(be2 x).length<=1000000:=(by rw[show(be2 x).length=2 from rfl];omega);go_wp2_with (at_builtin;refine za2 rfl _ _ rfl u1.heap.size _ zs rfl hT5 _ _ _ (be2 x) rfl rfl hrb hll hbs ?_)
       intro v' w9 hT9 hgrow;have hB9:Below u1.heap.size u1 w9:=hB2.grown hgrow hbs (fun k hk=>(hT5.lo hk).1);clear hgrow hT5 hbs hll hrb hB2 hb2;go_wp2;go_roundw
       case rel=>exact⟨j+1,by omega,by omega,by go_num,by rw[HN.out];exact hT9,hB9⟩
       case measure=>simp[intOf];omega
     . have hc0:c0=0:=hkx.symm.trans h2
       obtain⟨z,hz⟩:∃z:Nat,z=(x%256).toNat:=⟨_,rfl⟩;rw[show enC c0 x=[z] by rw[hz,hc0];rfl]at HN;rw[hc0]at hks;clear hc0;have hx0:0<=x+256:=(by omega);have hm:(x+256).tmod 256=(z:Int):=(by rw[zeg hx0];omega);have hz2:z<256:=(by omega);clear hkx h1 h2 h0 hz;have hT5:=hT.below (bl1 (.cells #[.int .u8 (z:Int)] 5));have hN:=heap_alloc_new wr (.cells #[.int .u8 (z:Int)] 5);have n0:=cell_of_row _ wr.heap.size 0 _ _ (0,0) hN;have hbs:u1.heap.size<=(wr.alloc (.cells #[.int .u8 (z:Int)] 5)).heap.size:=(by have:=hBu.size;simp at this ⊢;omega);have hll:zs.length+1<=1000000:=(by omega);clear hN;go_wp2_with fail
       refine(hks _).mono ?_;rintro e' w1 ⟨rfl,rfl⟩;go_wp2_with (at_builtin;refine zaj rfl _ _ rfl u1.heap.size _ zs rfl hT5 wr.heap.size z rfl n0 hz2 hll hbs ?_)
       intro v' w9 hT9 hgrow;have hB9:Below u1.heap.size u1 w9:=(hBu.alloc hBu.size _).grown hgrow hbs (fun k hk=>(hT.lo hk).1);clear hgrow hT5 n0 hbs hll;go_wp2_with fail
       refine(hks _).mono ?_;rintro e' w1 ⟨rfl,rfl⟩;clear hks;go_wp2;go_roundw
       case rel=>exact⟨j+1,by omega,by omega,by go_num,by rw[HN.out];exact hT9,hB9⟩
       case measure=>simp[intOf];omega
theorem zh8(a:OA)(cap:Nat)(l:LI)(w:World)(h:Ri w a cap l) :
 Calls Tryz.prog 236 #[.slice a l.length cap] w fun e w'=>e=.returned (.bool (ptB l))/\w=w':=by
 have k2:=h.lenB;by_cases hl:l.length<=2000;rotate_left
 . have HE:Hid (ptB l=false):=by show _=_;unfold ptB;rw[qB hl,Bool.and_false]
   have g1:(2000:Int)<(l.length:Int):=(by omega);clear h hl;go_enter func236,ntmps236;go_wp2;go_ret;exact⟨zaa HE.out.symm,rfl⟩
 have HH:Hid (Ri w a cap l):=h;have g0:¬(2000:Int)<(l.length:Int):=by omega
 clear h;go_enter func236,ntmps236;go_wp2
 go_loopw [3,11] (fun ah i wr=>∃(k:Nat) (z:Int),k<=l.length/\i=.int .i64 k/\ah=.int .i64 z/\z=(if k=0 then -1 else l.getD (k-1) 0)/\(∀i,i<k->(if i=0 then -1 else l.getD (i-1) 0)<l.getD i 0/\l.getD i 0<=65535)/\w=wr) (fun _ i _=>l.length-(intOf i).toNat)
 case atStart=>exact⟨0,-1,qD _,rfl,rfl,rfl,(fun j hj=>by omega),rfl⟩
 case round =>
  obtain⟨k,z,hk,rfl,rfl,hz,hok,rfl⟩:=hrel;have HZ:Hid (z=(if k=0 then -1 else l.getD (k-1) 0)):=hz;have HOK:Hid (∀i,i<k->(if i=0 then -1 else l.getD (i-1) 0)<l.getD i 0/\l.getD i 0<=65535):=hok;clear hz hok;by_cases hkn:k<l.length;rotate_left
  . obtain rfl:k=l.length:=by omega
    have HE:Hid (ptB l=true):=(by show _=_;unfold ptB;rw[(zjk l (-1)).2 HOK.out,qC hl,Bool.and_true]);have g1:¬(l.length:Int)<(l.length:Int):=(by omega);clear HOK HZ;go_wp2;go_ret;exact⟨zaa HE.out.symm,rfl⟩
  obtain⟨b,off,ea,hb,d0⟩:=HH.out.at (Below.refl _ _) k hkn;obtain⟨x,hx⟩:∃x,l.getD k 0=x:=⟨_,rfl⟩;have HNO:Hid (x<=z\/65535<x->ptB l=false):=fun h=>by
   rw[Bool.eq_false_iff];intro e;unfold ptB at e;rw[Bool.and_eq_true]at e;have:=(zjk l (-1)).1 e.1 k hkn;rw[<-HZ.out,hx]at this;omega
  have HX:Hid (l.getD k 0=x):=hx;rw[hx]at d0;subst ea;clear hx;have i1:(0:Int)<=(k:Int):=by omega
  have i2:(k:Int)<(l.length:Int):=by omega
  by_cases h1:x<=z
  . have g1:decide (x<=z)=true:=qC h1
    have HE:Hid (ptB l=false):=HNO.out (.inl h1);clear HOK HZ HNO HX h1;go_wp2;go_ret;exact⟨zaa HE.out.symm,rfl⟩
  have g1:decide (x<=z)=false:=qB h1;by_cases h2:65535<x
  . have g2:decide (65535<x)=true:=qC h2
    have HE:Hid (ptB l=false):=HNO.out (.inr h2);clear HOK HZ HNO HX h1 h2;go_wp2;go_ret;exact⟨zaa HE.out.symm,rfl⟩
  have g2:decide (65535<x)=false:=qB h2;have zb5:Hid (∀i,i<k+1->(if i=0 then -1 else l.getD (i-1) 0)<l.getD i 0/\l.getD i 0<=65535):=fun i hi=>by
   rcases Nat.lt_or_ge i k with h3|h3
   . exact HOK.out i h3
   . rw[show i=k by omega,HX.out,<-HZ.out];omega
  have HZ2:Hid (x=(if k+1=0 then -1 else l.getD (k+1-1) 0)):=by show _=_;rw[if_neg (by omega),Nat.add_sub_cancel,HX.out]
  clear HOK HZ HNO HX h1 h2;go_wp2;go_roundw
  case rel=>exact⟨k+1,x,by omega,by go_num,rfl,HZ2.out,zb5.out,trivial⟩
  case measure=>simp[intOf];omega
theorem z00{x:Int}(h1:-32768<=x)(h2:x<=32767):IntKind.i16.wrap x=x:=by
 simp only[IntKind.wrap,IntKind.bits,IntKind.signed];simp;omega
theorem zxv{x:Int}(h:x < -32768\/32767<x):IntKind.i16.wrap x≠x/\-32768<=IntKind.i16.wrap x/\IntKind.i16.wrap x<=32767:=by
 simp only[IntKind.wrap,IntKind.bits,IntKind.signed];simp;omega
theorem zmq(a:OA)(cap:Nat)(l:LI)(w:World)(h:Ri w a cap l) :
 Calls Tryz.prog 243 #[.slice a l.length cap] w fun e w'=>e=.returned (.bool (chB l))/\w=w':=by
 have k2:=h.lenB;by_cases hl:l.length<=2000;rotate_left
 . have HE:Hid (chB l=false):=by show _=_;unfold chB;rw[qB hl,Bool.and_false]
   have g1:(2000:Int)<(l.length:Int):=(by omega);clear h hl;go_enter func243,ntmps243;go_wp2;go_ret;exact⟨zaa HE.out.symm,rfl⟩
 have HH:Hid (Ri w a cap l):=h;have g0:¬(2000:Int)<(l.length:Int):=by omega
 clear h;go_enter func243,ntmps243;go_wp2
 go_loopw [10] (fun i wr=>∃k:Nat,k<=l.length/\i=.int .i64 k/\(∀i,i<k->-32768<=l.getD i 0/\l.getD i 0<=32767)/\w=wr) (fun i _=>l.length-(intOf i).toNat)
 case atStart=>exact⟨0,qD _,rfl,(fun j hj=>by omega),rfl⟩
 case round =>
  obtain⟨k,hk,rfl,hok,rfl⟩:=hrel;have HOK:Hid (∀i,i<k->-32768<=l.getD i 0/\l.getD i 0<=32767):=hok;clear hok;by_cases hkn:k<l.length;rotate_left
  . obtain rfl:k=l.length:=by omega
    have HE:Hid (chB l=true):=(by show _=_;rw[ztl HOK.out,qC hl]);have g1:¬(l.length:Int)<(l.length:Int):=(by omega);clear HOK;go_wp2;go_ret;exact⟨zaa HE.out.symm,rfl⟩
  obtain⟨b,off,ea,hb,d0⟩:=HH.out.at (Below.refl _ _) k hkn;have hxi:=HH.out.i64 hkn;obtain⟨x,hx⟩:∃x,l.getD k 0=x:=⟨_,rfl⟩;have HX:Hid (l.getD k 0=x):=hx;rw[hx]at d0 hxi;subst ea;clear hx;have i1:(0:Int)<=(k:Int):=by omega
  have i2:(k:Int)<(l.length:Int):=by omega
  by_cases h1:-32768<=x/\x<=32767
  . have e1:=z00 h1.1 h1.2
    have zb5:Hid (∀i,i<k+1->-32768<=l.getD i 0/\l.getD i 0<=32767):=fun i hi=>by
     rcases Nat.lt_or_ge i k with h3|h3
     . exact HOK.out i h3
     . rw[show i=k by omega,HX.out];exact h1
    have n1:=h1.1;have n2:=h1.2;clear HOK HX h1;go_wp2;go_roundw
    case rel=>exact⟨k+1,by omega,by go_num,zb5.out,trivial⟩
    case measure=>simp[intOf];omega
  . obtain⟨e0,e2,e3⟩:=zxv (x:=x) (by omega)
    have HE:Hid (chB l=false):=ztm hkn (by rw[HX.out];omega);obtain⟨y,hy⟩:∃y,IntKind.i16.wrap x=y:=⟨_,rfl⟩;rw[hy]at e0 e2 e3;have g1:(y != x)=true:=(by simp[e0]);clear HOK HX h1 e0;go_wp2;go_ret;exact⟨zaa HE.out.symm,rfl⟩
theorem zof(z:Int)(w:World):Calls Tryz.prog 240 #[.int .i64 z] w fun e w'=>e=.returned (.int .i64 (128*((kdP z:Nat):Int)))/\w=w':=by
 rcases za9 z with ⟨h1,h2⟩|⟨h1,h2⟩
 . have HE:Hid (128*((kdP z:Nat):Int)=128):=by show _=_;rw[h2];rfl
   clear h2;go_enter func240,ntmps240;go_wp2;go_ret;exact⟨by rw[HE.out];rfl,rfl⟩
 . have HE:Hid (128*((kdP z:Nat):Int)=0):=by show _=_;rw[h2];rfl
   have g1:¬255<z:=(by omega);clear h2;go_enter func240,ntmps240;go_wp2;go_ret;exact⟨by rw[HE.out];rfl,rfl⟩
theorem zog(z:Int)(w:World):Calls Tryz.prog 244 #[.int .i64 z] w fun e w'=>e=.returned (.int .i64 (64*((kdC z:Nat):Int)))/\w=w':=by
 rcases zba z with ⟨h1,h2⟩|⟨h0,h1,h2⟩|⟨h0,h1,h2⟩
 . have HE:Hid (64*((kdC z:Nat):Int)=128):=by show _=_;rw[h2];rfl
   have g1:(z==0)=true:=(by simp[h1]);clear h2 h1;go_enter func244,ntmps244;go_wp2;go_ret;exact⟨by rw[HE.out];rfl,rfl⟩
 . have HE:Hid (64*((kdC z:Nat):Int)=64):=by show _=_;rw[h2];rfl
   have g1:(z==0)=false:=(by simp[h0]);clear h2;by_cases h3:z < -128
   . have g2:decide (z < -128)=true:=qC h3
     clear h0 h1;go_enter func244,ntmps244;go_wp2;go_ret;exact⟨by rw[HE.out];rfl,rfl⟩
   . have g2:decide (z < -128)=false:=qB h3
     have g3:decide (127<z)=true:=qC (by omega);clear h0 h1;go_enter func244,ntmps244;go_wp2;go_ret;exact⟨by rw[HE.out];rfl,rfl⟩
 . have HE:Hid (64*((kdC z:Nat):Int)=0):=by show _=_;rw[h2];rfl
   have g1:(z==0)=false:=(by simp[h0]);have g2:decide (z < -128)=false:=qB (by omega);have g3:decide (127<z)=false:=qB (by omega);clear h0 h2;go_enter func244,ntmps244;go_wp2;go_ret;exact⟨by rw[HE.out];rfl,rfl⟩
theorem w8_hi{v:Nat}(h:128<=v)(h2:v<256):IntKind.i8.wrap (v:Int)=(v:Int)-256:=by
 simp only[IntKind.wrap,IntKind.bits,IntKind.signed];simp;omega
theorem w8_lo{v:Nat}(h:v<128):IntKind.i8.wrap (v:Int)=(v:Int):=by
 simp only[IntKind.wrap,IntKind.bits,IntKind.signed];simp;omega
theorem zmi(a:OA)(cap:Nat)(xs:LN)(p:Int)(w:World)(h:Rb w a cap xs)(hp:I64 p) :
 Calls Tryz.prog 281 #[.slice a xs.length cap,.int .i64 p] w fun e w'=>e=.returned (.tuple #[.int .i64 (sx8 (nmV xs p 1)),.bool (inB xs.length p 1)])/\w=w':=by
 have hlt:=zam h.lim p 1;have hu:=zg2 a cap xs p w h hp;obtain⟨v,hv⟩:∃v,nmV xs p 1=v:=⟨_,rfl⟩;rw[hv]at hu hlt ⊢;simp only[Nat.pow_one]at hlt;clear hv h;by_cases zpk:128<=v
 . have HS:Hid (sx8 v=(v:Int)-256):=if_pos zpk
   have e1:=w8_hi zpk hlt;obtain⟨z,hz⟩:∃z:Int,(v:Int)=z:=⟨_,rfl⟩;have z1:128<=z:=(by omega);have z2:z<256:=(by omega);rw[hz]at hu e1;have HZ:Hid ((v:Int)=z):=hz;clear hz zpk hlt;go_enter func281,ntmps281;go_wp2_with fail
   refine hu.mono ?_;rintro e u ⟨rfl,rfl⟩;go_wp2;go_ret2;exact⟨zbk (by rw[HS.out,HZ.out];rfl) rfl,rfl⟩
 . have HS:Hid (sx8 v=(v:Int)):=if_neg zpk
   have e1:=w8_lo (v:=v) (by omega);obtain⟨z,hz⟩:∃z:Int,(v:Int)=z:=⟨_,rfl⟩;have z1:0<=z:=(by omega);have z2:z<128:=(by omega);rw[hz]at hu e1;have HZ:Hid ((v:Int)=z):=hz;clear hz zpk hlt;go_enter func281,ntmps281;go_wp2_with fail
   refine hu.mono ?_;rintro e u ⟨rfl,rfl⟩;go_wp2;go_ret2;exact⟨zbk (by rw[HS.out,HZ.out];rfl) rfl,rfl⟩
theorem zmn(v:Value)(p:Int)(w:World) :
 Calls Tryz.prog 282 #[v,.int .i64 p] w fun e w'=>e=.returned (.tuple #[.int .i64 0,.bool true])/\w=w':=by
 go_enter func282,ntmps282;go_wp2;go_ret2;exact⟨rfl,rfl⟩
theorem zhq(B:Nat)(G:Nat->Prop)(ys:LN)(a:OA)(cap:Nat)(l:LI)(w:World)(h:Pc w B G ⟨ys,[],false⟩)(hr:Ri w a cap l)(hG:∀b o,a=some ⟨b,o,none⟩->G b)(hx:∀x∈l,-128<=x/\x<=255)(hl:ys.length+2*l.length+4<=1048576) :
 Calls Tryz.prog 242 #[.func (.func 80) #[pg B] #[],.slice a l.length cap] w fun e w'=>e=.returned (.tuple #[])/\Pc w' B G ⟨ys++l.flatMap be1,[],false⟩/\Keep G w w':=by
 have k2:=hr.lenB;have HR:Hid (Ri w a cap l):=hr;have HX:Hid (∀x∈l,-128<=x/\x<=255):=hx;have HG:Hid (∀b o,a=some ⟨b,o,none⟩->G b):=hG;clear hr hx hG;go_enter func242,ntmps242;go_wp2
 go_loopw [8] (fun i wr=>∃k:Nat,k<=l.length/\i=.int .i64 k/\Pc wr B G ⟨ys++(l.take k).flatMap be1,[],false⟩/\Keep G w wr) (fun i _=>l.length-(intOf i).toNat)
 case atStart=>exact⟨0,qD _,rfl,by simpa using h,Keep.refl _ _⟩
 case round =>
  obtain⟨k,hk,rfl,hP,hK⟩:=hrel;by_cases hkn:k<l.length;rotate_left
  . obtain rfl:k=l.length:=by omega
    rw[List.take_length]at hP;have g1:¬(l.length:Int)<(l.length:Int):=(by omega);go_wp2
    go_end0
    exact⟨rfl,hP,hK⟩
  obtain⟨b,off,ea,hb,d0⟩:=(HR.out.kept hK HG.out).get k hkn;have hx:=HX.out _ (zc8 hkn);obtain⟨x,hx0⟩:∃x,l.getD k 0=x:=⟨_,rfl⟩;have HS:Hid (_):=ze8 (f:=be1) hkn hx0;have hle:((l.take k).flatMap be1).length<=2*l.length:=zet (fun x=>by simp[be1]) l k;rw[hx0]at d0 hx;subst ea;clear hx0;obtain⟨zs,hzs⟩:∃zs,(l.take k).flatMap be1=zs:=⟨_,rfl⟩;rw[hzs]at HS hle hP;have HT:Hid (ys++zs++be1 x=ys++(l.take (k+1)).flatMap be1):=by show _=_;rw[HS.out,qI]
  clear hzs HS;have hp:=zat B G _ x wr hP ⟨by omega,by omega⟩ (by show(ys++zs).length+4<=_;rw[qA];omega);rw[put8A hx.1 hx.2]at hp;have i1:(0:Int)<=(k:Int):=by omega
  have i2:(k:Int)<(l.length:Int):=by omega
  clear hP hx;go_wp2_with fail
  refine hp.mono ?_;rintro e u1 ⟨rfl,hP,hK1⟩;rw[HT.out]at hP;replace hK:=hK.trans hK1;clear hp hK1;go_wp2;go_roundw
  case rel=>exact⟨k+1,by omega,by go_num,hP,hK⟩
  case measure=>simp[intOf];omega
theorem zfv(B:Nat)(G:Nat->Prop)(ys:LN)(a:OA)(cap:Nat)(l:LI)(w:World)(h:Pc w B G ⟨ys,[],false⟩)(hr:Ri w a cap l)(hG:∀b o,a=some ⟨b,o,none⟩->G b)(hx:∀x∈l,-32768<=x/\x<=65535)(hl:ys.length+2*l.length+4<=1048576) :
 Calls Tryz.prog 242 #[.func (.func 41) #[pg B] #[],.slice a l.length cap] w fun e w'=>e=.returned (.tuple #[])/\Pc w' B G ⟨ys++l.flatMap be2,[],false⟩/\Keep G w w':=by
 have k2:=hr.lenB;have HR:Hid (Ri w a cap l):=hr;have HX:Hid (∀x∈l,-32768<=x/\x<=65535):=hx;have HG:Hid (∀b o,a=some ⟨b,o,none⟩->G b):=hG;clear hr hx hG;go_enter func242,ntmps242;go_wp2
 go_loopw [8] (fun i wr=>∃k:Nat,k<=l.length/\i=.int .i64 k/\Pc wr B G ⟨ys++(l.take k).flatMap be2,[],false⟩/\Keep G w wr) (fun i _=>l.length-(intOf i).toNat)
 case atStart=>exact⟨0,qD _,rfl,by simpa using h,Keep.refl _ _⟩
 case round =>
  obtain⟨k,hk,rfl,hP,hK⟩:=hrel;by_cases hkn:k<l.length;rotate_left
  . obtain rfl:k=l.length:=by omega
    rw[List.take_length]at hP;have g1:¬(l.length:Int)<(l.length:Int):=(by omega);go_wp2
    go_end0
    exact⟨rfl,hP,hK⟩
  obtain⟨b,off,ea,hb,d0⟩:=(HR.out.kept hK HG.out).get k hkn;have hx:=HX.out _ (zc8 hkn);obtain⟨x,hx0⟩:∃x,l.getD k 0=x:=⟨_,rfl⟩;have HS:Hid (_):=ze8 (f:=be2) hkn hx0;have hle:((l.take k).flatMap be2).length<=2*l.length:=zet (fun x=>by simp[be2]) l k;rw[hx0]at d0 hx;subst ea;clear hx0;obtain⟨zs,hzs⟩:∃zs,(l.take k).flatMap be2=zs:=⟨_,rfl⟩;rw[hzs]at HS hle hP;have HT:Hid (ys++zs++be2 x=ys++(l.take (k+1)).flatMap be2):=by show _=_;rw[HS.out,qI]
  clear hzs HS;have hp:=zap B G _ x wr hP ⟨by omega,by omega⟩ (by show(ys++zs).length+4<=_;rw[qA];omega);rw[zb0 hx.1 hx.2]at hp;have i1:(0:Int)<=(k:Int):=by omega
  have i2:(k:Int)<(l.length:Int):=by omega
  clear hP hx;go_wp2_with fail
  refine hp.mono ?_;rintro e u1 ⟨rfl,hP,hK1⟩;rw[HT.out]at hP;replace hK:=hK.trans hK1;clear hp hK1;go_wp2;go_roundw
  case rel=>exact⟨k+1,by omega,by go_num,hP,hK⟩
  case measure=>simp[intOf];omega
theorem z3l{n:Nat}(h:n<=2000):cnE n=if n<128 then be1 (n:Int)else be2 (32768+(n:Int)):=by
 unfold cnE;split
 . rw[zfm (by omega)]
 . unfold be2
   rw[show((32768+(n:Int))/256%256).toNat=128+n/256 by omega,show((32768+(n:Int))%256).toNat=n%256 by omega]
theorem zky(B:Nat)(G:Nat->Prop)(n:Nat)(w:World)(h:Pc w B G ⟨[],[],false⟩)(hn:n<=2000) :
 Calls Tryz.prog 237 #[pg B,.int .i64 (n:Int)] w fun e w'=>e=.returned (.tuple #[])/\Pc w' B G ⟨cnE n,[],false⟩/\Keep G w w':=by
 have HC:Hid (_):=z3l hn;by_cases h1:n<128
 . rw[if_pos h1]at HC
   have hp:=zat B G _ (n:Int) w h ⟨by omega,by omega⟩ (by decide);rw[put8A (by omega) (by omega),List.nil_append,<-HC.out]at hp;have g1:(n:Int)<128:=(by omega);clear h HC h1;go_enter func237,ntmps237;go_wp2_with fail
   refine hp.mono ?_;rintro e u1 ⟨rfl,hP,hK1⟩;go_wp2
   (try simp only[Exit.inBlock,Exit.then]);refine bodyPost_ret (results_none rfl _ _ _) rfl ?_
   exact⟨rfl,hP,hK1⟩
 . rw[if_neg h1]at HC
   have hp:=zap B G _ (32768+(n:Int)) w h ⟨by omega,by omega⟩ (by decide);rw[zb0 (by omega) (by omega),List.nil_append,<-HC.out]at hp;have g1:¬(n:Int)<128:=(by omega);clear h HC h1;go_enter func237,ntmps237;go_wp2_with fail
   refine hp.mono ?_;rintro e u1 ⟨rfl,hP,hK1⟩;go_wp2
   go_end0
   exact⟨rfl,hP,hK1⟩
theorem zvd(B c:Nat)(G:Nat->Prop)(ys:LN)(a:OA)(cap:Nat)(l:LI)(c0:Nat)(w:World)(h:Pc w B G ⟨ys,[],false⟩)(hr:Ri w a cap l)(hG:∀b o,a=some ⟨b,o,none⟩->G b)(hc:w.cell? ⟨c,0,none⟩=some (pg B))(hGc:G c)
    (hx:(c0=0/\∀x∈l,-128<=x/\x<=255)\/(c0=1/\∀x∈l,-32768<=x/\x<=65535)) (h1:1<=l.length) (hM:l.length<=128) (hl:ys.length+600<=1048576) :
    Calls Tryz.prog 241 #[.int .i64 (128*(c0:Int)),.slice a l.length cap,pg c] w fun e w'=>e=.returned (.tuple #[])/\Pc w' B G ⟨ys++[128*c0+l.length-1]++l.flatMap (enP c0),[],false⟩/\Keep G w w':=by
 rcases hx with ⟨rfl,hx⟩|⟨rfl,hx⟩
 . obtain⟨kk,hkk⟩:∃kk:Int,128*((0:Nat):Int)=kk:=⟨_,rfl⟩
   rw[hkk];have hkk:kk=0:=(by rw[<-hkk];rfl);obtain⟨m,hm⟩:∃m:Nat,128*0+l.length-1=m:=⟨_,rfl⟩;have hmi:kk+(l.length:Int)-1=(m:Int):=(by omega);rw[hm];subst hkk;have hb1:=zfm (m:=m) (by omega);have hp:=zat B G _ (m:Int) w h ⟨by omega,by omega⟩ (by show ys.length+4<=_;omega);rw[put8A (by omega) (by omega),hb1]at hp;have HM:Hid (0+(l.length:Int)-1=(m:Int)):=hmi;have hw1:(l.length:Int)-1=(m:Int):=(by omega);clear h hm hb1 hmi;go_enter func241,ntmps241;go_wp2_with fail
   refine hp.mono ?_;rintro e u1 ⟨rfl,hP,hK1⟩;replace hr:=hr.kept hK1 hG;replace hc:=(hK1.cell (p:=⟨c,0,none⟩) hGc).trans hc;clear hp;have hq:=zhq B G (ys++[m]) a cap l u1 hP hr hG hx (by rw[qA,List.length_singleton];omega);go_wp2_with fail
   refine hq.mono ?_;rintro e u2 ⟨rfl,hP2,hK2⟩;go_wp2
   go_end0
   exact⟨rfl,hP2,hK1.trans hK2⟩
 . obtain⟨kk,hkk⟩:∃kk:Int,128*((1:Nat):Int)=kk:=⟨_,rfl⟩
   rw[hkk];have hkk:kk=128:=(by rw[<-hkk];rfl);obtain⟨m,hm⟩:∃m:Nat,128*1+l.length-1=m:=⟨_,rfl⟩;have hmi:kk+(l.length:Int)-1=(m:Int):=(by omega);rw[hm];subst hkk;have hb1:=zfm (m:=m) (by omega);have hp:=zat B G _ (m:Int) w h ⟨by omega,by omega⟩ (by show ys.length+4<=_;omega);rw[put8A (by omega) (by omega),hb1]at hp;have HM:Hid (128+(l.length:Int)-1=(m:Int)):=hmi;have hw1:(128:Int)+(l.length:Int)-1=(m:Int):=hmi;clear h hm hb1 hmi;go_enter func241,ntmps241;go_wp2_with fail
   refine hp.mono ?_;rintro e u1 ⟨rfl,hP,hK1⟩;replace hr:=hr.kept hK1 hG;replace hc:=(hK1.cell (p:=⟨c,0,none⟩) hGc).trans hc;clear hp;have hq:=zfv B G (ys++[m]) a cap l u1 hP hr hG hx (by rw[qA,List.length_singleton];omega);go_wp2_with fail
   refine hq.mono ?_;rintro e u2 ⟨rfl,hP2,hK2⟩;go_wp2
   go_end0
   exact⟨rfl,hP2,hK1.trans hK2⟩
theorem zvf(B c:Nat)(G:Nat->Prop)(ys:LN)(a:OA)(cap:Nat)(l:LI)(c0:Nat)(w:World)(h:Pc w B G ⟨ys,[],false⟩)(hr:Ri w a cap l)(hG:∀b o,a=some ⟨b,o,none⟩->G b)(hc:w.cell? ⟨c,0,none⟩=some (pg B))(hGc:G c)
    (hx:(c0=0/\∀x∈l,-128<=x/\x<=255)\/(c0=1/\∀x∈l,-32768<=x/\x<=65535)\/c0=2) (h1:1<=l.length) (hM:l.length<=64) (hl:ys.length+600<=1048576) :
    Calls Tryz.prog 245 #[.int .i64 (64*(c0:Int)),.slice a l.length cap,pg c] w fun e w'=>e=.returned (.tuple #[])/\Pc w' B G ⟨ys++[64*c0+l.length-1]++l.flatMap (enC c0),[],false⟩/\Keep G w w':=by
 rcases hx with ⟨rfl,hx⟩|⟨rfl,hx⟩|rfl
 . obtain⟨kk,hkk⟩:∃kk:Int,64*((0:Nat):Int)=kk:=⟨_,rfl⟩
   rw[hkk];have hkk:kk=0:=(by rw[<-hkk];rfl);obtain⟨m,hm⟩:∃m:Nat,64*0+l.length-1=m:=⟨_,rfl⟩;have hmi:kk+(l.length:Int)-1=(m:Int):=(by omega);rw[hm];subst hkk;have hb1:=zfm (m:=m) (by omega);have hp:=zat B G _ (m:Int) w h ⟨by omega,by omega⟩ (by show ys.length+4<=_;omega);rw[put8A (by omega) (by omega),hb1]at hp;have HM:Hid (0+(l.length:Int)-1=(m:Int)):=hmi;have hw1:(l.length:Int)-1=(m:Int):=(by omega);clear h hm hb1 hmi;go_enter func245,ntmps245;go_wp2_with fail
   refine hp.mono ?_;rintro e u1 ⟨rfl,hP,hK1⟩;replace hr:=hr.kept hK1 hG;replace hc:=(hK1.cell (p:=⟨c,0,none⟩) hGc).trans hc;clear hp;have hq:=zhq B G (ys++[m]) a cap l u1 hP hr hG hx (by rw[qA,List.length_singleton];omega);go_wp2_with fail
   refine hq.mono ?_;rintro e u2 ⟨rfl,hP2,hK2⟩;go_wp2
   go_end0
   exact⟨rfl,hP2,hK1.trans hK2⟩
 . obtain⟨kk,hkk⟩:∃kk:Int,64*((1:Nat):Int)=kk:=⟨_,rfl⟩
   rw[hkk];have hkk:kk=64:=(by rw[<-hkk];rfl);obtain⟨m,hm⟩:∃m:Nat,64*1+l.length-1=m:=⟨_,rfl⟩;have hmi:kk+(l.length:Int)-1=(m:Int):=(by omega);rw[hm];subst hkk;have hb1:=zfm (m:=m) (by omega);have hp:=zat B G _ (m:Int) w h ⟨by omega,by omega⟩ (by show ys.length+4<=_;omega);rw[put8A (by omega) (by omega),hb1]at hp;have HM:Hid (64+(l.length:Int)-1=(m:Int)):=hmi;have hw1:(64:Int)+(l.length:Int)-1=(m:Int):=hmi;clear h hm hb1 hmi;go_enter func245,ntmps245;go_wp2_with fail
   refine hp.mono ?_;rintro e u1 ⟨rfl,hP,hK1⟩;replace hr:=hr.kept hK1 hG;replace hc:=(hK1.cell (p:=⟨c,0,none⟩) hGc).trans hc;clear hp;have hq:=zfv B G (ys++[m]) a cap l u1 hP hr hG hx (by rw[qA,List.length_singleton];omega);go_wp2_with fail
   refine hq.mono ?_;rintro e u2 ⟨rfl,hP2,hK2⟩;go_wp2
   go_end0
   exact⟨rfl,hP2,hK1.trans hK2⟩
 . obtain⟨kk,hkk⟩:∃kk:Int,64*((2:Nat):Int)=kk:=⟨_,rfl⟩
   rw[hkk];have hkk:kk=128:=(by rw[<-hkk];rfl);obtain⟨m,hm⟩:∃m:Nat,64*2+l.length-1=m:=⟨_,rfl⟩;have hmi:kk+(l.length:Int)-1=(m:Int):=(by omega);rw[hm];subst hkk;have hb1:=zfm (m:=m) (by omega);have hp:=zat B G _ (m:Int) w h ⟨by omega,by omega⟩ (by show ys.length+4<=_;omega);rw[put8A (by omega) (by omega),hb1]at hp;have HM:Hid (128+(l.length:Int)-1=(m:Int)):=hmi;have hw1:(128:Int)+(l.length:Int)-1=(m:Int):=hmi;clear h hm hb1 hmi;go_enter func245,ntmps245;go_wp2_with fail
   refine hp.mono ?_;rintro e u1 ⟨rfl,hP,hK1⟩;replace hr:=hr.kept hK1 hG;replace hc:=(hK1.cell (p:=⟨c,0,none⟩) hGc).trans hc;clear hp;go_wp2
   go_end0
   exact⟨rfl,by rw[show l.flatMap (enC 2)=[]from List.flatMap_eq_nil_iff.2 (fun x _=>rfl),List.append_nil];exact hP,hK1⟩
