import Derived.Test.YtkmcodofnckdmaaGreatZK13
import Derived.WalkSpells
import Derived.Deep.OwnRows
import Derived.Lib.AppendStr
set_option maxHeartbeats 2000000
set_option maxRecDepth 100000
set_option linter.unusedSimpArgs false
set_option linter.unusedVariables false
namespace Go.Proofs.YtkmcodofnckdmaaGreat
open Tryz
def tuE(t:Tu):LN:=tesE t.rg++(ppB t.pts++(pcB t.dx++pcB t.dy))
def tusE:List Tu->LN
 | []=>[]
 | t::l=>tuE t++tusE l
theorem zb7(l m:List Tu):tusE (l++m)=tusE l++tusE m:=by
 induction l with
 | nil=>rfl
 | cons t l ih=>rw[List.cons_append,tusE,tusE,ih,qI]
theorem zm2(t:Tu):tusE [t]=tuE t:=by rw[tusE,tusE,List.append_nil]
def tuBt(l:List Tu):LN:=be2 ((l.length:Nat):Int)++tusE l
def wrTE(o:Ol)(l:List Tu)(ax:Int):Int:=if foT o l ax then 0 else 1
def wrTB(o:Ol)(l:List Tu)(ax:Int):LN:=if foT o l ax then tuBt l else []
theorem zyn{pts:LI}{n:Nat}(h:risB pts n=true)(hn:n<=2000):ptB pts=true:=by
 have hl:=zlw h;rw[zrt (fun i hi=>?_),qM]
 . omega
 . have h1:=zeh i (fun j hj=>zd1.1 h j (by omega))
   refine⟨h1.1,by omega,fun h0=>?_⟩;have h2:=zd1.1 h i hi;unfold risP lastI at h2;rw[if_neg (by omega)]at h2;exact h2.1
theorem zm3{t:Tu}{n:Nat}{ax:Int}(h:tuB t n ax=true)(hn:n<=2000):ptB t.pts=true/\t.pts.length<=n/\t.al=decide (t.pts.length=0):=by
 obtain⟨_,h2,_⟩:=zcz.1 h;cases ha:t.al with
 | true =>
  obtain⟨k1,_⟩:=(zjr ha).1 h2;rw[k1];exact⟨rfl,qD _,rfl⟩
 | false =>
  obtain⟨k0,k1,_⟩:=(ze2 ha).1 h2;exact⟨zyn k1 hn,zlw k1,(qB (by omega)).symm⟩
theorem zxg{l:LI}(h:l.all fdB=true)(hl:l.length<=2000):chB l=true:=zcp.2 ⟨fun z hz=>zbc.1 (List.all_eq_true.1 h z hz),hl⟩
def cnN(cnt:Nat)(ps:LI):Nat:=if ps.length=0 then cnt else ps.length
theorem zm4{t:Tu}{n:Nat}{ax:Int}(h:tuB t n ax=true)(hn:n<=2000):chB t.dx=true/\chB t.dy=true/\t.dx.length=cnN n t.pts/\t.dy.length=cnN n t.pts/\t.dx.length<=n/\t.dy.length<=n:=by
 obtain⟨_,h2,h3,h4⟩:=zcz.1 h;have hc:t.dx.length=cnN n t.pts/\t.dy.length=cnN n t.pts/\cnN n t.pts<=n:=by
  cases ha:t.al with
  | true =>
   obtain⟨k1,k2,k3⟩:=(zjr ha).1 h2;unfold cnN;rw[k1];exact⟨by rw[k2];rfl,by rw[k3];rfl,qE _⟩
  | false =>
   obtain⟨k0,k1,k2,k3⟩:=(ze2 ha).1 h2;have:=zlw k1;unfold cnN;rw[if_neg (by omega)];exact⟨k2,k3,this⟩
 obtain⟨c1,c2,c3⟩:=hc;exact⟨zxg h3 (by omega),zxg h4 (by omega),c1,c2,by omega,by omega⟩
theorem zhr{l:LI}(h:ptB l=true):(ppB l).length<=3*l.length+2:=by
 obtain⟨h1,h2⟩:=zb1 h;have:=zgk fitP (m:=3) (fun x _=>by show szP (kdP x)+1<=3;unfold szP;split <;> omega) _ (stps 0 l) rfl h1;have h3:(cnE l.length).length<=2:=by unfold cnE;split <;> simp
 rw[zbj]at this;rw[ppB,if_pos h,qA];omega
theorem znf{l:List Te}{ax:Int}(h:rgB l ax=true):(l.length:Int)=ax/\l.all tfB=true:=by
 unfold rgB at h;rw[Bool.and_eq_true,qM]at h;exact⟨h.2,h.1⟩
theorem z01{t:Tu}{n:Nat}{ax:Int}(h:tuB t n ax=true)(hn:n<=86)(hax:ax<=4):(tuE t).length<=800:=by
 obtain⟨p1,p2,_⟩:=zm3 h (by omega);obtain⟨c1,c2,_,_,c3,c4⟩:=zm4 h (by omega);have h1:=(znf (zcz.1 h).1).1;have h2:=zhr p1;have h3:=zci c1;have h4:=zci c2;unfold tuE;rw[qA,qA,qA,zcg];omega
theorem zqn{o:Ol}{ax:Int}(ho:foB o=true)(hax:ax<=4):∀ {l:List Tu},(∀t∈l,tuB t (cntO o) ax=true)->(tusE l).length<=800*l.length:=by
 intro l
 induction l with
 | nil=>intro _;exact qD _
 | cons t l ih =>
  intro h;have h1:=ih (fun x hx=>h x (by simp[hx]));have h2:=z01 (h t (by simp)) (zf3 ho) hax;rw[tusE,qA,List.length_cons];omega
theorem zfc{o:Ol}{l:List Tu}{ax:Int}(h:foT o l ax=true):(tuBt l).length<=33000:=by
 obtain⟨h1,h2,h3,h4⟩:=zbb.1 h
 have:=zqn h1 h2.2 (l:=l) (fun t ht=>by
  obtain⟨k,hk,e⟩:=List.getElem_of_mem ht;have:=h4 k hk;rw[qH,qG hk,Option.getD_some,e]at this
  exact this)
 unfold tuBt;rw[qA];have:(be2 ((l.length:Nat):Int)).length=2:=rfl;omega
def rdTu(b:LN)(ax cnt p:Nat):Option (Tu×Nat) :=
 if p+6*ax<=b.length then
  (rpO (b.drop (p+6*ax))).bind fun r =>
   (rcO (b.drop (p+6*ax+r.2)) (cnN cnt r.1:Int)).bind fun x =>
    (rcO (b.drop (p+6*ax+r.2+x.2)) (cnN cnt r.1:Int)).bind fun y =>
     some (⟨tesAt b p ax,decide (r.1.length=0),r.1,x.1,y.1⟩,p+6*ax+r.2+x.2+y.2)
 else none
def rdK(b:LN)(ax cnt:Nat):Nat->Option (List Tu×Nat)
 | 0=>some ([],2)
 | k+1=>(rdK b ax cnt k).bind fun r=>(rdTu b ax cnt r.2).bind fun t=>some (r.1++[t.1],t.2)
theorem zur{b:LN}{ax cnt k:Nat}(h:rdK b ax cnt k=none):∀m,k<=m->rdK b ax cnt m=none:=by
 intro m
 induction m with
 | zero=>intro hm;rw[show k=0 by omega]at h;exact h
 | succ m ih =>
  intro hm;by_cases e:k=m+1
  . rw[<-e];exact h
  . rw[rdK,ih (by omega)];rfl
theorem zl0{b:LN}{ax cnt:Nat}:∀ {k:Nat} {l:List Tu} {p:Nat},rdK b ax cnt k=some (l,p)->l.length=k:=by
 intro k
 induction k with
 | zero=>intro l p h;rw[rdK]at h;injection h with h;injection h with h1 h2;rw[<-h1];rfl
 | succ k ih =>
  intro l p h;rw[rdK]at h;cases hr:rdK b ax cnt k with
  | none=>rw[hr]at h;cases h
  | some r =>
   rw[hr]at h;cases ht:rdTu b ax cnt r.2 with
   | none=>rw[Option.bind_some,ht]at h;cases h
   | some t =>
    rw[Option.bind_some,ht,Option.bind_some]at h;injection h with h;injection h with h1 h2
    rw[<-h1,qA,ih (l:=r.1) (p:=r.2) (by rw[hr])];rfl
theorem zra{b A Z:LN}{p cnt:Nat}{t:Tu}{ax:Int}(hb:b=A++(tuE t++Z))(hp:A.length=p)(h:tuB t cnt ax=true)(hn:cnt<=2000):rdTu b ax.toNat cnt p=some (t,p+(tuE t).length):=by
 obtain⟨p1,p2,p3⟩:=zm3 h hn;obtain⟨c1,c2,c3,c4,_⟩:=zm4 h hn;obtain⟨g1,g2⟩:=znf (zcz.1 h).1;have hax:ax.toNat=t.rg.length:=by omega
 have e0:b=A++(tesE t.rg++(ppB t.pts++(pcB t.dx++(pcB t.dy++Z)))):=by rw[hb,tuE];simp only[qI]
 have d1:b.drop (p+6*t.rg.length)=ppB t.pts++(pcB t.dx++(pcB t.dy++Z)):=by
  rw[e0,<-qI,List.drop_left' (by rw[qA,zcg,hp])]
 have d2:b.drop (p+6*t.rg.length+(ppB t.pts).length)=pcB t.dx++(pcB t.dy++Z):=by
  rw[<-List.drop_drop,d1,List.drop_left]
 have d3:b.drop (p+6*t.rg.length+(ppB t.pts).length+(pcB t.dx).length)=pcB t.dy++Z:=by
  rw[<-List.drop_drop,d2,List.drop_left]
 have hT:tesAt b p t.rg.length=t.rg:=zqr e0 hp g2;have hle:p+6*t.rg.length<=b.length:=by
  rw[e0,qA,qA,zcg,hp];omega
 unfold rdTu;rw[hax,if_pos hle,d1,zyh p1];simp only[Option.bind_some];rw[d2,<-c3,zro c1];simp only[Option.bind_some];rw[d3,c3,<-c4,zro c2];simp only[Option.bind_some];rw[hT,<-p3];congr 2;unfold tuE;rw[qA,qA,qA,zcg];omega
theorem zus{o:Ol}{l:List Tu}{ax:Int}(h:foT o l ax=true):∀k,k<=l.length->rdK (tuBt l) ax.toNat (cntO o) k=some (l.take k,2+(tusE (l.take k)).length):=by
 obtain⟨h1,h2,h3,h4⟩:=zbb.1 h;have hcn:=zf3 h1;intro k
 induction k with
 | zero=>intro _;rfl
 | succ k ih =>
  intro hk;rw[rdK,ih (by omega)];simp only[Option.bind_some];have hgk:l.getD k Tu.none=l[k]:=by simp[List.getD,show k<l.length by omega]
  have hb:tuBt l=(be2 ((l.length:Nat):Int)++tusE (l.take k))++(tuE (l.getD k Tu.none)++tusE (l.drop (k+1))):=by
   have es:l=l.take k++l[k]::l.drop (k+1):=(by simp);unfold tuBt;rw[qI];congr 1;rw[hgk]
   conv=>lhs;rw[es,zb7,tusE]
  rw[zra hb (by rw[qA];rfl) (h4 k (by omega)) (by omega)];simp only[Option.bind_some];rw[zak (d:=Tu.none) (by omega),zb7,zm2,qA,Nat.add_assoc]
def rdTOk(b:LN)(o:Ol)(ax:Int):Bool:=foT o [] ax&&(decide (nmV b 0 2<=40)&&(match rdK b ax.toNat (cntO o) (nmV b 0 2)with | some r=>foT o r.1 ax&&decide (tuBt r.1=b) | none=>false))
def rdTL(b:LN)(o:Ol)(ax:Int):List Tu:=if rdTOk b o ax=true then (match rdK b ax.toNat (cntO o) (nmV b 0 2)with | some r=>r.1 | none=>[])else []
def rdTE(b:LN)(o:Ol)(ax:Int):Int:=if rdTOk b o ax=true then 0 else 2
theorem zrd{b:LN}{o:Ol}{ax:Int}(h:rdTOk b o ax=false):rdTL b o ax=[]/\rdTE b o ax=2:=by
 unfold rdTL rdTE;rw[h];exact⟨rfl,rfl⟩
theorem zje{b:LN}{o:Ol}{ax:Int}(h:foT o [] ax=false):rdTOk b o ax=false:=by unfold rdTOk;rw[h];rfl
theorem znn{b:LN}{o:Ol}{ax:Int}(h:¬nmV b 0 2<=40):rdTOk b o ax=false:=by unfold rdTOk;rw[qB h];simp
theorem znm{b:LN}{o:Ol}{ax:Int}{k:Nat}(h:rdK b ax.toNat (cntO o) k=none)(hk:k<=nmV b 0 2):rdTOk b o ax=false:=by unfold rdTOk;rw[zur h _ hk];simp
theorem znl{b:LN}{o:Ol}{ax:Int}{l:List Tu}{p:Nat}(h:rdK b ax.toNat (cntO o) (nmV b 0 2)=some (l,p))(hn:foT o l ax=false\/tuBt l≠b):rdTOk b o ax=false:=by
 unfold rdTOk;rw[h];rcases hn with hn|hn
 . simp[hn]
 . simp[qB hn]
theorem zs0{o:Ol}{l:List Tu}{ax:Int}(h:foT o l ax=true):foT o [] ax=true:=by
 obtain⟨h1,h2,h3,h4⟩:=zbb.1 h;exact zbb.2 ⟨h1,h2,by simp,fun k hk=>by simp at hk⟩
theorem zjd{b:LN}{o:Ol}{ax:Int}{l:List Tu}{p:Nat}(h:rdK b ax.toNat (cntO o) (nmV b 0 2)=some (l,p))(hf:foT o l ax=true)(hb:tuBt l=b):rdTL b o ax=l/\rdTE b o ax=0:=by
 have hl:=zl0 h;have h3:=(zbb.1 hf).2.2.1;have hk:rdTOk b o ax=true:=by
  unfold rdTOk;rw[zs0 hf,qC (by omega),h];simp[hf,hb]
 unfold rdTL rdTE;rw[if_pos hk,if_pos hk,h];exact⟨rfl,rfl⟩
theorem zr5{l:List Tu}(h:l.length<=40):nmV (tuBt l) 0 2=l.length:=by
 have:=zbl (b:=tuBt l) (A:=[]) (X:=be2 ((l.length:Nat):Int)) (Z:=tusE l) (q:=0) (n:=2) rfl rfl rfl;rw[show((0:Nat):Int)=0 from rfl]at this;rw[this];have:=zt3 (z:=((l.length:Nat):Int)) (by omega) (by omega);omega
theorem zuq{o:Ol}{l:List Tu}{ax:Int}(h:foT o l ax=true):rdTL (tuBt l) o ax=l/\rdTE (tuBt l) o ax=0:=by
 have h3:=(zbb.1 h).2.2.1;have hk:=zus h l.length (qE _);rw[List.take_length]at hk;exact zjd (by rw[zr5 h3];exact hk) h rfl
theorem zrc{b:LN}{o:Ol}{ax:Int}(h:rdTOk b o ax=true):foT o (rdTL b o ax) ax=true/\tuBt (rdTL b o ax)=b:=by
 unfold rdTL;rw[if_pos h];unfold rdTOk at h;rw[Bool.and_eq_true,Bool.and_eq_true]at h;cases hr:rdK b ax.toNat (cntO o) (nmV b 0 2) with
 | none=>rw[hr]at h;cases h.2.2
 | some r =>
  rw[hr]at h;have h5:=h.2.2;simp only[Bool.and_eq_true,qM]at h5;exact h5
open Go.RowKit
def Cl(w:World)(g o:Nat)(v:Value):Prop:=g<w.heap.size/\w.cell? ⟨g,o,none⟩=some v
theorem Cl.below{w w':World}{g o:Nat}{v:Value}(h:Cl w g o v)(hb:Below w.heap.size w w'):Cl w' g o v:=⟨qN h.1 hb.size,(hb.cell (p:=⟨g,o,none⟩) h.1).trans h.2⟩
open Go.Maps
theorem zev(z:Int)(w:World):Calls Tryz.prog 141 #[.int .i64 z] w fun e w'=>e=.returned (.int .i64 ((kdP z:Nat):Int))/\w=w':=by
 rcases za9 z with ⟨h1,h2⟩|⟨h1,h2⟩
 . have HE:Hid (((kdP z:Nat):Int)=1):=by show _=_;rw[h2];rfl
   clear h2;go_enter func141,ntmps141;go_wp2;go_ret;exact⟨by rw[HE.out];rfl,rfl⟩
 . have HE:Hid (((kdP z:Nat):Int)=0):=by show _=_;rw[h2];rfl
   have g1:¬255<z:=(by omega);clear h2;go_enter func141,ntmps141;go_wp2;go_ret;exact⟨by rw[HE.out];rfl,rfl⟩
theorem zex(z:Int)(w:World):Calls Tryz.prog 143 #[.int .i64 z] w fun e w'=>e=.returned (.int .i64 ((kdC z:Nat):Int))/\w=w':=by
 rcases zba z with ⟨h1,h2⟩|⟨h0,h1,h2⟩|⟨h0,h1,h2⟩
 . have HE:Hid (((kdC z:Nat):Int)=2):=by show _=_;rw[h2];rfl
   have g1:(z==0)=true:=(by simp[h1]);clear h2 h1;go_enter func143,ntmps143;go_wp2;go_ret;exact⟨by rw[HE.out];rfl,rfl⟩
 . have HE:Hid (((kdC z:Nat):Int)=1):=by show _=_;rw[h2];rfl
   have g1:(z==0)=false:=(by simp[h0]);clear h2;by_cases h3:z < -128
   . have g2:decide (z < -128)=true:=qC h3
     clear h0 h1;go_enter func143,ntmps143;go_wp2;go_ret;exact⟨by rw[HE.out];rfl,rfl⟩
   . have g2:decide (z < -128)=false:=qB h3
     have g3:decide (127<z)=true:=qC (by omega);clear h0 h1;go_enter func143,ntmps143;go_wp2;go_ret;exact⟨by rw[HE.out];rfl,rfl⟩
 . have HE:Hid (((kdC z:Nat):Int)=0):=by show _=_;rw[h2];rfl
   have g1:(z==0)=false:=(by simp[h0]);have g2:decide (z < -128)=false:=qB (by omega);have g3:decide (127<z)=false:=qB (by omega);clear h0 h2;go_enter func143,ntmps143;go_wp2;go_ret;exact⟨by rw[HE.out];rfl,rfl⟩
theorem zcy{z:Int}(h1:-9223372036854775808<=z)(h2:z<=9223372036854775807):IntKind.i64.wrap z=z:=by
 simp only[IntKind.wrap,IntKind.bits,IntKind.signed];simp;omega
theorem zhg(a:OA)(cap:Nat)(l:LI)(w:World)(h:Ri w a cap l) :
 Calls Tryz.prog 140 #[.slice a l.length cap] w fun e w'=>e=.returned (.bool (ptB l))/\Below w.heap.size w w':=by
 have k2:=h.lenB;have HH:Hid (Ri w a cap l):=h;clear h;go_enter func140,ntmps140;go_wp2
 go_loopw [3] (fun i wr=>∃k:Nat,k<=l.length/\i=.int .i64 k/\(∀i,i<k->0<=l.getD i 0/\l.getD i 0<=65535/\(0<i->l.getD (i-1) 0<l.getD i 0))/\Below w.heap.size w wr) (fun i _=>l.length-(intOf i).toNat)
 case atStart=>exact⟨0,qD _,rfl,(fun j hj=>by omega),Below.refl _ _⟩
 case round =>
  obtain⟨k,hk,rfl,hok,hbW⟩:=hrel;have HOK:Hid (∀i,i<k->0<=l.getD i 0/\l.getD i 0<=65535/\(0<i->l.getD (i-1) 0<l.getD i 0)):=hok;clear hok;by_cases hkn:k<l.length;rotate_left
  . obtain rfl:k=l.length:=by omega
    have HE:Hid (ptB l=decide ((l.length:Int)<=2000)):=(by show _=_;rw[zrt HOK.out];exact decide_eq_decide.2 ⟨fun h=>by omega,fun h=>by omega⟩);have g1:¬(l.length:Int)<(l.length:Int):=(by omega);clear HOK;go_wp2;go_ret;exact⟨zaa HE.out.symm,hbW⟩
  obtain⟨b,off,ea,hb,d0⟩:=HH.out.at hbW k hkn;have hzi:=HH.out.i64 hkn;have HNO:Hid ((l.getD k 0<0\/65535<l.getD k 0\/(0<k/\l.getD k 0<=l.getD (k-1) 0))->ptB l=false):=fun h=>z1i hkn h;have HY:Hid ((0<=l.getD k 0/\l.getD k 0<=65535/\(0<k->l.getD (k-1) 0<l.getD k 0))->∀i,i<k+1->0<=l.getD i 0/\l.getD i 0<=65535/\(0<i->l.getD (i-1) 0<l.getD i 0)):=fun h i hi=>by
   rcases Nat.lt_or_ge i k with h1|h1
   . exact HOK.out i h1
   . rw[show i=k by omega];exact h
  have HP:Hid (0<k->∃m,k=m+1/\Cl wr b (off+m) (.int .i64 (l.getD m 0))):=fun h0=>by
   obtain⟨b',off',ea',_,d1⟩:=HH.out.at hbW (k-1) (by omega);rw[ea]at ea';cases ea';exact⟨k-1,by omega,qN hb hbW.size,d1⟩
  obtain⟨x,hx⟩:∃x,l.getD k 0=x:=⟨_,rfl⟩;rw[hx]at d0 HNO HY;subst ea;have A0:Cl wr b (off+k) (.int .i64 x):=⟨qN hb hbW.size,d0⟩;clear d0 hx;have q0:=A0.2;have i1:(0:Int)<=(k:Int):=by omega
  have i2:(k:Int)<(l.length:Int):=by omega
  by_cases h1:x<0
  . have g1:decide (x<0)=true:=qC h1
    have HE:Hid (ptB l=false):=HNO.out (.inl h1);clear h1 HOK HY HP;go_upto_region 4 with fail
    refine wp_region_held_drew (S:=(fun u=>u.cell? ⟨b,off+k,none⟩=some (.int .i64 x))) (by kernel_rfl) ?_ (fun hH=>?_)
    . (try dsimp only)
      go_keep
    have hdr:Below wr.heap.size wr wr.drew:=Below.drew1;generalize wr.drew=ud1 at hdr hH ⊢;replace A0:=A0.below hdr;replace hbW:Below w.heap.size w ud1:=hbW.trans (hdr.mono hbW.size);clear hdr;refine hT 0 hH ?_;refine hT 1 hH ?_;refine hT 2 hH ?_;refine hT 3 hH ?_;refine hT 4 hH ?_;refine hT 5 hH ?_;refine hN 6 hH ?_;refine hN 7 hH ?_;refine hN 8 hH ?_;refine hN 9 hH ?_;refine hN 10 hH ?_;refine hT 11 hH ?_;refine hT 12 hH ?_;refine hN 13 hH ?_;refine hN 14 hH ?_;refine hN 15 hH ?_;refine hN 16 hH ?_;refine hN 17 hH ?_;refine hN 18 hH ?_;refine hN 19 hH ?_;refine hN 20 hH ?_;refine hN 21 hH ?_;refine hN 22 hH ?_;refine hN 23 hH ?_;refine hN 24 hH ?_;refine hN 25 hH ?_;refine hN 26 hH ?_;refine hT 27 hH ?_;refine wpAnyH_done (by kernel_rfl) ?_ _;clear hH;go_wp2;go_ret;exact⟨zaa HE.out.symm,hbW⟩
  have g1:decide (x<0)=false:=qB h1;by_cases h2:65535<x
  . have g2:decide (65535<x)=true:=qC h2
    have HE:Hid (ptB l=false):=HNO.out (.inr (.inl h2));clear h1 h2 HOK HY HP;go_upto_region 4 with fail
    refine wp_region_held_drew (S:=(fun u=>u.cell? ⟨b,off+k,none⟩=some (.int .i64 x))) (by kernel_rfl) ?_ (fun hH=>?_)
    . (try dsimp only)
      go_keep
    have hdr:Below wr.heap.size wr wr.drew:=Below.drew1;generalize wr.drew=ud2 at hdr hH ⊢;replace A0:=A0.below hdr;replace hbW:Below w.heap.size w ud2:=hbW.trans (hdr.mono hbW.size);clear hdr;refine hT 0 hH ?_;refine hT 1 hH ?_;refine hT 2 hH ?_;refine hT 3 hH ?_;refine hT 4 hH ?_;refine hT 5 hH ?_;refine hT 6 hH ?_;refine hT 7 hH ?_;refine hT 8 hH ?_;refine hT 9 hH ?_;refine hT 10 hH ?_;refine hT 11 hH ?_;refine hT 12 hH ?_;refine hN 13 hH ?_;refine hN 14 hH ?_;refine hN 15 hH ?_;refine hN 16 hH ?_;refine hN 17 hH ?_;refine hN 18 hH ?_;refine hN 19 hH ?_;refine hN 20 hH ?_;refine hN 21 hH ?_;refine hN 22 hH ?_;refine hN 23 hH ?_;refine hN 24 hH ?_;refine hN 25 hH ?_;refine hN 26 hH ?_;refine hT 27 hH ?_;refine wpAnyH_done (by kernel_rfl) ?_ _;clear hH;go_wp2;go_ret;exact⟨zaa HE.out.symm,hbW⟩
  have g2:decide (65535<x)=false:=qB h2;by_cases h3:k=0
  . have g3:decide (0<k)=false:=qB (by omega)
    have zb5:Hid (_):=HY.out ⟨by omega,by omega,fun h=>by omega⟩;clear h1 h2 h3 HOK HNO HP;go_upto_region 4 with fail
    refine wp_region_held_drew (S:=(fun u=>u.cell? ⟨b,off+k,none⟩=some (.int .i64 x))) (by kernel_rfl) ?_ (fun hH=>?_)
    . (try dsimp only)
      go_keep
    have hdr:Below wr.heap.size wr wr.drew:=Below.drew1;generalize wr.drew=ud3 at hdr hH ⊢;replace A0:=A0.below hdr;replace hbW:Below w.heap.size w ud3:=hbW.trans (hdr.mono hbW.size);clear hdr;refine hT 0 hH ?_;refine hT 1 hH ?_;refine hT 2 hH ?_;refine hT 3 hH ?_;refine hT 4 hH ?_;refine hT 5 hH ?_;refine hT 6 hH ?_;refine hT 7 hH ?_;refine hT 8 hH ?_;refine hT 9 hH ?_;refine hT 10 hH ?_;refine hT 11 hH ?_;refine hT 12 hH ?_;refine hT 13 hH ?_;refine hT 14 hH ?_;refine hT 15 hH ?_;refine hN 16 hH ?_;refine hN 17 hH ?_;refine hN 18 hH ?_;refine hN 19 hH ?_;refine hN 20 hH ?_;refine hN 21 hH ?_;refine hN 22 hH ?_;refine hN 23 hH ?_;refine hN 24 hH ?_;refine hN 25 hH ?_;refine hT 26 hH ?_;refine hT 27 hH ?_;refine wpAnyH_done (by kernel_rfl) ?_ _;clear hH;go_wp2;go_roundw
    case rel=>exact⟨k+1,by omega,by go_num,zb5.out,hbW⟩
    case measure=>simp[intOf];omega
  obtain⟨m,hm,A1⟩:=HP.out (by omega);have hmk:(k:Int)-1=(m:Int):=by omega
  have hwm:IntKind.i64.wrap (m:Int)=(m:Int):=zcy (by omega) (by omega);have i3:(0:Int)<=(m:Int):=by omega
  have i4:(m:Int)<(l.length:Int):=by omega
  have g3:decide (0<k)=true:=qC (by omega);have hk1:k-1=m:=by omega
  rw[hk1]at HNO HY;obtain⟨y,hy⟩:∃y,l.getD m 0=y:=⟨_,rfl⟩;rw[hy]at A1 HNO HY;clear hy hk1 HP;have q1:=A1.2;by_cases h4:x<=y
  . have g4:decide (x<=y)=true:=qC h4
    have HE:Hid (ptB l=false):=HNO.out (.inr (.inr ⟨by omega,h4⟩));clear h1 h2 h3 h4 HOK HY hm;go_upto_region 4 with fail
    refine wp_region_held_drew (S:=(fun u=>u.cell? ⟨b,off+k,none⟩=some (.int .i64 x)/\u.cell? ⟨b,off+m,none⟩=some (.int .i64 y))) (by kernel_rfl) ?_ (fun hH=>?_)
    . (try dsimp only)
      go_keep
    have hdr:Below wr.heap.size wr wr.drew:=Below.drew1;generalize wr.drew=ud4 at hdr hH ⊢;replace A0:=A0.below hdr;replace A1:=A1.below hdr;replace hbW:Below w.heap.size w ud4:=hbW.trans (hdr.mono hbW.size);clear hdr;refine hT 0 hH ?_;refine hT 1 hH ?_;refine hT 2 hH ?_;refine hT 3 hH ?_;refine hT 4 hH ?_;refine hT 5 hH ?_;refine hT 6 hH ?_;refine hT 7 hH ?_;refine hT 8 hH ?_;refine hT 9 hH ?_;refine hT 10 hH ?_;refine hT 11 hH ?_;refine hT 12 hH ?_;refine hT 13 hH ?_;refine hT 14 hH ?_;refine hT 15 hH ?_;refine hT 16 hH ?_;refine hT 17 hH ?_;refine hT 18 hH ?_;refine hT 19 hH ?_;refine hT 20 hH ?_;refine hT 21 hH ?_;refine hT 22 hH ?_;refine hT 23 hH ?_;refine hT 24 hH ?_;refine hT 25 hH ?_;refine hT 26 hH ?_;refine hT 27 hH ?_;refine wpAnyH_done (by kernel_rfl) ?_ _;clear hH;go_wp2;go_ret;exact⟨zaa HE.out.symm,hbW⟩
  . have g4:decide (x<=y)=false:=qB h4
    have zb5:Hid (_):=HY.out ⟨by omega,by omega,fun _=>by omega⟩;clear h1 h2 h3 h4 HOK HNO hm;go_upto_region 4 with fail
    refine wp_region_held_drew (S:=(fun u=>u.cell? ⟨b,off+k,none⟩=some (.int .i64 x)/\u.cell? ⟨b,off+m,none⟩=some (.int .i64 y))) (by kernel_rfl) ?_ (fun hH=>?_)
    . (try dsimp only)
      go_keep
    have hdr:Below wr.heap.size wr wr.drew:=Below.drew1;generalize wr.drew=ud5 at hdr hH ⊢;replace A0:=A0.below hdr;replace A1:=A1.below hdr;replace hbW:Below w.heap.size w ud5:=hbW.trans (hdr.mono hbW.size);clear hdr;refine hT 0 hH ?_;refine hT 1 hH ?_;refine hT 2 hH ?_;refine hT 3 hH ?_;refine hT 4 hH ?_;refine hT 5 hH ?_;refine hT 6 hH ?_;refine hT 7 hH ?_;refine hT 8 hH ?_;refine hT 9 hH ?_;refine hT 10 hH ?_;refine hT 11 hH ?_;refine hT 12 hH ?_;refine hT 13 hH ?_;refine hT 14 hH ?_;refine hT 15 hH ?_;refine hT 16 hH ?_;refine hT 17 hH ?_;refine hT 18 hH ?_;refine hT 19 hH ?_;refine hT 20 hH ?_;refine hT 21 hH ?_;refine hT 22 hH ?_;refine hT 23 hH ?_;refine hT 24 hH ?_;refine hT 25 hH ?_;refine hT 26 hH ?_;refine hT 27 hH ?_;refine wpAnyH_done (by kernel_rfl) ?_ _;clear hH;go_wp2;go_roundw
    case rel=>exact⟨k+1,by omega,by go_num,zb5.out,hbW⟩
    case measure=>simp[intOf];omega
theorem zko(a:OA)(cap:Nat)(l:LI)(w:World)(h:Ri w a cap l) :
 Calls Tryz.prog 142 #[.slice a l.length cap] w fun e w'=>e=.returned (.bool (chB l))/\Below w.heap.size w w':=by
 have k2:=h.lenB;have HH:Hid (Ri w a cap l):=h;clear h;go_enter func142,ntmps142;go_wp2
 go_loopw [3] (fun i wr=>∃k:Nat,k<=l.length/\i=.int .i64 k/\(∀i,i<k->-32768<=l.getD i 0/\l.getD i 0<=32767)/\Below w.heap.size w wr) (fun i _=>l.length-(intOf i).toNat)
 case atStart=>exact⟨0,qD _,rfl,(fun j hj=>by omega),Below.refl _ _⟩
 case round =>
  obtain⟨k,hk,rfl,hok,hbW⟩:=hrel;have HOK:Hid (∀i,i<k->-32768<=l.getD i 0/\l.getD i 0<=32767):=hok;clear hok;by_cases hkn:k<l.length
  . obtain⟨b,off,ea,hb,d0⟩:=HH.out.at hbW k hkn
    obtain⟨x,hx⟩:∃x,l.getD k 0=x:=⟨_,rfl⟩;have HX:Hid (l.getD k 0=x):=hx;rw[hx]at d0;subst ea;clear hx;by_cases h1:x < -32768
    . have g1:decide (x < -32768)=true:=qC h1
      have HE:Hid (chB l=false):=ztm hkn (by rw[HX.out];exact .inl h1);clear h1 HOK HX;go_wp2;go_ret;exact⟨zaa HE.out.symm,hbW⟩
    have g1:decide (x < -32768)=false:=qB h1;by_cases h2:32767<x
    . have g2:decide (32767<x)=true:=qC h2
      have HE:Hid (chB l=false):=ztm hkn (by rw[HX.out];exact .inr h2);clear h1 h2 HOK HX;go_wp2;go_ret;exact⟨zaa HE.out.symm,hbW⟩
    have g2:decide (32767<x)=false:=qB h2;have zb5:Hid (∀i,i<k+1->-32768<=l.getD i 0/\l.getD i 0<=32767):=fun i hi=>by
     rcases Nat.lt_or_ge i k with h1|h1
     . exact HOK.out i h1
     . rw[show i=k by omega,HX.out];omega
    clear h1 h2 HOK HX;go_wp2;go_roundw
    case rel=>exact⟨k+1,by omega,by go_num,zb5.out,hbW⟩
    case measure=>simp[intOf];omega
  . obtain rfl:k=l.length:=by omega
    have HE:Hid (chB l=decide ((l.length:Int)<=2000)):=(by show _=_;rw[ztl HOK.out];exact decide_eq_decide.2 ⟨fun h=>by omega,fun h=>by omega⟩);have g1:¬(l.length:Int)<(l.length:Int):=(by omega);clear HOK;go_wp2;go_ret;exact⟨zaa HE.out.symm,hbW⟩
theorem zwi(x:Int)(w:World)(hx:0<=x)(hx2:x<=9223372036854775807) :
 Calls Tryz.prog 44 #[.int .i64 x,.int .i64 1] w fun e w'=>∃a cap,e=.returned (.slice a (be1 x).length cap)/\Rb w' a cap (be1 x)/\Below w.heap.size w w':=by
 have hmk:∀w,(Instr.makeSlice 42 (.int .i64 1) (.int .i64 1)).run Tryz.prog w=.ok (.slice (some ⟨w.heap.size,0,none⟩) 1 1) (w.alloc (.cells #[.int .u8 0] 5)):=by
  intro w;have h:=run_make_row' (P:=Tryz.prog) 42 5 (.int .u8 0) 1 underlying42 zca rfl .i64 .i64 1 (by decide) (by decide) w;rw[show madeCells #[Value.int IntKind.u8 0] 1=#[.int .u8 0] by kernel_rfl]at h;exact h
 go_enter func44,ntmps44;go_wp2;refine wp_loop_rounds 2 ?_;rw[rounds_succ];go_wp2;rw[rounds_succ];go_wp2;go_ret;refine⟨_,_,rfl,zit w 5 (be1 x) _ ?_ (zj9 x) (by simp[be1,maxLen]),bl1 _⟩;simp only[be1,List.map_cons,List.map_nil,Y];simp;omega
theorem zbf(x:Int)(w:World)(hx:0<=x)(hx2:x<=9223372036854775807) :
 Calls Tryz.prog 44 #[.int .i64 x,.int .i64 2] w fun e w'=>∃a cap,e=.returned (.slice a (be2 x).length cap)/\Rb w' a cap (be2 x)/\Below w.heap.size w w':=by
 have hmk:∀w,(Instr.makeSlice 42 (.int .i64 2) (.int .i64 2)).run Tryz.prog w=.ok (.slice (some ⟨w.heap.size,0,none⟩) 2 2) (w.alloc (.cells #[.int .u8 0,.int .u8 0] 5)):=by
  intro w;have h:=run_make_row' (P:=Tryz.prog) 42 5 (.int .u8 0) 1 underlying42 zca rfl .i64 .i64 2 (by decide) (by decide) w;rw[show madeCells #[Value.int IntKind.u8 0] 2=#[.int .u8 0,.int .u8 0] by kernel_rfl]at h;exact h
 go_enter func44,ntmps44;go_wp2;refine wp_loop_rounds 3 ?_;rw[rounds_succ];go_wp2;rw[rounds_succ];go_wp2;rw[rounds_succ];go_wp2;go_ret;refine⟨_,_,rfl,zit w 5 (be2 x) _ ?_ (zb4 x) (by simp[be2,maxLen]),bl1 _⟩;simp only[be2,List.map_cons,List.map_nil,Y];simp;omega
theorem zok(x:Int)(w:World)(hx:0<=x)(hx2:x<=9223372036854775807) :
 Calls Tryz.prog 44 #[.int .i64 x,.int .i64 4] w fun e w'=>∃a cap,e=.returned (.slice a (be4 x).length cap)/\Rb w' a cap (be4 x)/\Below w.heap.size w w':=by
 have hmk:∀w,(Instr.makeSlice 42 (.int .i64 4) (.int .i64 4)).run Tryz.prog w=.ok (.slice (some ⟨w.heap.size,0,none⟩) 4 4) (w.alloc (.cells #[.int .u8 0,.int .u8 0,.int .u8 0,.int .u8 0] 5)):=by
  intro w;have h:=run_make_row' (P:=Tryz.prog) 42 5 (.int .u8 0) 1 underlying42 zca rfl .i64 .i64 4 (by decide) (by decide) w;rw[show madeCells #[Value.int IntKind.u8 0] 4=#[.int .u8 0,.int .u8 0,.int .u8 0,.int .u8 0] by kernel_rfl]at h;exact h
 go_enter func44,ntmps44;go_wp2;refine wp_loop_rounds 5 ?_;rw[rounds_succ];go_wp2;rw[rounds_succ];go_wp2;rw[rounds_succ];go_wp2;rw[rounds_succ];go_wp2;rw[rounds_succ];go_wp2;go_ret;refine⟨_,_,rfl,zit w 5 (be4 x) _ ?_ (ztt x) (by simp[be4,maxLen]),bl1 _⟩;simp only[be4,List.map_cons,List.map_nil,Y];simp;omega
