/-
  foundryref10.Value, foundryref10.Rounded: the walks.
  foundryref15.At, foundryref15.Advance: the walks.
  What a law is told of a slice of bytes, or of int32, that came in.
  What a law is told of things that came in, one for all (Opens).
  What a law is told of an outline that came in.
  Rows of int16 that are read.
  What a law of layer 13 is told of what came in: rows of ints, int16 and bools; structs of them.
  What a law of layer 14 is told of what came in: an outline and its tuples.
-/
import Derived.Test.YtkmcodofnckdmaaGreatZS27
import Derived.Test.YtkmcodofnckdmaaGreatZS54
import Derived.Test.YtkmcodofnckdmaaGreatZS33
import Derived.Test.YtkmcodofnckdmaaGreatZS53
import Derived.Test.YtkmcodofnckdmaaGreatZS6
import Derived.ProofKit
import Derived.Test.YtkmcodofnckdmaaGreatZS10
import Derived.Deep.Strs
import Derived.OpenShut
import Derived.SizedLaws
import Derived.Lib.SmallJoins
import Derived.Test.YtkmcodofnckdmaaGreatZS14
import Derived.Test.YtkmcodofnckdmaaGreatZS13
set_option maxHeartbeats 4000000
set_option maxRecDepth 100000
set_option linter.unusedSimpArgs false
set_option linter.unusedVariables false
namespace Go.Proofs.YtkmcodofnckdmaaGreat
open Go.RowKit Go.Maps
theorem svalueS_any (a : Option Addr) (ca : Nat) (b : Option Addr) (cb : Nat) (s : Sr) (x r : Int) (pa : Option Addr) (pc : Nat) (cs : List Int) (w : World) (hg : Tzz w a ca s.rg) (hm : Rii w b cb s.rw) (hp : Ri w pa pc cs) (hx : I64 x) (hr : I64 r) (hl : s.rg.length ≤ 40) (h8 : ∀ l ∈ s.rg, l.length ≤ 8) :
    Calls Tryz.prog 70 #[.agg #[.slice a s.rg.length ca, .slice b s.rw.length cb], .agg #[.int .i64 x, .int .i64 r], .slice pa cs.length pc] w fun e w' => ∃ v', e = .returned v' ∧ Fr w' v' 1003 (vaQ s x r cs) ∧ Below w.heap.size w w' := by
 have k3 := hp.lenB
 have HV : Hid (((x : Int) : Rat) + chQ s r cs = vaQ s x r cs) := rfl
 have hch := fun U h1 h2 h3 => schangeS_any a ca b cb s r pa pc cs U h1 h2 h3 hl h8
 obtain ⟨W, hW, X1, X2, B0, hbW⟩ : ∃ W, W = ((w.alloc (.cells #[.slice a s.rg.length ca, .slice b s.rw.length cb] 26)).alloc (.cells #[.int .i64 x, .int .i64 r] 60)).alloc (.cells #[.bool false, .slice none 0 0, .slice none 0 0] 130) ∧ BxS W w.heap.size (.slice a s.rg.length ca) (.slice b s.rw.length cb) ∧ BxL W (w.heap.size + 1) (.int .i64 x) (.int .i64 r) ∧ Box 130 W (w.heap.size + 2) (.bool false) (.slice none 0 0) (.slice none 0 0) ∧ Below w.heap.size w W := ⟨_, rfl, ((BxS.new _ _ _).below (bl1 _)).below (bl1 _), (BxL.new1 _ _ _ _).below (bl1 _), Box.new2S _ _ _ _ _ _ _, (bl2 _ _).trans ((bl1 _).mono (by simp; omega))⟩
 replace hg := hg.below hbW; replace hm := hm.below hbW; replace hp := hp.below hbW
 generalize chQ s r cs = qc at *
 clear h8
 go_enter Tryz.func70, Tryz.ntmps70
 go_upto_region 1 with fail
 rw [← hW]; clear hW; obtain ⟨p00, p01, _⟩ := X1.cells; obtain ⟨p10, p11, _⟩ := X2.cells
 refine wp_region_held_drew (S := (fun u => u.cell? ⟨w.heap.size, 0, none⟩ = some (.slice a s.rg.length ca) ∧ u.cell? ⟨w.heap.size, 1, none⟩ = some (.slice b s.rw.length cb) ∧ u.cell? ⟨w.heap.size + 1, 0, none⟩ = some (.int .i64 x) ∧ u.cell? ⟨w.heap.size + 1, 1, none⟩ = some (.int .i64 r))) (by kernel_rfl) ?_ (fun hHeld => ?_)
 · (try dsimp only)
   go_keep
 have hdr : Below W.heap.size W W.drew := Below.drew1
 generalize W.drew = ud1 at hdr hHeld ⊢
 replace hg := hg.below hdr; replace hm := hm.below hdr; replace hp := hp.below hdr; replace B0 := B0.below hdr; replace X1 := X1.below hdr; replace X2 := X2.below hdr
 replace hbW : Below w.heap.size w ud1 := hbW.trans (hdr.mono hbW.size)
 clear hdr; clear p00 p01 p10 p11; obtain ⟨p00, p01, _⟩ := X1.cells; obtain ⟨p10, p11, _⟩ := X2.cells; refine hT 0 hHeld ?_; refine hT 1 hHeld ?_; refine hT 3 hHeld ?_; refine hT 4 hHeld ?_; refine hT 5 hHeld ?_; refine hT 6 hHeld ?_
 refine hCall (i := 2) rfl (by kernel_rfl) (by rfl) (fun K hK => ?_)
 go_simp
 refine (swhole_any x _ hx.1 (by have := hx.2; omega)).mono ?_
 rintro e u1 ⟨v5, rfl, hF5, hb1⟩; replace hg := hg.below hb1; replace hm := hm.below hb1; replace hp := hp.below hb1; replace B0 := B0.below hb1; replace X1 := X1.below hb1; replace X2 := X2.below hb1
 replace hbW : Below w.heap.size w u1 := hbW.trans (hb1.mono hbW.size)
 clear hb1; clear p00 p01 p10 p11; obtain ⟨p00, p01, _⟩ := X1.cells; obtain ⟨p10, p11, _⟩ := X2.cells
 go_wp2_with fail
 refine hK.out _ _ ?_ (fun hHeld => ?_)
 · (try dsimp only)
   exact ⟨p00, p01, p10, p11⟩
 clear hK K
 try simp only [Act.put, pZ]
 refine hCall (i := 7) rfl (by kernel_rfl) (by rfl) (fun K hK => ?_)
 go_simp
 refine (hch _ hg hm hp).mono ?_
 rintro e u2 ⟨v6, rfl, hF6, hb2⟩; replace hg := hg.below hb2; replace hm := hm.below hb2; replace hp := hp.below hb2; replace B0 := B0.below hb2; replace hF5 := hF5.below hb2; replace X1 := X1.below hb2; replace X2 := X2.below hb2
 replace hbW : Below w.heap.size w u2 := hbW.trans (hb2.mono hbW.size)
 clear hb2; clear p00 p01 p10 p11; obtain ⟨p00, p01, _⟩ := X1.cells; obtain ⟨p10, p11, _⟩ := X2.cells
 go_wp2_with fail
 refine hK.out _ _ ?_ (fun hHeld => ?_)
 · (try dsimp only)
   exact ⟨p00, p01, p10, p11⟩
 clear hK K
 try simp only [Act.put, pZ]
 refine hCall (i := 8) rfl (by kernel_rfl) (by rfl) (fun K hK => ?_)
 go_simp
 refine (sadd_any 2 1000 _ _ _ _ _ hF5.ct hF6.ct (by decide) (by decide) (by decide) (by decide)).mono ?_
 rintro e u3 ⟨v9, rfl, hF9, hb3⟩; replace hg := hg.below hb3; replace hm := hm.below hb3; replace hp := hp.below hb3; replace B0 := B0.below hb3; replace hF5 := hF5.below hb3; replace hF6 := hF6.below hb3; replace X1 := X1.below hb3; replace X2 := X2.below hb3
 replace hbW : Below w.heap.size w u3 := hbW.trans (hb3.mono hbW.size)
 clear hb3; rw [HV.out] at hF9; obtain ⟨n9, x9, y9, ⟨a9, c9, b9, d9, rfl, hx9, hy9⟩, hF9⟩ := hF9; clear p00 p01 p10 p11; obtain ⟨p00, p01, _⟩ := X1.cells; obtain ⟨p10, p11, _⟩ := X2.cells
 go_wp2_with fail
 refine hK.out _ _ ?_ (fun hHeld => ?_)
 · (try dsimp only)
   exact ⟨p00, p01, p10, p11⟩
 clear hK K
 try simp only [Act.put, pZ]
 refine hCall (i := 9) rfl (by kernel_rfl) (by rfl) (fun K hK => ?_)
 go_simp
 have hs := B0.lt
 obtain ⟨f1, f2, f3, f4, f5, f6⟩ := B0.cells
 try go_simp
 obtain ⟨u64, hU, C9, hbU, hK9, ho⟩ := set3_world B0 (.bool n9) (.slice a9 x9.length c9) (.slice b9 y9.length d9)
 rw [← hU]; clear hU f1 f2 f3 f4 f5 f6
 replace hbW := hbU _ _ hbW (by omega)
 replace hx9 := hK9 _ _ _ hx9
 replace hy9 := hK9 _ _ _ hy9
 replace X1 : BxS u64 w.heap.size (.slice a s.rg.length ca) (.slice b s.rw.length cb) := (ho _ (by omega)).trans X1
 replace X2 : BxL u64 (w.heap.size + 1) (.int .i64 x) (.int .i64 r) := (ho _ (by omega)).trans X2
 clear hbU hK9 ho; clear p00 p01 p10 p11; obtain ⟨p00, p01, _⟩ := X1.cells; obtain ⟨p10, p11, _⟩ := X2.cells
 refine hK.out _ _ ?_ (fun hHeld => ?_)
 · (try dsimp only)
   exact ⟨p00, p01, p10, p11⟩
 clear hK K
 try simp only [Act.put, pZ]
 refine wpAnyH_done (by kernel_rfl) ?_ _
 clear hHeld; go_wp2
 refine bodyPost_ret (by obtain ⟨r1, r2, r3, _⟩ := C9.cells; simp [results, Tryz.results70, go_sem, r1, r2, r3]) rfl ⟨_, rfl, ⟨_, _, _, ⟨_, _, _, _, rfl, hx9, hy9⟩, hF9⟩, hbW⟩
theorem sroundedS_any (a : Option Addr) (ca : Nat) (b : Option Addr) (cb : Nat) (s : Sr) (x r : Int) (pa : Option Addr) (pc : Nat) (cs : List Int) (w : World) (hg : Tzz w a ca s.rg) (hm : Rii w b cb s.rw) (hp : Ri w pa pc cs) (hx : I64 x) (hr : I64 r) (hl : s.rg.length ≤ 40) (h8 : ∀ l ∈ s.rg, l.length ≤ 8) :
    Calls Tryz.prog 37 #[.agg #[.slice a s.rg.length ca, .slice b s.rw.length cb], .agg #[.int .i64 x, .int .i64 r], .slice pa cs.length pc] w fun e w' => e = .returned (.tuple #[.int .i64 (roN s x r cs), .int .i64 (roE s x r cs)]) ∧ Below w.heap.size w w' := by
 have k2 := hm.lenB
 have k3 := hp.lenB
 have hfi := fun U => sfitsS_any a ca b cb s x r U k2 hx hr
 have hva := fun U h1 h2 h3 => svalueS_any a ca b cb s x r pa pc cs U h1 h2 h3 hx hr hl h8
 obtain ⟨W, hW, X1, X2, hbW⟩ : ∃ W, W = (w.alloc (.cells #[.slice a s.rg.length ca, .slice b s.rw.length cb] 26)).alloc (.cells #[.int .i64 x, .int .i64 r] 60) ∧ BxS W w.heap.size (.slice a s.rg.length ca) (.slice b s.rw.length cb) ∧ BxL W (w.heap.size + 1) (.int .i64 x) (.int .i64 r) ∧ Below w.heap.size w W := ⟨_, rfl, (BxS.new _ _ _).below (bl1 _), BxL.new1 _ _ _ _, bl2 _ _⟩
 replace hg := hg.below hbW; replace hm := hm.below hbW; replace hp := hp.below hbW; clear h8 hx hr
 cases hf : fiS s x r with
 | false =>
  have HE : Hid (roN s x r cs = 0 ∧ roE s x r cs = 1) := by
   show _ ∧ _
   constructor
   · rw [roN, hf]; rfl
   · rw [roE, hf]; rfl
  simp only [hf] at hfi
  clear hf hg hm hp hva
  go_enter Tryz.func37, Tryz.ntmps37
  go_wp2_with fail
  rw [← hW]; clear hW
  refine (hfi _).mono ?_
  rintro e u1 ⟨rfl, hb1⟩
  replace hbW := hbW.trans (hb1.mono hbW.size)
  clear hb1 hfi; go_wp2
  go_ret2
  exact ⟨by rw [HE.out.1, HE.out.2]; rfl, hbW⟩
 | true =>
  have HE : Hid (roN s x r cs = fldN (vaQ s x r cs + 1 / 2).floor ∧ roE s x r cs = fldE (vaQ s x r cs + 1 / 2).floor) := by
   show _ ∧ _
   constructor
   · rw [roN, hf]; rfl
   · rw [roE, hf]; rfl
  simp only [hf] at hfi
  clear hf
  go_enter Tryz.func37, Tryz.ntmps37
  go_wp2_with fail
  rw [← hW]; clear hW
  refine (hfi _).mono ?_
  rintro e u1 ⟨rfl, hb1⟩; replace hg := hg.below hb1; replace hm := hm.below hb1; replace hp := hp.below hb1; replace X1 := X1.below hb1; replace X2 := X2.below hb1
  replace hbW := hbW.trans (hb1.mono hbW.size)
  clear hb1 hfi; obtain ⟨p0, p1, _⟩ := X1.cells; obtain ⟨p2, p3, _⟩ := X2.cells
  go_wp2_with fail
  refine (hva _ hg hm hp).mono ?_
  rintro e u2 ⟨v2, rfl, hF2, hb2⟩
  replace hbW := hbW.trans (hb2.mono hbW.size)
  clear hb2 hva hg hm hp X1 X2 p0 p1 p2 p3
  generalize vaQ s x r cs = q at *
  go_wp2_with fail
  refine (sfield_any 1003 q _ _ hF2.ct (by decide) (by decide)).mono ?_
  rintro e u3 ⟨rfl, hb3⟩
  replace hbW := hbW.trans (hb3.mono hbW.size)
  rw [← HE.out.1, ← HE.out.2]; clear hb3 hF2; go_wp2
  go_ret2
  exact ⟨rfl, hbW⟩
theorem satG_any (S : Nat → Prop) (a : Option Addr) (ca : Nat) (l : List Gl) (g : Int) (pa : Option Addr) (pc : Nat) (cs : List Int) (w : World) (hl : Gr GlE S w a ca l) (hcs : Ri w pa pc cs) (hg : I64 g) (hn : l.length ≤ 1000) (hpt : ∀ x ∈ l, x.o.cs.flatten.length ≤ 100000) (hps : ∀ x ∈ l, x.o.ps.length ≤ 12) :
    Calls Tryz.prog 19 #[.slice a l.length ca, .int .i64 g, .slice pa cs.length pc] w fun e w' => ∃ a1 c1, e = .returned (.tuple #[.slice a1 (glC l g cs).length c1, .int .i64 (glE l g cs)]) ∧ Gr PnE.row (fun k => w.heap.size ≤ k) w' a1 c1 (glC l g cs) ∧ Below w.heap.size w w' := by
 have kl := hl.lenB
 have kc := hcs.lenB
 have HNO : Hid (∀ (E : Int) (U : World), glE l g cs = E ∧ glC l g cs = [] → Below w.heap.size w U → ∃ a1 c1, (Ending.returned (.tuple #[.slice none 0 0, .int .i64 E])) = .returned (.tuple #[.slice a1 (glC l g cs).length c1, .int .i64 (glE l g cs)]) ∧ Gr PnE.row (fun k => w.heap.size ≤ k) U a1 c1 (glC l g cs) ∧ Below w.heap.size w U) := by
  intro E U h hb
  rw [h.1, h.2]
  exact ⟨none, 0, rfl, Gr.nil _ _ _ _ _ (Nat.zero_le _) (fun _ => rfl), hb⟩
 cases hgi : isG l.length g with
 | false =>
  have HF : Hid (_) := glE_none (cs := cs) (isG_none hgi)
  have h0 := gAt_none (isG_none hgi)
  clear hgi
  by_cases h1 : g < 0
  · have g1 : decide (g < 0) = true := decide_eq_true h1
    clear h0
    go_enter Tryz.func19, Tryz.ntmps19
    go_wp2
    go_ret2
    exact HNO.out 5 _ HF.out (Below.refl _ _)
  · have g1 : decide (g < 0) = false := decide_eq_false h1
    have g2 : decide ((l.length : Int) ≤ g) = true := decide_eq_true (by omega)
    clear h0
    go_enter Tryz.func19, Tryz.ntmps19
    go_wp2
    go_ret2
    exact HNO.out 5 _ HF.out (Below.refl _ _)
 | true =>
 have HGA : Hid (_) := isG_at hgi
 obtain ⟨hg0, hg1⟩ := isG_some hgi
 clear hgi
 have hdp := sdepth_any S a ca l g w hl hn hg
 cases hd : dq l 6 g with
 | none =>
  have HF : Hid (_) := glE_deep (cs := cs) HGA.out hd
  rw [dpG_none hd] at hdp
  obtain ⟨k, rfl⟩ : ∃ k : Nat, g = (k : Int) := ⟨g.toNat, by omega⟩
  have g1 : decide ((k : Int) < 0) = false := decide_eq_false (by omega)
  have g2 : decide ((l.length : Int) ≤ (k : Int)) = false := decide_eq_false (by omega)
  have g3 : decide (l.length ≤ k) = false := decide_eq_false (by omega)
  clear hd hg0 hg1
  go_enter Tryz.func19, Tryz.ntmps19
  go_wp2_with fail
  refine hdp.mono ?_
  rintro e u ⟨rfl, hb⟩; clear hdp; go_wp2
  go_ret2
  exact HNO.out 6 _ HF.out hb
 | some d =>
 by_cases hs : szG l g ≤ 2000
 · have HG : Hid (_) := glE_some (cs := cs) hd hs
   refine (sflat_any S a ca l pa pc cs hn hpt hps d g w hl hcs hd hs).mono ?_
   rintro e u ⟨⟨a1, c1, rfl, hG⟩, hb⟩; rw [HG.out.1, HG.out.2]
   exact ⟨a1, c1, rfl, hG.gr, hb⟩
 · have HF : Hid (_) := glE_long (cs := cs) hd (by omega)
   have hsi := fun U (hU : Below w.heap.size w U) => ssizeG_any S a ca l g U (hl.below hU) hn hpt hg
   rw [dpG_some hd] at hdp
   have g02 : ¬ (d : Int) < 0 := by omega
   obtain ⟨k, rfl⟩ : ∃ k : Nat, g = (k : Int) := ⟨g.toNat, by omega⟩
   have g1 : decide ((k : Int) < 0) = false := decide_eq_false (by omega)
   have g2 : decide ((l.length : Int) ≤ (k : Int)) = false := decide_eq_false (by omega)
   have g3 : decide (l.length ≤ k) = false := decide_eq_false (by omega)
   generalize hz : szG l (k : Int) = sz at hsi hs
   have g03 : (2000 : Int) < (sz : Int) := by omega
   clear hd hg0 hg1 hz
   go_enter Tryz.func19, Tryz.ntmps19
   go_wp2_with fail
   refine hdp.mono ?_
   rintro e u1 ⟨rfl, hb1⟩; clear hdp
   go_wp2_with fail
   refine (hsi u1 hb1).mono ?_
   rintro e u ⟨rfl, hb2⟩
   have hb := hb1.trans (hb2.mono hb1.size)
   clear hsi hb1 hb2; go_wp2
   go_ret2
   exact HNO.out 3 _ HF.out hb
theorem sadvance_any (S : Nat → Prop) (a : Option Addr) (ca : Nat) (l : List Gl) (ga : Option Addr) (gc : Nat) (ma : Option Addr) (mc : Nat) (s : Sr) (g : Int) (pa : Option Addr) (pc : Nat) (cs : List Int) (w : World) (hl : Gr GlE S w a ca l) (hg : Tzz w ga gc s.rg) (hm : Rii w ma mc s.rw) (hp : Ri w pa pc cs) (hi : I64 g) (h40 : s.rg.length ≤ 40) (h8 : ∀ l ∈ s.rg, l.length ≤ 8) :
    Calls Tryz.prog 16 #[.slice a l.length ca, .agg #[.slice ga s.rg.length gc, .slice ma s.rw.length mc], .int .i64 g, .slice pa cs.length pc] w fun e w' => e = .returned (.tuple #[.int .i64 (avN l s g cs), .int .i64 (avE l s g cs)]) ∧ Below w.heap.size w w' := by
 have kl := hl.lenB
 have k2 := hm.lenB
 have k3 := hp.lenB
 obtain ⟨W, hW, X1, hbW⟩ : ∃ W, W = w.alloc (.cells #[.slice ga s.rg.length gc, .slice ma s.rw.length mc] 26) ∧ Bk 26 W w.heap.size [.slice ga s.rg.length gc, .slice ma s.rw.length mc] ∧ Below w.heap.size w W := ⟨_, rfl, Bk.new _ _ _, bl1 _⟩
 obtain ⟨x0, x1, _⟩ := X1.two
 cases hgi : isG l.length g with
 | false =>
  have HA : Hid (_) := av_none (s := s) (cs := cs) (isG_none hgi)
  have h0 := gAt_none (isG_none hgi)
  clear hgi
  by_cases h1 : g < 0
  · have g1 : decide (g < 0) = true := decide_eq_true h1
    clear h0
    go_enter Tryz.func16, Tryz.ntmps16
    go_upto_region 1 with fail
    rw [← hW]; clear hW; go_wp2
    go_ret2
    exact ⟨by rw [HA.out.1, HA.out.2]; rfl, hbW⟩
  have g1 : decide (g < 0) = false := decide_eq_false h1
  have g2 : decide ((l.length : Int) ≤ g) = true := decide_eq_true (by omega)
  clear h0
  go_enter Tryz.func16, Tryz.ntmps16
  go_upto_region 1 with fail
  rw [← hW]; clear hW; go_wp2
  go_ret2
  exact ⟨by rw [HA.out.1, HA.out.2]; rfl, hbW⟩
 | true =>
  have HA : Hid (_) := av_some (s := s) (cs := cs) (isG_at hgi)
  obtain ⟨hg0, hg1⟩ := isG_some hgi
  obtain ⟨kg, rfl⟩ : ∃ k : Nat, g = (k : Int) := ⟨g.toNat, by omega⟩
  rw [Int.toNat_natCast] at HA
  have hkl : kg < l.length := by omega
  have g1 : decide ((kg : Int) < 0) = false := decide_eq_false (by omega)
  have g2 : decide ((l.length : Int) ≤ (kg : Int)) = false := decide_eq_false (by omega)
  have g3 : decide (l.length ≤ kg) = false := decide_eq_false (by omega)
  obtain ⟨b1, off, xa, xc, qa, qc, ta, tc, ea, hb1, hGC, c0, c1, c2, c3, c4, c5⟩ := hl.gl hbW kg hkl
  obtain ⟨x, hx⟩ : ∃ x, l.getD kg Gl.none = x := ⟨_, rfl⟩
  rw [hx] at hGC c3 c4 HA; subst ea
  have hro := fun U hU => sroundedS_any ga gc ma mc s x.ab x.ar pa pc cs U ((hg.below hbW).below hU) ((hm.below hbW).below hU) ((hp.below hbW).below hU) hGC.2.2.2.1 hGC.2.2.2.2 h40 h8
  generalize x.ab = xb at *
  generalize x.ar = xr at *
  have hX1l := X1.lt
  clear hgi hx c0 c1 c2 c5 hg hm hp hl hGC X1
  go_enter Tryz.func16, Tryz.ntmps16
  go_upto_region 1 with fail
  rw [← hW]; clear hW
  go_upto_region 3 with fail
  refine wp_region_held_drew (S := fun w9 => w9.cell? ⟨w.heap.size, 0, none⟩ = some (.slice ga s.rg.length gc) ∧ w9.cell? ⟨w.heap.size, 1, none⟩ = some (.slice ma s.rw.length mc) ∧ w9.cell? ⟨b1, off + kg * 6 + 3, none⟩ = some (.int .i64 xb) ∧ w9.cell? ⟨b1, off + kg * 6 + 4, none⟩ = some (.int .i64 xr)) (by kernel_rfl) ?_ (fun hHeld => ?_)
  · (try dsimp only)
    go_keep
  have hdr : Below W.heap.size W W.drew := Below.drew1
  have hro2 := hro _ hdr
  generalize W.drew = Z at hdr hHeld hro2 ⊢
  have hb1W : b1 < W.heap.size := Nat.lt_of_lt_of_le hb1 hbW.size
  replace x0 := (hdr.cell (p := ⟨w.heap.size, 0, none⟩) hX1l).trans x0
  replace x1 := (hdr.cell (p := ⟨w.heap.size, 1, none⟩) hX1l).trans x1
  replace c3 := (hdr.cell (p := ⟨b1, off + kg * 6 + 3, none⟩) hb1W).trans c3
  replace c4 := (hdr.cell (p := ⟨b1, off + kg * 6 + 4, none⟩) hb1W).trans c4
  replace hbW := hbW.trans (hdr.mono hbW.size)
  have hzs := hdr.size
  clear hdr hro; refine hT 0 hHeld ?_; refine hT 1 hHeld ?_; refine hT 2 hHeld ?_; refine hT 3 hHeld ?_; refine hT 4 hHeld ?_; refine hT 5 hHeld ?_; refine hT 6 hHeld ?_
  refine hCall (i := 7) rfl (by kernel_rfl) (by rfl) (fun K hK => ?_)
  go_simp
  refine hro2.mono ?_
  rintro e u ⟨rfl, hb⟩
  replace x0 := (hb.cell (p := ⟨w.heap.size, 0, none⟩) (by show w.heap.size < _; omega)).trans x0
  replace x1 := (hb.cell (p := ⟨w.heap.size, 1, none⟩) (by show w.heap.size < _; omega)).trans x1
  replace c3 := (hb.cell (p := ⟨b1, off + kg * 6 + 3, none⟩) (by show b1 < _; omega)).trans c3
  replace c4 := (hb.cell (p := ⟨b1, off + kg * 6 + 4, none⟩) (by show b1 < _; omega)).trans c4
  replace hbW := hbW.trans (hb.mono hbW.size)
  clear hb hro2
  go_wp2_with fail
  refine hK.out _ _ ?_ (fun hHeld => ?_)
  · (try dsimp only)
    exact ⟨x0, x1, c3, c4⟩
  clear hK K
  try simp only [Act.put, pZ]
  refine hT 8 hHeld ?_; refine hT 9 hHeld ?_; refine hT 10 hHeld ?_; refine hT 11 hHeld ?_
  refine wpAnyH_done (by kernel_rfl) ?_ _
  clear hHeld x0 x1 c3 c4; go_wp2
  go_ret2
  exact ⟨by rw [HA.out.1, HA.out.2]; rfl, hbW⟩
theorem wfo_i64_bounds {n : Int} (h : (Lit.int .i64 n).wf = true) : -9223372036854775808 ≤ n ∧ n ≤ 9223372036854775807 := by
 simp [Lit.wf, IntKind.min, IntKind.max, IntKind.bits, IntKind.signed] at h
 omega
open Go.ChangeShapes Go.WideShapes Go.Joins Go.Deep
def Opens {α : Type} (E : El α) (t : TypeId) : Prop :=
 Tryz.prog.cellsOf t = E.sz ∧ ∀ (H : Type) (enc : TypeId × Value → H) (W : World) (held : Bool) (fuel : Nat) (cs : List Value) (x : DataW H × List MemPlace),
  DataW.trod enc Tryz.prog W 0 (fun _ => true) held fuel t cs = some x → (∀ n ∈ x.1.weights Tryz.prog t, n ≤ reachBytes) → ∃ y : α, E.rep (fun k => k < W.heap.size) W cs y
theorem Opens.num {t : TypeId} {k : IntKind} {lo hi : Int} (ht : Tryz.prog.underlying t = some (.int k)) (hc : Tryz.prog.cellsOf t = 1) (hb : ∀ z, (Lit.int k z).wf = true → lo ≤ z ∧ z ≤ hi) : Opens (El.num k lo hi) t :=
 ⟨hc, fun H enc W held fuel cs x h hz => by
  obtain ⟨z, e, _, hw⟩ := DataW.trod_int ht h
  exact ⟨z, e, hb z hw⟩⟩
theorem Opens.int {t : TypeId} (ht : Tryz.prog.underlying t = some (.int .i64)) (hc : Tryz.prog.cellsOf t = 1) : Opens El.int t := Opens.num ht hc (fun z hw => wfo_i64_bounds hw)
theorem Opens.bool {t : TypeId} (ht : Tryz.prog.underlying t = some .bool) (hc : Tryz.prog.cellsOf t = 1) : Opens El.bool t :=
 ⟨hc, fun H enc W held fuel cs x h hz => by
  obtain ⟨z, e, _⟩ := DataW.trod_bool ht h
  exact ⟨z, e⟩⟩
theorem Opens.via {α β : Type} {E : El α} {t : TypeId} (h : Opens E t) {f : β → α} {d : β} (hf : ∀ x, ∃ y, f y = x) : Opens (E.via f d) t :=
 ⟨h.1, fun H enc W held fuel cs x h1 hz => by
  obtain ⟨z, hz⟩ := h.2 H enc W held fuel cs x h1 hz
  obtain ⟨y, rfl⟩ := hf z
  exact ⟨y, hz⟩⟩
theorem list_of_ltG {α : Type} {d : α} {p : Nat → α → Prop} : ∀ n, (∀ i, i < n → ∃ o, p i o) → ∃ os : List α, os.length = n ∧ ∀ i, i < n → p i (os.getD i d) := by
 intro n
 induction n with
 | zero => exact fun _ => ⟨[], rfl, fun i hi => by omega⟩
 | succ n ih =>
  intro h
  obtain ⟨os, hl, ho⟩ := ih (fun i hi => h i (by omega))
  obtain ⟨o, h1⟩ := h n (by omega)
  refine ⟨os ++ [o], by simp [hl], fun i hi => ?_⟩
  by_cases hi' : i < n
  · have e : (os ++ [o]).getD i d = os.getD i d := by simp [List.getD, List.getElem?_append_left (show i < os.length by omega)]
    rw [e]
    exact ho i hi'
  · have e : i = n := by omega
    subst e
    have e : (os ++ [o]).getD i d = o := by simp [List.getD, ← hl]
    rw [e]
    exact h1
theorem weights_all {H : Type} {P : Program} {e : TypeId} {d : DataW H} : ∀ {l : List (DataW H)}, d ∈ l → ∀ {n : Nat}, n ∈ d.weights P e → n ∈ DataW.weightsAll P e l
 | c :: l, h, n, hn => by
  rw [DataW.weightsAll, List.mem_append]
  rcases List.mem_cons.1 h with h | h
  · exact .inl (by rw [← h]; exact hn)
  · exact .inr (weights_all h hn)
theorem Opens.row {α : Type} {E : El α} {t e : TypeId} (h : Opens E e) (ht : Tryz.prog.underlying t = some (.slice e)) (hc : Tryz.prog.cellsOf t = 1) (hsz : 0 < E.sz) (hby : 1 ≤ Tryz.prog.bytesOf e) : Opens E.row t :=
 ⟨hc, fun H enc W held fuel cs x hf hz => by
  rcases open_slice ht hf with ⟨hcs, _⟩ | ⟨ad, len, cap, m, n, D, Pl, hcs, _, hl, hm, hmm, hx, hel⟩
  · exact ⟨[], none, 0, hcs, (fun b o e1 => by cases e1), Gr.nil _ _ _ _ _ (Nat.zero_le _) (fun _ => rfl), Nat.zero_le _⟩
  · have hle : len ≤ m := by rw [hmm]; split <;> omega
    subst hx
    have hzm : ∀ i, i < len → ∀ k ∈ (D i).weights Tryz.prog e, k ≤ reachBytes := by
     intro i hi k hk
     refine hz k ?_
     simp only [DataW.weights, ht, List.mem_cons, List.mem_append]
     exact .inr (.inl (weights_all (List.mem_map.2 ⟨i, List.mem_range.2 hi, rfl⟩) hk))
    have hzl : len ≤ 140737488351232 := by
     have h1 := hz ((((List.range len).map D).length + ((List.range (m - len)).map fun j => D (len + j)).length) * Tryz.prog.bytesOf e) (by simp only [DataW.weights, ht]; exact List.mem_cons_self)
     rw [List.length_map, List.length_map, List.length_range, List.length_range] at h1
     have h2 : (len + (m - len)) * 1 ≤ (len + (m - len)) * Tryz.prog.bytesOf e := Nat.mul_le_mul_left _ hby
     have h3 : reachBytes = 140737488351232 := rfl
     omega
    have hone : ∀ i, i < len → ∃ o : α, ∃ vs, E.rep (fun k => k < W.heap.size) W vs o ∧ ∀ j, j < E.sz → W.cell? ((ad.add (i * E.sz)).add j) = vs[j]? := by
     intro i hi
     obtain ⟨cs', hc', ht'⟩ := hel i (by omega)
     rw [h.1] at hc'
     obtain ⟨hlen, _, hcell⟩ := World.cells?_some hc'
     obtain ⟨o, ho⟩ := h.2 H enc W held n cs' _ ht' (hzm i hi)
     refine ⟨o, cs', ho, fun j hj => ?_⟩
     have := hcell j (by omega)
     rw [this, List.getElem?_eq_getElem (by omega)]
    obtain ⟨os, hol, ho⟩ := list_of_ltG (d := E.dfl) len hone
    have key : ∀ i, i < len → ∃ b off vs, ad = ⟨b, off, none⟩ ∧ b < W.heap.size ∧ E.rep (fun k => k < W.heap.size) W vs (os.getD i E.dfl) ∧ ∀ j, j < E.sz → W.cell? ⟨b, off + i * E.sz + j, none⟩ = vs[j]? := by
     intro i hi
     obtain ⟨vs, h1, h2⟩ := ho i hi
     obtain ⟨b, off, spot⟩ := ad
     have h0 := h2 0 hsz
     have hv : 0 < vs.length := by rw [E.len h1]; exact hsz
     rw [List.getElem?_eq_getElem hv] at h0
     have hspot : spot = none := by
      obtain ⟨vs', h1', h2'⟩ := ho 0 (by omega)
      have h0' := h2' 0 hsz
      rw [List.getElem?_eq_getElem (by rw [E.len h1']; exact hsz)] at h0'
      have := World.cell?_spot h0'
      simpa [Addr.add] using this
     subst hspot
     have hadd : ∀ i, (⟨b, off, none⟩ : Addr).add i = ⟨b, off + i, none⟩ := by intro i; unfold Addr.add; split <;> simp_all
     have hadd2 : ∀ i j, ((⟨b, off, none⟩ : Addr).add i).add j = ⟨b, off + i + j, none⟩ := by intro i j; rw [hadd]; unfold Addr.add; split <;> simp_all
     have hlt := World.block_lt_of_cell? W _ h0
     rw [hadd2] at hlt
     exact ⟨b, off, vs, rfl, hlt, h1, fun j hj => by rw [← hadd2]; exact h2 j hj⟩
    refine ⟨os, some ad, cap, by rw [hcs, hol], fun b o e1 hne => ?_, ⟨by omega, hm, (fun e => by cases e), fun i hi => ?_⟩, by rw [hol]; exact hzl⟩
    · obtain ⟨b', off', _, e2, hb', _⟩ := key 0 (by have := List.length_pos_iff.2 hne; omega)
      rw [e2] at e1
      cases e1
      exact hb'
    · obtain ⟨b, off, vs, e2, hb, h1, h2⟩ := key i (by omega)
      exact ⟨b, off, vs, by rw [e2], hb, h1, h2⟩⟩
def OpensF {α : Type} (E : El α) (fs : List Field) (off : Nat) : Prop :=
 ∀ (H : Type) (enc : TypeId × Value → H) (W : World) (held : Bool) (n : Nat) (cs : List Value), (∀ f ∈ fs, ∃ y, DataW.trod enc Tryz.prog W 0 (fun _ => true) held n f.type ((cs.drop f.offset).take (Tryz.prog.cellsOf f.type)) = some y ∧ ∀ k ∈ y.1.weights Tryz.prog f.type, k ≤ reachBytes) →
  ∃ x : α, E.rep (fun k => k < W.heap.size) W ((cs.drop off).take E.sz) x
theorem OpensF.last {α : Type} {E : El α} {f : Field} {off : Nat} (h : Opens E f.type) (ho : f.offset = off) : OpensF E [f] off := by
 intro H enc W held n cs hy
 obtain ⟨y, hy, hz⟩ := hy f (by simp)
 rw [h.1, ho] at hy
 exact h.2 H enc W held n _ y hy hz
theorem OpensF.more {α β : Type} {E : El α} {F : El β} {f : Field} {fs : List Field} {off : Nat} (h : Opens E f.type) (ho : f.offset = off) (hs : OpensF F fs (off + E.sz)) : OpensF (E.cat F) (f :: fs) off := by
 intro H enc W held n cs hy
 obtain ⟨y, hy0, hz0⟩ := hy f (by simp)
 rw [h.1, ho] at hy0
 obtain ⟨x, hx⟩ := h.2 H enc W held n _ y hy0 hz0
 obtain ⟨z, hz⟩ := hs H enc W held n cs (fun g hg => hy g (by simp [hg]))
 refine ⟨(x, z), (cs.drop off).take E.sz, (cs.drop (off + E.sz)).take F.sz, ?_, hx, hz⟩
 show (cs.drop off).take (E.sz + F.sz) = _
 rw [List.take_add, List.drop_drop]
theorem Opens.struct {α : Type} {E : El α} {t : TypeId} {fs : Array Field} (ht : Tryz.prog.underlying t = some (.struct fs)) (hc : Tryz.prog.cellsOf t = E.sz) (h : OpensF E fs.toList 0) : Opens E t :=
 ⟨hc, fun H enc W held fuel cs x hf hz => by
  obtain ⟨xs, n, _, hx, hl, hlen, hff⟩ := DataW.trod_struct ht hf
  subst hx
  obtain ⟨y, hy⟩ := h H enc W held n cs (fun f hf' => by
   obtain ⟨i, hi, e⟩ := List.getElem_of_mem hf'
   have := hff i f (by rw [← e]; simp)
   have hix : i < xs.length := by simpa [hlen] using hi
   rw [this]
   refine ⟨xs[i]'hix, by rw [List.getElem?_eq_getElem], fun k hk => hz k ?_⟩
   simp only [DataW.weights, ht]
   refine DataW.weights_mem_each (j := i) (t := f.type) (d := (xs[i]'hix).1) ?_ ?_ k hk
   · rw [List.getElem?_map, List.getElem?_eq_getElem hi, e]
     rfl
   · rw [List.getElem?_map, List.getElem?_eq_getElem hix]
     rfl)
  rw [List.drop_zero, List.take_of_length_le (by rw [hl, hc]; exact Nat.le_refl _)] at hy
  exact ⟨y, hy⟩⟩
theorem Opens.agg {α : Type} {E : El α} {t : TypeId} (h : Opens E t) {fs : Array Field} (ht : Tryz.prog.underlying t = some (.struct fs)) {H : Type} {enc : TypeId × Value → H} {W : World} {held : Bool} {r : Reach} {b0 : Nat} {v : Value} {d : DataW H} {p : List MemPlace}
    (hv : Value.okWide Tryz.prog W r b0 t v) (hd : DataW.Trod enc Tryz.prog W 0 (fun _ => true) held t v d p) (hz : ∀ n ∈ d.weights Tryz.prog t, n ≤ reachBytes) : ∃ (cs : Array Value) (y : α), v = .agg cs ∧ E.rep (fun k => k < W.heap.size) W cs.toList y := by
 obtain ⟨cs, rfl, hsz⟩ := okWide_struct ht hv
 obtain ⟨fuel, hf⟩ := hd
 obtain ⟨y, hy⟩ := h.2 H enc W held fuel _ _ hf hz
 exact ⟨cs, y, rfl, by simpa [Value.cells] using hy⟩
theorem Opens.cell {α : Type} {E : El α} {t : TypeId} (h : Opens E t) {H : Type} {enc : TypeId × Value → H} {W : World} {held : Bool} {v : Value} {d : DataW H} {p : List MemPlace}
    (hd : DataW.Trod enc Tryz.prog W 0 (fun _ => true) held t v d p) (hz : ∀ n ∈ d.weights Tryz.prog t, n ≤ reachBytes) (hone : v.cells = #[v]) : ∃ y : α, E.rep (fun k => k < W.heap.size) W [v] y := by
 obtain ⟨fuel, hf⟩ := hd
 obtain ⟨y, hy⟩ := h.2 H enc W held fuel _ _ hf hz
 exact ⟨y, by simpa [hone] using hy⟩
theorem opens_int : Opens El.int 3 := Opens.int Tryz.underlying3 (by kernel_rfl)
theorem opens_bool : Opens El.bool 4 := Opens.bool Tryz.underlying4 (by kernel_rfl)
theorem opens_pn : Opens PnE 65 :=
 (Opens.struct (E := El.int.cat (El.int.cat El.bool)) Tryz.underlying65 (by kernel_rfl) (OpensF.more opens_int rfl (OpensF.more opens_int rfl (OpensF.last opens_bool rfl)))).via (fun x => ⟨⟨x.1, x.2.1, x.2.2⟩, rfl⟩)
theorem opens_pa : Opens PaE 54 :=
 (Opens.struct (E := El.int.cat (El.int.cat El.int)) Tryz.underlying54 (by kernel_rfl) (OpensF.more opens_int rfl (OpensF.more opens_int rfl (OpensF.last opens_int rfl)))).via (fun x => ⟨⟨x.1, x.2.1, x.2.2⟩, rfl⟩)
theorem opens_pns : Opens PnE.row 63 := Opens.row opens_pn Tryz.underlying63 (by kernel_rfl) (by decide) (of_decide_eq_true (by kernel_rfl))
theorem opens_pnss : Opens PnE.row.row 37 := Opens.row opens_pns Tryz.underlying37 (by kernel_rfl) Nat.one_pos (of_decide_eq_true (by kernel_rfl))
theorem opens_pas : Opens PaE.row 55 := Opens.row opens_pa Tryz.underlying55 (by kernel_rfl) (by decide) (of_decide_eq_true (by kernel_rfl))
theorem opens_outline : Opens (PnE.row.row.cat PaE.row) 57 :=
 Opens.struct Tryz.underlying57 (by kernel_rfl) (OpensF.more opens_pnss rfl (OpensF.last opens_pas rfl))
theorem open_row {α : Type} {E : El α} {t : TypeId} (h : Opens E.row t) {H : Type} {enc : TypeId × Value → H} {W : World} {held : Bool} {a : Option Addr} {len cap : Nat} {d : DataW H} {p : List MemPlace}
    (hd : DataW.Trod enc Tryz.prog W 0 (fun _ => true) held t (.slice a len cap) d p) (hz : ∀ n ∈ d.weights Tryz.prog t, n ≤ reachBytes) : ∃ l : List α, len = l.length ∧ Gr E (fun k => k < W.heap.size) W a cap l := by
 obtain ⟨l, a', cap', e, _, hg, _⟩ := h.cell hd hz rfl
 simp at e
 obtain ⟨rfl, rfl, rfl⟩ := e
 exact ⟨l, rfl, hg⟩
theorem opens_is : Opens El.int.row 29 := Opens.row opens_int Tryz.underlying29 (by kernel_rfl) Nat.one_pos (of_decide_eq_true (by kernel_rfl))
theorem opens_te : Opens TeE 146 :=
 (Opens.struct (E := El.int.cat (El.int.cat El.int)) Tryz.underlying146 (by kernel_rfl) (OpensF.more opens_int rfl (OpensF.more opens_int rfl (OpensF.last opens_int rfl)))).via (fun x => ⟨⟨x.1, x.2.1, x.2.2⟩, rfl⟩)
theorem opens_tes : Opens TeE.row 116 := Opens.row opens_te Tryz.underlying116 (by kernel_rfl) (by decide) (of_decide_eq_true (by kernel_rfl))
theorem opens_tu : Opens TuE 144 :=
 (Opens.struct (E := TeE.row.cat (El.bool.cat (El.int.row.cat (El.int.row.cat El.int.row)))) Tryz.underlying144 (by kernel_rfl) (OpensF.more opens_tes rfl (OpensF.more opens_bool rfl (OpensF.more opens_is rfl (OpensF.more opens_is rfl (OpensF.last opens_is rfl)))))).via (fun x => ⟨⟨x.1, x.2.1, x.2.2.1, x.2.2.2.1, x.2.2.2.2⟩, rfl⟩)
theorem opens_tus : Opens TuE.row 58 := Opens.row opens_tu Tryz.underlying58 (by kernel_rfl) (by decide) (of_decide_eq_true (by kernel_rfl))
end Go.Proofs.YtkmcodofnckdmaaGreat
