/-
  foundryref18.Bake: the walk (written by mk_dr5.py).
  foundryref04.Same of any two: the walk.
-/
import Derived.Test.YtkbbdkecillnpaaGreatZY30
import Derived.Test.YtkbbdkecillnpaaGreatZY37
import Derived.Test.YtkbbdkecillnpaaGreatZY38
import Derived.Test.YtkbbdkecillnpaaGreatZY29
import Derived.Test.YtkbbdkecillnpaaGreatZY2
namespace Go.Proofs.YtkbbdkecillnpaaGreat
open Go.RowKit Go.Maps
set_option linter.unusedSimpArgs false
set_option linter.unusedVariables false

theorem erX_zero (R : Rd18) (m : List (List Sp)) : erL R (m ++ [[]]) = erL R m := by
  rw [erL_append, erL_one]
  split
  · next h => rw [h]; rfl
  · rfl
theorem erX_step {R : Rd18} {m : List (List Sp)} {d : List Sp} {j : Nat} (hj : j < d.length) : erL R (m ++ [d.take (j + 1)]) = if erL R (m ++ [d.take j]) = 0 then nuE R (d.getD j Sp.none).ar else erL R (m ++ [d.take j]) := by
  rw [erL_append, erL_append, erL_one, erL_one, take_snoc (d := Sp.none) hj, erD_append, erD_one]
  by_cases h1 : erL R m = 0
  · rw [if_pos h1, if_pos h1]
  · rw [if_neg h1, if_neg h1, if_neg h1]
theorem erX_end {R : Rd18} {l : List (List Sp)} {k : Nat} (hk : k < l.length) : erL R (l.take k ++ [l.getD k []]) = erL R (l.take (k + 1)) := by rw [take_snoc (d := []) hk]
theorem erX_low {R : Rd18} {m : List (List Sp)} {d : List Sp} (h : erL R (m ++ [d]) = 0) : erL R m = 0 := by
  rw [erL_append] at h
  by_cases h1 : erL R m = 0
  · exact h1
  · rw [if_neg h1] at h
    exact h
theorem Io.stayQ' {base : Nat} {w w' : World} {u : Value} {zs : List Int} (hi : Io base w u zs) (hk : ∀ g, u.ownBlock = some g → w'.heap[g]? = w.heap[g]?) : Io base w' u zs := by
  obtain ⟨h1, h3⟩ := hi
  refine ⟨h1, h3.1, ?_⟩
  rcases h3.2 with h0 | ⟨g, cap', cur, k1, k2, k3, k4⟩
  · exact .inl h0
  · exact .inr ⟨g, cap', cur, k1, k2, (hk g (by rw [k1]; rfl)).trans k3, k4⟩
theorem Gw.bel {α : Type} {E : El α} {t : TypeId} {base g : Nat} {w w' : World} {v : Value} {l : List α} (h : Gw E t base (fun q => base ≤ q ∧ q < g) w v l) (hb : Below g w w') (hv : ∀ q, v.ownBlock = some q → q < g) : Gw E t base (fun q => base ≤ q) w' v l := h.stay hb.size (fun k h1 _ _ => ⟨h1.1, hb.block k h1.2⟩) (fun k hk => hb.block k (hv k hk))
theorem Kp.fresh {B g : Nat} {a b c : World} (h : Kp B a b) (k : Kp g b c) (hg : a.heap.size ≤ g) : Kp B a c := Keep.trans h (Keep.mono k (fun i hi => ⟨Nat.lt_of_lt_of_le hi.1 h.size, by omega⟩))
/-- Numbers of a step, whatever error there is. -/
theorem snumX_any (S : Nat → Prop) (B : Nat) (w0 : World) (ga : Option Addr) (gc : Nat) (ma : Option Addr) (mc : Nat) (s : Sr) (pa : Option Addr) (pc : Nat) (cs : List Int) (d0 : Value) (x y st : Int) (v : Value) (er : Int) (sd : Int) (xa : Option Addr) (xc : Nat) (ar : List (Int × Int)) (w : World) (hx : Gr SlE S w0 xa xc ar) (hg : Tzz w0 ga gc s.rg) (hm : Rii w0 ma mc s.rw) (hp : Ri w0 pa pc cs) (hBe : w0.heap.size = B) (hB : Below B w0 w) (hP : Bk 66 w B (rC d0 (.slice ga s.rg.length gc) (.slice ma s.rw.length mc) (.slice pa cs.length pc) x y st v er)) (h40 : s.rg.length ≤ 40) (h8 : ∀ l ∈ s.rg, l.length ≤ 8) (h6 : ar.length ≤ 6) :
    Calls Tryz.prog 32 #[.pointer (some ⟨B, 0, none⟩), .agg #[.int .i64 sd, .slice xa ar.length xc]] w fun e w' => ∃ (L : List Int) (a' : Option Addr) (c' : Nat), e = .returned (.slice a' L.length c') ∧ Io w.heap.size w' (.slice a' L.length c') L ∧ Hid (er = 0 → nuE (RS s cs) ar = 0 → L = nuL (RS s cs) ar) ∧ L.length ≤ 6 ∧ Bk 66 w' B (rC d0 (.slice ga s.rg.length gc) (.slice ma s.rw.length mc) (.slice pa cs.length pc) x y st v (if er = 0 then nuE (RS s cs) ar else er)) ∧ Kp B w w' := by
  by_cases h : er = 0
  · subst h
    refine (snum0_any S B w0 ga gc ma mc s pa pc cs d0 x y st v sd xa xc ar w hx hg hm hp hBe hB hP h40 h8 h6).mono ?_
    rintro e w' ⟨L, a', c', rfl, h1, h2, h3, h4, h5⟩
    exact ⟨L, a', c', rfl, h1, fun _ => h2.out, h3, by rw [if_pos rfl]; exact h4, h5⟩
  · have hxl : ar.length ≤ 9223372036854775807 := by omega
    refine (snumE_any B d0 _ _ _ x y st v er sd xa ar.length xc w hP h hxl).mono ?_
    rintro e w' ⟨rfl, hb⟩
    exact ⟨[], none, 0, rfl, Io.nil _ _, fun h2 => absurd h2 h, Nat.zero_le _, by rw [if_neg h]; exact hP.below hb, Kp.of hb⟩

set_option maxHeartbeats 8000000 in
set_option maxRecDepth 100000 in
theorem sbakeD_any (S : Nat → Prop) (a : Option Addr) (ca : Nat) (l : List (List Sp)) (ga : Option Addr) (gc : Nat) (ma : Option Addr) (mc : Nat) (s : Sr) (pa : Option Addr) (pc : Nat) (cs : List Int) (w : World) (hl : Gr SpE.row S w a ca l) (hg : Tzz w ga gc s.rg) (hm : Rii w ma mc s.rw) (hp : Ri w pa pc cs) (h40 : s.rg.length ≤ 40) (h8 : ∀ l ∈ s.rg, l.length ≤ 8) :
    Calls Tryz.prog 14 #[.slice a l.length ca, .agg #[.slice ga s.rg.length gc, .slice ma s.rw.length mc], .slice pa cs.length pc] w fun e w' => ∃ a' c', e = .returned (.tuple #[.slice a' (baL (fiS s) (RS s cs) l).length c', .int .i64 (baE (fiS s) (RS s cs) l)]) ∧ Gr SpE.row (fun k => w.heap.size ≤ k) w' a' c' (baL (fiS s) (RS s cs) l) ∧ Below w.heap.size w w' := by
  have kl := hl.lenB
  have k2 := hm.lenB
  have k3 := hg.lenB
  have k4 := hp.lenB
  obtain ⟨W, hW, X1, hbW⟩ : ∃ W, W = w.alloc (.cells #[.slice ga s.rg.length gc, .slice ma s.rw.length mc] 26) ∧ Bk 26 W w.heap.size [.slice ga s.rg.length gc, .slice ma s.rw.length mc] ∧ Below w.heap.size w W := ⟨_, rfl, Bk.new _ _ _, bl1 _⟩
  obtain ⟨p0, p1, -⟩ := X1.two
  have hfo := sformD_any S a ca l ga gc ma mc s W (hl.below hbW) k2 k3
  go_enter Tryz.func14, Tryz.ntmps14
  go_upto_region 1 with fail
  rw [← hW]
  clear hW
  cases hf : foD (fiS s) l with
  | false =>
    rw [hf] at hfo
    have HF : Hid (_) := ba_no (R := RS s cs) hf
    clear hf
    go_wp2_with fail
    refine hfo.mono ?_
    rintro e u1 ⟨rfl, hb⟩
    have hfin := hbW.trans (hb.mono hbW.size)
    clear hfo hb p0 p1
    go_wp2
    go_ret2
    exact ⟨none, 0, by rw [HF.out.1, HF.out.2]; rfl, by rw [HF.out.2]; exact Gr.nil _ _ _ _ _ (Nat.zero_le _) (fun _ => rfl), hfin⟩
  | true =>
  rw [hf] at hfo
  have HFO : Hid (foD (fiS s) l = true) := hf
  have hl20 := (foD_iff.1 hf).1
  have HDR : Hid (_) := (foD_iff.1 hf).2
  clear hf
  go_wp2_with fail
  refine hfo.mono ?_
  rintro e u1 ⟨rfl, hb⟩
  replace X1 := X1.below hb
  replace hbW := hbW.trans (hb.mono hbW.size)
  have HL : Hid (Gr SpE.row S u1 a ca l) := hl.below hbW
  have HG : Hid (Tzz u1 ga gc s.rg) := hg.below hbW
  have HM : Hid (Rii u1 ma mc s.rw) := hm.below hbW
  have HP : Hid (Ri u1 pa pc cs) := hp.below hbW
  have HBW : Hid (Below w.heap.size w u1) := hbW
  clear hfo hb p0 p1 hl hg hm hp hbW
  obtain ⟨p0, p1, -⟩ := X1.two
  obtain ⟨V, hV, hP0, hbv⟩ : ∃ V, V = u1.alloc (.cells #[.slice none 0 0, .slice ga s.rg.length gc, .slice ma s.rw.length mc, .slice pa cs.length pc, .int .i64 0, .int .i64 0, .int .i64 0, .slice none 0 0, .int .i64 0] 66) ∧ Bk 66 V u1.heap.size (rC (.slice none 0 0) (.slice ga s.rg.length gc) (.slice ma s.rw.length mc) (.slice pa cs.length pc) 0 0 0 (.slice none 0 0) 0) ∧ Below u1.heap.size u1 V := ⟨_, rfl, Bk.new _ _ _, bl1 _⟩
  obtain ⟨B, hBe⟩ : ∃ B, u1.heap.size = B := ⟨_, rfl⟩
  have HBE : Hid (u1.heap.size = B) := hBe
  go_upto_region 4 with fail
  rw [← hV]
  rw [hBe] at hP0 hbv
  try rw [hBe]
  clear hV hBe p0 p1 X1
  go_wp2
  go_loopw [9, 10] (fun v i wr => ∃ (k : Nat) (G : List (List Sp)), k ≤ l.length ∧ i = .int .i64 (k : Int) ∧ Gw SpE.row 52 (B + 1) (fun q => B + 1 ≤ q) wr v G ∧ Hid (G.length = k) ∧ Hid (erL (RS s cs) (l.take k) = 0 → G = baD (RS s cs) (l.take k)) ∧ Bk 66 wr B (rC (.slice none 0 0) (.slice ga s.rg.length gc) (.slice ma s.rw.length mc) (.slice pa cs.length pc) 0 0 0 (.slice none 0 0) (erL (RS s cs) (l.take k))) ∧ Below B u1 wr) (fun _ i _ => l.length - (intOf i).toNat)
  case atStart => exact ⟨0, [], Nat.zero_le _, rfl, Gw.nil _ _ _ _ _, rfl, fun _ => rfl, hP0, hbv⟩
  case round =>
    clear hP0 hbv
    obtain ⟨k, G, hk, rfl, hGw, HGL, HGE, hP, hB⟩ := hrel
    obtain ⟨a6, q6, e6, hgr6, hb6⟩ := hGw.slice
    subst e6
    have hBl : B < wr.heap.size := hP.lt
    by_cases hkn : k < l.length
    rotate_left
    · have hkk : k = l.length := by omega
      subst hkk
      have g4 : ¬ (l.length : Int) < (l.length : Int) := by omega
      rw [List.take_length] at hP HGE
      have t8 : wr.cell? ⟨B, 8, none⟩ = some (.int .i64 (erL (RS s cs) l)) := hP.cell 8 (by show 8 < 9; omega)
      have HGR : Hid (Gr SpE.row (fun q => w.heap.size ≤ q) wr a6 q6 G) := hgr6.wide (fun q h1 _ => by have := HBW.out.size; have := HBE.out; omega)
      have HFIN : Hid (Below w.heap.size w wr) := HBW.out.trans (hB.mono (by have := HBW.out.size; have := HBE.out; omega))
      have hbs : Hid (w.heap.size ≤ wr.heap.size) := HFIN.out.size
      by_cases hz : erL (RS s cs) l = 0
      rotate_left
      · have g6 : (erL (RS s cs) l != 0) = true := bne_iff_ne.2 hz
        have HF : Hid (_) := ba_err HFO.out hz (rfl : erL (RS s cs) l = erL (RS s cs) l)
        generalize erL (RS s cs) l = ze at *
        clear hGw hgr6 hb6 hP hB hz hkn
        go_upto_region 21 with fail
        refine wp_region_held_drew (S := fun w9 => w9.cell? ⟨B, 8, none⟩ = some (.int .i64 ze)) (by kernel_rfl) ?_ (fun hHeld => ?_)
        · (try dsimp only)
          go_keep
        have hdr : Below wr.heap.size wr wr.drew := Below.drew1
        generalize wr.drew = Z at hdr hHeld ⊢
        have HF3 : Hid (Below w.heap.size w Z) := HFIN.out.trans (hdr.mono hbs.out)
        clear hdr t8
        refine hT 0 hHeld ?_
        refine hT 1 hHeld ?_
        refine hT 2 hHeld ?_
        refine hT 3 hHeld ?_
        refine hT 4 hHeld ?_
        refine hT 5 hHeld ?_
        refine wpAnyH_done (by kernel_rfl) ?_ _
        clear hHeld
        go_wp2
        go_ret2
        exact ⟨none, 0, by rw [HF.out.1, HF.out.2]; rfl, by rw [HF.out.2]; exact Gr.nil _ _ _ _ _ (Nat.zero_le _) (fun _ => rfl), HF3.out⟩
      have HF : Hid (_) := ba_yes HFO.out hz
      have HGB : Hid (G = baD (RS s cs) l) := HGE.out hz
      rw [hz] at t8
      clear hGw hgr6 hb6 hP hB hz hkn HGE
      go_wp2
      go_ret2
      exact ⟨a6, q6, by rw [HF.out.1, HF.out.2, ← HGB.out]; rfl, by rw [HF.out.2, ← HGB.out]; exact HGR.out, HFIN.out⟩
    have g2 : (k : Int) < (l.length : Int) := by omega
    have hB0 : Below u1.heap.size u1 wr := by rw [HBE.out]; exact hB
    obtain ⟨b1, off, a1, c1, ea, hb1, c0, hd, hdl, -⟩ := HL.out.rw (Below.refl _ _) k hkn
    have HC0 : Hid (∀ U, Below u1.heap.size u1 U → U.cell? ⟨b1, off + k, none⟩ = some (.slice a1 (l.getD k []).length c1)) := fun U hU => (hU.cell (p := ⟨b1, off + k, none⟩) hb1).trans c0
    have HBT : Hid (_) := baD_take (R := RS s cs) hkn
    have HEE : Hid (_) := erX_end (R := RS s cs) hkn
    obtain ⟨hd60, hspf⟩ := drF_iff.1 (HDR.out k hkn)
    have HSPF : Hid (_) := hspf
    obtain ⟨d, hdd⟩ : ∃ d, l.getD k [] = d := ⟨_, rfl⟩
    rw [hdd] at HC0 hd hdl HBT HEE hd60 HSPF
    have HOW : Hid (∀ q, (Value.slice a6 G.length q6).ownBlock = some q → B + 1 ≤ q ∧ q < wr.heap.size) := fun q e => hGw.lo e
    have HGW : Hid (Gw SpE.row 52 (B + 1) (fun q => B + 1 ≤ q) wr (.slice a6 G.length q6) G) := hGw
    have HD : Hid (Gr SpE S u1 a1 c1 d) := hd
    have HB : Hid (Below B u1 wr) := hB
    subst ea
    have i1 : (0 : Int) ≤ (k : Int) := by omega
    have hdlen := HD.out.lenB
    rw [← erX_zero] at hP
    obtain ⟨M, hM⟩ : ∃ M, l.take k = M := ⟨_, rfl⟩
    rw [hM] at hP HGE HBT HEE
    obtain ⟨wq, hwq⟩ : ∃ u, u = wr := ⟨_, rfl⟩
    rw [← hwq] at HOW HGW HB hP hBl ⊢
    obtain ⟨g1, hg1⟩ : ∃ g, wq.heap.size = g := ⟨_, rfl⟩
    have HG1 : Hid (wq.heap.size = g1) := hg1
    rw [hg1] at hBl
    clear hspf hd hB hwq hdd hM hGw hgr6 hb6 hB0 hg1 c0
    go_wp2
    go_loopw [11, 12] (fun v i wr => ∃ (j : Nat) (D : List Sp), j ≤ d.length ∧ i = .int .i64 (j : Int) ∧ Gw SpE 50 g1 (fun q => g1 ≤ q) wr v D ∧ Hid (D.length = j) ∧ Hid (erL (RS s cs) (M ++ [d.take j]) = 0 → D = baW (RS s cs) (d.take j)) ∧ Bk 66 wr B (rC (.slice none 0 0) (.slice ga s.rg.length gc) (.slice ma s.rw.length mc) (.slice pa cs.length pc) 0 0 0 (.slice none 0 0) (erL (RS s cs) (M ++ [d.take j]))) ∧ Kp B wq wr) (fun _ i _ => d.length - (intOf i).toNat)
    case atStart => exact ⟨0, [], Nat.zero_le _, rfl, Gw.nil _ _ _ _ _, rfl, fun _ => rfl, hP, Kp.refl _ _⟩
    case round =>
      clear hP
      obtain ⟨j, D, hj, rfl, hGj, HDL, HDE, hP, hK⟩ := hrel
      obtain ⟨a7, q7, e7, hgr7, hb7⟩ := hGj.slice
      subst e7
      have hBu : Below B u1 wr := HB.out.trans (hK.below (by have := HG1.out; omega) (Nat.le_refl _))
      have c0 := HC0.out wr (by rw [HBE.out]; exact hBu)
      have hKs := hK.size
      by_cases hjn : j < d.length
      rotate_left
      · have hjj : j = d.length := by omega
        subst hjj
        have g4 : ¬ (d.length : Int) < (d.length : Int) := by omega
        rw [List.take_length] at hP HDE
        rw [HEE.out] at hP HDE
        obtain ⟨V9, hV9, Y9, hb9⟩ : ∃ V, V = wr.alloc (.cells #[.slice a7 D.length q7] 52) ∧ Bk 52 V wr.heap.size [.slice a7 D.length q7] ∧ Below wr.heap.size wr V := ⟨_, rfl, Bk.new _ _ _, bl1 _⟩
        have hGb := (HGW.out.kpS (Nat.lt_succ_self _) hK).below hb9
        have hrep : SpE.row.rep (fun q => B + 1 ≤ q ∧ (Value.slice a6 G.length q6).ownBlock ≠ some q) V9 [.slice a7 D.length q7] D := by
          have hS : ∀ q, g1 ≤ q → B + 1 ≤ q ∧ (Value.slice a6 G.length q6).ownBlock ≠ some q := fun q h1 => ⟨by omega, fun e => by have h2 := (HOW.out q e).2; have h3 := HG1.out; omega⟩
          refine ⟨a7, q7, rfl, fun b o e _ => hS b (hb7 b o e).1, (hgr7.below hb9).wide (fun q h1 _ => hS q h1), by rw [HDL.out]; omega⟩
        have hone := Gr.one (E := SpE.row) hrep Y9.lt (fun j hj => Y9.cell j hj)
        have hP9 := hP.below hb9
        have hBb : Below B u1 V9 := hBu.trans (hb9.mono (by have := HG1.out; omega))
        have hs9 := hb9.size
        have hbs : B + 1 ≤ V9.heap.size := by have := HG1.out; omega
        have hll : G.length + 1 ≤ 1000000 := by rw [HGL.out]; omega
        have HLK : Hid ((G ++ [D]).length = k + 1) := by show _ = _; rw [List.length_append, HGL.out]; rfl
        have HGK : Hid (erL (RS s cs) (l.take (k + 1)) = 0 → G ++ [D] = baD (RS s cs) (l.take (k + 1))) := fun h => by
          have h2 : erL (RS s cs) M = 0 := erX_low (by rw [HEE.out]; exact h)
          rw [HBT.out, HGE.out h2, HDE.out h]
        have hd60' : D.length ≤ 60 := by rw [HDL.out]; exact hd60
        clear hrep hGj hgr7 hb7 hP hK hjn hBu
        go_wp2_with (at_builtin; rw [← hV9]; refine wpList_append_el (E := SpE.row) 22 52 Tryz.underlying22 info_ssD rfl (by decide) (by decide) rfl _ _ rfl (B + 1) (fun q => B + 1 ≤ q) _ G rfl hGb (some ⟨wr.heap.size, 0, none⟩) 1 1 [D] rfl rfl hone hll hbs ?_)
        intro v9 w9 hT9 hgrow _
        rw [← hV9] at hgrow
        have hnB : (Value.slice a6 G.length q6).ownBlock ≠ some B := fun e => by have := (HOW.out B e).1; omega
        have hP10 := hP9.grown hgrow hnB
        have hB9 : Below B u1 w9 := hBb.grown hgrow (by omega) (fun q hq => by have := (HOW.out q hq).1; omega)
        clear hgrow hGb hone hbs hll hBb hV9 Y9 hb9 hP9 hnB
        go_wp2
        go_roundw
        case rel => exact ⟨k + 1, G ++ [D], by omega, by go_num, hT9, HLK, HGK, hP10, hB9⟩
        case measure => simp [intOf]; omega
      have g3 : (j : Int) < (d.length : Int) := by omega
      have hBu0 : Below u1.heap.size u1 wr := by rw [HBE.out]; exact hBu
      obtain ⟨b2, of2, a2, c2, ea2, hb2, hI, e0, e1, hsl, -⟩ := HD.out.sp (Below.refl _ _) j hjn
      have HD0 : Hid (∀ U, Below u1.heap.size u1 U → U.cell? ⟨b2, of2 + j * 2, none⟩ = some (.int .i64 (d.getD j Sp.none).d) ∧ U.cell? ⟨b2, of2 + j * 2 + 1, none⟩ = some (.slice a2 (d.getD j Sp.none).ar.length c2)) := fun U hU => ⟨(hU.cell (p := ⟨b2, of2 + j * 2, none⟩) hb2).trans e0, (hU.cell (p := ⟨b2, of2 + j * 2 + 1, none⟩) hb2).trans e1⟩
      have HSP : Hid (_) := HSPF.out j hjn
      have HWT : Hid (_) := baW_take (R := RS s cs) hjn
      have HXS : Hid (_) := erX_step (R := RS s cs) (m := M) hjn
      obtain ⟨x, hx⟩ : ∃ x, d.getD j Sp.none = x := ⟨_, rfl⟩
      rw [hx] at hI HD0 hsl HSP HWT HXS
      have h6 : x.ar.length ≤ 6 := by have h1 := (spF_iff.1 HSP.out).1; have h2 := arD_in x.d; omega
      obtain ⟨d0, d1⟩ := HD0.out wr hBu0
      obtain ⟨er, her⟩ : ∃ z, erL (RS s cs) (M ++ [d.take j]) = z := ⟨_, rfl⟩
      have HER : Hid (erL (RS s cs) (M ++ [d.take j]) = er) := her
      rw [her] at hP HDE HXS
      have hnu := snumX_any S B u1 ga gc ma mc s pa pc cs (.slice none 0 0) 0 0 0 (.slice none 0 0) er x.d a2 c2 x.ar wr hsl HG.out HM.out HP.out HBE.out hBu hP h40 h8 h6
      rw [← HXS.out] at hnu
      have kx := hsl.lenB
      have HOJ : Hid (∀ q, (Value.slice a7 D.length q7).ownBlock = some q → g1 ≤ q ∧ q < wr.heap.size) := fun q e => hGj.lo e
      subst ea2
      have i3 : (0 : Int) ≤ (j : Int) := by omega
      have hg1w : g1 ≤ wr.heap.size := by have := HG1.out; omega
      clear hx her hgr7 hb7 e0 e1 hsl hP hBu0
      go_wp2_with fail
      refine hnu.mono ?_
      rintro e u4 ⟨L, na, nc, rfl, hIo, HL4, hL6, hP, hk4⟩
      have hs4 := hk4.size
      have hGj4 := hGj.kpS (g := B) (by omega) hk4
      have hK4 := hK.trans hk4
      have hB4 : Below B u1 u4 := HB.out.trans (hK4.below (by have := HG1.out; omega) (Nat.le_refl _))
      have hB40 : Below u1.heap.size u1 u4 := by rw [HBE.out]; exact hB4
      obtain ⟨d0, d1⟩ := HD0.out u4 hB40
      have c0 := HC0.out u4 hB40
      obtain ⟨U, hU, XX, hbU⟩ : ∃ U, U = u4.alloc (.cells #[.int .i64 x.d, .slice none 0 0] 50) ∧ Bk 50 U u4.heap.size [.int .i64 x.d, .slice none 0 0] ∧ Below u4.heap.size u4 U := ⟨_, rfl, Bk.new _ _ _, bl1 _⟩
      obtain ⟨gx, hgx⟩ : ∃ n, u4.heap.size = n := ⟨_, rfl⟩
      have HGX : Hid (u4.heap.size = gx) := hgx
      rw [hgx] at XX
      have HPU := hP.below hbU
      have hIU := hIo.below hbU
      have hGU : Gw SpE 50 g1 (fun q => g1 ≤ q ∧ q < gx) U (.slice a7 D.length q7) D := hGj4.stay hbU.size (fun q h1 _ h3 => ⟨⟨h1, by omega⟩, hbU.block q h3⟩) (fun q hv => hbU.block q (hGj4.lo hv).2)
      have HUS : Hid (U.heap.size = gx + 1) := by show _ = _; rw [hU, ← hgx]; simp
      have HNL : Hid (∀ q, (Value.slice na L.length nc).ownBlock = some q → q < gx) := fun q hq => by have := (hIo.growQ hq).2; omega
      have HKU : Hid (Kp B wq U) := hK4.trans (Kp.of hbU)
      have HGJU : Hid (Gw SpE 50 g1 (fun q => g1 ≤ q ∧ q < gx) U (.slice a7 D.length q7) D) := hGU
      have HPUH : Hid (Bk 66 U B (rC (.slice none 0 0) (.slice ga s.rg.length gc) (.slice ma s.rw.length mc) (.slice pa cs.length pc) 0 0 0 (.slice none 0 0) (erL (RS s cs) (M ++ [d.take (j + 1)])))) := HPU
      have HIU : Hid (Io wr.heap.size U (.slice na L.length nc) L) := hIU
      have hgxl : gx < U.heap.size := XX.lt
      have hwgx : wr.heap.size ≤ gx := by omega
      clear hnu hIo hP hk4 hGj4 hK4 hB4 hB40 HPU hIU hGU hGj hK hBu
      go_upto_region 14 with fail
      rw [← hU]
      try rw [hgx]
      clear hU hgx d0 d1 c0 hbU
      go_wp2
      go_loopw [15] (fun i wr => ∃ (mm : Nat) (va : Value), mm ≤ L.length ∧ i = .int .i64 (mm : Int) ∧ Bk 50 wr gx [.int .i64 x.d, va] ∧ Gw SlE 79 (gx + 1) (fun _ => False) wr va (fxS (L.take mm)) ∧ Kp gx U wr) (fun i _ => L.length - (intOf i).toNat)
      case atStart => exact ⟨0, _, Nat.zero_le _, rfl, XX, Gw.nil _ _ _ _ _, Kp.refl _ _⟩
      case round =>
        clear XX
        obtain ⟨mm, va, hmm, rfl, hX, hGs, hKx⟩ := hrel
        have hxs := hKx.size
        by_cases hmn : mm < L.length
        rotate_left
        · have hjj : mm = L.length := by omega
          subst hjj
          have g5 : ¬ (L.length : Int) < (L.length : Int) := by omega
          rw [List.take_length] at hGs
          obtain ⟨a5, c5, e5, hrep5⟩ := step_rep (S := fun q => g1 ≤ q ∧ (Value.slice a7 D.length q7).ownBlock ≠ some q) (d := x.d) hGs hI (fun q h1 _ => ⟨by omega, fun e => by have := (HOJ.out q e).2; omega⟩) (by rw [fxS_len]; omega)
          subst e5
          have HST : Hid (erL (RS s cs) (M ++ [d.take (j + 1)]) = 0 → (⟨x.d, fxS L⟩ : Sp) = baP (RS s cs) x) := fun h => by
            rw [HXS.out] at h
            by_cases h1 : er = 0
            · rw [if_pos h1] at h
              rw [HL4.out h1 h, fxS_ba]
              rfl
            · rw [if_neg h1] at h
              exact absurd h h1
          have HEZ : Hid (erL (RS s cs) (M ++ [d.take (j + 1)]) = 0 → er = 0) := fun h => by
            rw [HXS.out] at h
            by_cases h1 : er = 0
            · exact h1
            · rw [if_neg h1] at h
              exact h
          obtain ⟨bn, hbn⟩ : ∃ n, (fxS L).length = n := ⟨_, rfl⟩
          have hbn6 : bn ≤ 6 := by rw [← hbn, fxS_len]; exact hL6
          rw [hbn] at hX hrep5
          clear hbn hGs
          obtain ⟨q0, q1, -⟩ := hX.two
          obtain ⟨V9, hV9, Y9, hb9⟩ : ∃ V, V = wr.alloc (.cells #[.int .i64 x.d, .slice a5 bn c5] 50) ∧ Bk 50 V wr.heap.size [.int .i64 x.d, .slice a5 bn c5] ∧ Below wr.heap.size wr V := ⟨_, rfl, Bk.new _ _ _, bl1 _⟩
          have hone := Gr.one (E := SpE) (SpE.stay hrep5 hb9.size (fun k hk hl => ⟨hk, hb9.block k hl⟩)) Y9.lt (fun j hj => Y9.cell j hj)
          have hbl : Below gx U wr := hKx.below (by omega) (Nat.le_refl _)
          have hGb : Gw SpE 50 g1 (fun q => g1 ≤ q) V9 (.slice a7 D.length q7) D := (HGJU.out.bel hbl (fun q hq => by have := (HOJ.out q hq).2; omega)).below hb9
          have hPr : Bk 66 wr B (rC (.slice none 0 0) (.slice ga s.rg.length gc) (.slice ma s.rw.length mc) (.slice pa cs.length pc) 0 0 0 (.slice none 0 0) (erL (RS s cs) (M ++ [d.take (j + 1)]))) := (hbl.block B (by omega)).trans HPUH.out
          have hP9 := hPr.below hb9
          have hKq : Kp B wq V9 := (HKU.out.fresh hKx (by have := HG1.out; omega)).trans (Kp.of hb9)
          have hs9 := hb9.size
          have hbs : g1 ≤ V9.heap.size := by omega
          have hll : D.length + 1 ≤ 1000000 := by rw [HDL.out]; omega
          have HLK : Hid ((D ++ [(⟨x.d, fxS L⟩ : Sp)]).length = j + 1) := by show _ = _; rw [List.length_append, HDL.out]; rfl
          have HDK : Hid (erL (RS s cs) (M ++ [d.take (j + 1)]) = 0 → D ++ [(⟨x.d, fxS L⟩ : Sp)] = baW (RS s cs) (d.take (j + 1))) := fun h => by rw [HWT.out, HST.out h, HDE.out (HEZ.out h)]
          clear hrep5 hX hKx hbl hPr hmn
          go_wp2_with (at_builtin; rw [← hV9]; refine wpList_append_el (E := SpE) 52 50 Tryz.underlying52 info_stD rfl (by decide) (by decide) rfl _ _ rfl g1 (fun q => g1 ≤ q) _ D rfl hGb (some ⟨wr.heap.size, 0, none⟩) 1 1 [⟨x.d, fxS L⟩] rfl rfl hone hll hbs ?_)
          intro v9 w9 hT9 hgrow _
          rw [← hV9] at hgrow
          have hnB : (Value.slice a7 D.length q7).ownBlock ≠ some B := fun e => by have := (HOJ.out B e).1; omega
          have hP10 := hP9.grown hgrow hnB
          have hK10 := hKq.grown hgrow (fun q hq => by have := (HOJ.out q hq).1; have := HG1.out; omega)
          clear hgrow hGb hone hbs hll hV9 Y9 hb9 hP9 hnB hKq hs9 q0 q1
          go_wp2
          go_roundw
          case rel => exact ⟨j + 1, D ++ [⟨x.d, fxS L⟩], by omega, by go_num, hT9, HLK, HDK, hP10, hK10⟩
          case measure => simp [intOf]; omega
        have g5 : (mm : Int) < (L.length : Int) := by omega
        have i5 : (0 : Int) ≤ (mm : Int) := by omega
        have hbl : Below gx U wr := hKx.below (by omega) (Nat.le_refl _)
        have hIr : Io _ wr (.slice na L.length nc) L := HIU.out.stayQ' (fun g hg => hbl.block g (HNL.out g hg))
        obtain ⟨na', nc', en, hri, -⟩ := hIr.loQ
        injection en with en1 en2 en3
        subst en1 en3
        obtain ⟨nb, no, ena, hnb, n0⟩ := hri.at (Below.refl _ _) mm hmn
        have hz64 : I64 (L.getD mm 0) := hri.i64 hmn
        have HSC : Hid (_) := fxS_take hmn
        have HLA : Hid ((fxS (L.take mm)).length ≤ 6) := by show _ ≤ 6; rw [fxS_len, List.length_take]; omega
        generalize L.getD mm 0 = z at *
        subst ena
        have hngx : nb ≠ gx := by have := HNL.out nb rfl; omega
        obtain ⟨A, hA⟩ : ∃ A, fxS (L.take mm) = A := ⟨_, rfl⟩
        rw [hA] at hGs HSC HLA
        obtain ⟨a5, c5, e5, -, -⟩ := hGs.slice
        subst e5
        obtain ⟨x0, x1, -⟩ := hX.two
        have HOA : Hid (∀ q, (Value.slice a5 A.length c5).ownBlock = some q → gx + 1 ≤ q ∧ q < wr.heap.size) := fun q e => hGs.lo e
        clear hIr hri hA en2 hbl
        go_upto_region 17 with fail
        refine wp_region_held_drew (S := fun w9 => w9.cell? ⟨nb, no + mm, none⟩ = some (.int .i64 z)) (by kernel_rfl) ?_ (fun hHeld => ?_)
        · (try dsimp only)
          go_keep
        have hdr : Below wr.heap.size wr wr.drew := Below.drew1
        generalize wr.drew = Z at hdr hHeld ⊢
        replace hX := hX.below hdr
        replace hGs := hGs.below hdr
        replace hKx := hKx.trans (Kp.of hdr)
        have hnbZ : nb < Z.heap.size := Nat.lt_of_lt_of_le hnb hdr.size
        replace x1 := (hdr.cell (p := ⟨gx, 1, none⟩) (by show gx < _; omega)).trans x1
        have hzs := hdr.size
        clear hdr n0 x0
        obtain ⟨V, hV, Y9, hbV⟩ : ∃ V, V = Z.alloc (.cells #[.int .i64 z, .int .i64 (-1)] 79) ∧ Bk 79 V Z.heap.size [.int .i64 z, .int .i64 (-1)] ∧ Below Z.heap.size Z V := ⟨_, rfl, Bk.new _ _ _, bl1 _⟩
        have x1V := (hbV.cell (p := ⟨gx, 1, none⟩) (by show gx < _; omega)).trans x1
        refine hT 0 hHeld ?_
        refine hT 2 hHeld ?_
        refine hT 3 hHeld ?_
        refine hT 4 hHeld ?_
        refine hT 5 hHeld ?_
        refine hT 6 hHeld ?_
        refine wpAnyH_ready (rs := [1, 7]) (by kernel_rfl) (by simp) (hCons (i := 1) rfl (by rfl) (fun K hK => ?_) (hCons (i := 7) rfl (by rfl) (fun K hK => ?_) AllReadyH.nil))
        go_simp
        refine hK.out _ _ ?_ (fun hHeld => ?_)
        · (try dsimp only)
          exact hHeld
        clear hK K
        try simp only [Act.put, List.setIfInBounds_toArray, List.set_cons_zero, List.set_cons_succ]
        refine hCall (i := 7) rfl (by kernel_rfl) (by rfl) (fun K hK => ?_)
        go_simp
        rw [← hV]
        clear hV
        refine hK.out _ _ ?_ (fun hHeld => ?_)
        · (try dsimp only)
          exact (hbV.cell (p := ⟨nb, no + mm, none⟩) hnbZ).trans hHeld
        clear hK K
        try simp only [Act.put, List.setIfInBounds_toArray, List.set_cons_zero, List.set_cons_succ]
        rotate_left
        go_simp
        rw [← hV]
        clear hV
        refine hK.out _ _ ?_ (fun hHeld => ?_)
        · (try dsimp only)
          exact (hbV.cell (p := ⟨nb, no + mm, none⟩) hnbZ).trans hHeld
        clear hK K
        try simp only [Act.put, List.setIfInBounds_toArray, List.set_cons_zero, List.set_cons_succ]
        refine hCall (i := 1) rfl (by kernel_rfl) (by rfl) (fun K hK => ?_)
        go_simp
        refine hK.out _ _ ?_ (fun hHeld => ?_)
        · (try dsimp only)
          exact hHeld
        clear hK K
        try simp only [Act.put, List.setIfInBounds_toArray, List.set_cons_zero, List.set_cons_succ]
        all_goals
          have hGb := hGs.below hbV
          have hXV := hX.below hbV
          have hKV := hKx.trans (Kp.of hbV)
          have hrep : SlE.rep (fun q => False ∧ (Value.slice a5 A.length c5).ownBlock ≠ some q) V [.int .i64 z, .int .i64 (-1)] (z, -1) := SlE_rep.2 ⟨rfl, hz64, i64_m1⟩
          have hone := Gr.one (E := SlE) hrep Y9.lt (fun j hj => Y9.cell j hj)
          have hvs := hbV.size
          refine hCall (i := 8) rfl (by kernel_rfl) (by rfl) (fun K hK => ?_)
          refine wp_append_el (E := SlE) 48 79 Tryz.underlying48 info_slD rfl (by decide) (by decide) _ _ rfl (gx + 1) (fun _ => False) _ A rfl hGb ⟨Z.heap.size, 0, none⟩ 1 1 [(z, -1)] rfl rfl hone (by have := HLA.out; show A.length + 1 ≤ 1000000; omega) (by omega) ?_
          intro v9 w9 hT9 hgrow hwh
          rw [← HSC.out] at hT9
          have hgx9 : (Value.slice a5 A.length c5).ownBlock ≠ some gx := fun e => by have := (HOA.out gx e).1; omega
          have hnb9 : (Value.slice a5 A.length c5).ownBlock ≠ some nb := fun e => by have := (HOA.out nb e).1; have := HNL.out nb rfl; omega
          have hX9 := hXV.grown hgrow hgx9
          have n9 : w9.cell? ⟨nb, no + mm, none⟩ = some (.int .i64 z) := (World.cell?_of_block (w := V) (a := ⟨nb, no + mm, none⟩) (hgrow.block nb (by omega) (fun e => hnb9 e.symm))).trans hHeld
          have hK9 := hKV.grown hgrow (fun q hq => by have := (HOA.out q hq).1; have := HUS.out; omega)
          obtain ⟨x0, x1, f0, f1⟩ := hX9.two
          obtain ⟨va, vc, e9, -, -⟩ := hT9.slice
          obtain ⟨W9, hW9, hXW, hGW, hKW, nW⟩ : ∃ W, W = w9.setCell ⟨gx, 1, none⟩ v9 ∧ Bk 50 W gx [.int .i64 x.d, v9] ∧ Gw SlE 79 (gx + 1) (fun _ => False) W v9 (fxS (L.take (mm + 1))) ∧ Kp gx U W ∧ W.cell? ⟨nb, no + mm, none⟩ = some (.int .i64 z) :=
            ⟨_, rfl, hX9.set 1 _, hT9.kp hX9 (by decide) ((Kp.refl gx w9).setCell 1 _), hK9.setCell 1 _, (World.cell?_of_block (w := w9) (a := ⟨nb, no + mm, none⟩) (Below.heap_setCell _ _ _ _ (fun e => hngx e))).trans n9⟩
          rw [e9] at hW9 hXW hGW ⊢
          generalize (fxS (L.take (mm + 1))).length = cn at *
          refine hK.out _ _ ?_ (fun hHeld => ?_)
          · (try dsimp only)
            exact n9
          clear hK K hT9 e9 hgrow hwh
          try simp only [Act.put, List.setIfInBounds_toArray, List.set_cons_zero, List.set_cons_succ]
          refine hT 9 hHeld ?_
          refine hCall (i := 10) rfl (by kernel_rfl) (by rfl) (fun K hK => ?_)
          go_simp
          rw [← hW9]
          clear hW9
          refine hK.out _ _ ?_ (fun hHeld => ?_)
          · (try dsimp only)
            exact nW
          clear hK K
          try simp only [Act.put, List.setIfInBounds_toArray, List.set_cons_zero, List.set_cons_succ]
          refine wpAnyH_done (by kernel_rfl) ?_ _
          clear hHeld x0 x1 f0 f1 n9 nW hX9 hXV hGb hKV hone hrep hK9 hX hGs hKx x1V
          go_wp2
          go_roundw
          case rel => exact ⟨mm + 1, _, by omega, by go_num, hXW, hGW, hKW⟩
          case measure => simp [intOf]; omega

end Go.Proofs.YtkbbdkecillnpaaGreat

namespace Go.Proofs.YtkbbdkecillnpaaGreat
open Go.RowKit Go.Maps
set_option linter.unusedSimpArgs false
set_option linter.unusedVariables false

theorem list_diff {xs ys : List Nat} (hl : xs.length = ys.length) (h : ∀ k, k < xs.length → xs.getD k 0 = ys.getD k 0) : xs = ys := by
  apply List.ext_getElem hl
  intro i h1 h2
  have := h i h1
  simpa [List.getD, h1, h2] using this

set_option maxHeartbeats 1000000 in
set_option maxRecDepth 100000 in
theorem same8g_any (a b : Option Addr) (ca cb : Nat) (xs ys : List Nat) (w : World) (ha : Rb w a ca xs) (hb : Rb w b cb ys) :
    Calls Tryz.prog 20 #[.slice a xs.length ca, .slice b ys.length cb] w fun e w' => e = .returned (.bool (decide (xs = ys))) ∧ Below w.heap.size w w' := by
  by_cases hl : xs.length = ys.length
  rotate_left
  · have hne : ((xs.length : Int) != (ys.length : Int)) = true := by simp; omega
    have hd : decide (xs = ys) = false := decide_eq_false (fun e => hl (by rw [e]))
    rw [hd]
    go_enter Tryz.func20, Tryz.ntmps20
    go_wp2
    go_ret
    exact ⟨rfl, Below.refl _ _⟩
  have k1 := ha.le
  have k2 := ha.cap
  unfold maxLen at k2
  have fa := ha.fm
  have fb := hb.fm
  clear ha hb
  have HL : Hid (xs.length = ys.length) := hl
  have hne : ((xs.length : Int) != (ys.length : Int)) = false := by simp; omega
  obtain ⟨ly, hly⟩ : ∃ ly, ys.length = ly := ⟨_, rfl⟩
  rw [hly] at hl hne ⊢
  have HLY : Hid (ys.length = ly) := hly
  subst hl
  clear hly
  have HD : Hid (∀ B : Bool, decide (xs = ys) = B → decide (xs = ys) = B) := fun _ h => h
  generalize hD : decide (xs = ys) = D at *
  have HDD : Hid (decide (xs = ys) = D) := hD
  clear hD HD
  go_enter Tryz.func20, Tryz.ntmps20
  go_wp2
  go_loopw [5] (fun i wr => ∃ k : Nat, k ≤ xs.length ∧ i = .int .i64 k ∧ (∀ j, j < k → xs.getD j 0 = ys.getD j 0) ∧ Below w.heap.size w wr) (fun i _ => xs.length - (intOf i).toNat)
  case atStart => exact ⟨0, Nat.zero_le _, rfl, fun j hj => by omega, Below.refl _ _⟩
  case round =>
    obtain ⟨k, hk, rfl, hall, hnx⟩ := hrel
    have HALL : Hid (∀ j, j < k → xs.getD j 0 = ys.getD j 0) := hall
    clear hall
    by_cases hkn : k < xs.length
    · obtain ⟨b1, o1, rfl, _, c1⟩ := fa.at hnx k hkn
      obtain ⟨b2, o2, rfl, _, c2⟩ := fb.at hnx k (by rw [HLY.out]; exact hkn)
      obtain ⟨x, hx⟩ : ∃ x, xs.getD k 0 = x := ⟨_, rfl⟩
      obtain ⟨y, hy⟩ : ∃ y, ys.getD k 0 = y := ⟨_, rfl⟩
      rw [hx] at c1
      rw [hy] at c2
      have HX : Hid (xs.getD k 0 = x) := hx
      have HY : Hid (ys.getD k 0 = y) := hy
      clear hx hy
      have i1 : (0 : Int) ≤ (k : Int) := by omega
      have i2 : (k : Int) < (xs.length : Int) := by omega
      by_cases hxy : x = y
      · subst hxy
        have hxx : ((x : Int) != (x : Int)) = false := by simp
        go_wp2_with fail
        go_quiet (fail)
        go_wp2
        go_roundw
        case rel =>
          refine ⟨k + 1, by omega, by go_num, fun j hj => ?_, below_drewN hnx _⟩
          rcases Nat.lt_or_ge j k with h1 | h1
          · exact HALL.out j h1
          · rw [show j = k by omega, HX.out, HY.out]
        case measure => simp [intOf]; omega
      · have hxx : ((x : Int) != (y : Int)) = true := by simp; omega
        have hDf : D = false := by
          rw [← HDD.out]
          refine decide_eq_false (fun e => ?_)
          have h1 := HX.out
          rw [e, HY.out] at h1
          exact hxy h1.symm
        clear hxy
        go_wp2_with fail
        go_quiet (fail)
        go_wp2
        go_ret
        exact ⟨rt_bool (by rw [hDf]), below_drewN hnx _⟩
    · obtain rfl : k = xs.length := by omega
      have hDt : D = true := by
        rw [← HDD.out]
        exact decide_eq_true (list_diff (by rw [HLY.out]) HALL.out)
      go_wp2
      go_ret
      exact ⟨rt_bool (by rw [hDt]), hnx⟩

end Go.Proofs.YtkbbdkecillnpaaGreat
