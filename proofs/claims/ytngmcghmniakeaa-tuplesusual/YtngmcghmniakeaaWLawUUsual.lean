/-
  foundrylaw14.TuplesUsual: the walk.
-/
import Derived.Test.YtngmcghmniakeaaZ32
import Derived.Test.YtngmcghmniakeaaZ30
namespace Go.Proofs.Ytngmcghmniakeaa
open Go.RowKit Go.Maps
set_option linter.unusedSimpArgs false
set_option linter.unusedVariables false

set_option maxHeartbeats 8000000 in
set_option maxRecDepth 100000 in
theorem tuplesUsual_any (S : Nat → Prop) (a : Option Addr) (ca : Nat) (b : Option Addr) (cb : Nat) (o : Ol) (la : Option Addr) (lc : Nat) (l : List Tu) (x : Int) (w : World) (hc : Gr PnE.row S w a ca o.cs) (hp : Gr PaE S w b cb o.ps) (hl : Gr TuE S w la lc l) (hx : 0 ≤ x ∧ x < 256) :
    Calls Try.prog 3 #[.agg #[.slice a o.cs.length ca, .slice b o.ps.length cb, .slice la l.length lc], .int .u8 x] w fun e w' => e = .returned (.bool true) ∧ Below w.heap.size w w' := by
  have kl := hl.lenB
  obtain ⟨W, hW, X1, hbW⟩ : ∃ W, W = w.alloc (.cells #[.slice a o.cs.length ca, .slice b o.ps.length cb, .slice la l.length lc] 28) ∧ Bk 28 W w.heap.size [.slice a o.cs.length ca, .slice b o.ps.length cb, .slice la l.length lc] ∧ Below w.heap.size w W := ⟨_, rfl, Bk.new _ _ _, bl1 _⟩
  obtain ⟨p0, p1, p2, _⟩ := X1.three
  replace hc := hc.below hbW
  replace hp := hp.below hbW
  replace hl := hl.below hbW
  obtain ⟨n, hn⟩ : ∃ n : Nat, x.tmod 5 = (n : Int) := ⟨(x.tmod 5).toNat, by have := Int.tmod_nonneg 5 hx.1; omega⟩
  have hn4 : n ≤ 4 := by have := Int.tmod_lt_of_pos x (show (0 : Int) < 5 by omega); omega
  have hw1 : IntKind.u8.wrap (n : Int) = (n : Int) := by unfold IntKind.wrap; simp [IntKind.bits, IntKind.signed]; omega
  have hw2 : IntKind.i64.wrap (n : Int) = (n : Int) := wrapU (by omega) (by omega)
  go_enter Try.func3, Try.ntmps3
  go_upto_region 2 with fail
  rw [← hW]
  clear hW
  go_wp2_with fail
  refine (awake14_any _).mono ?_
  rintro e m1 ⟨rfl, hb1⟩
  replace hc := hc.below hb1
  replace hp := hp.below hb1
  replace hl := hl.below hb1
  replace X1 := X1.below hb1
  replace hbW := hbW.trans (hb1.mono hbW.size)
  clear hb1 p0 p1 p2
  obtain ⟨p0, p1, p2, _⟩ := X1.three
  have cf := few14_any S a ca b cb o la lc l none 0 0 m1 hc hp hl (by omega)
  cases hq : (fewB o && (fewT l && decide (0 ≤ 20))) with
  | false =>
    rw [hq] at cf
    clear hq
    go_wp2_with fail
    refine cf.mono ?_
    rintro e m2 ⟨rfl, hb2⟩
    replace hbW := hbW.trans (hb2.mono hbW.size)
    clear hb2 cf
    go_wp2_with fail
    refine (awake14_any _).mono ?_
    rintro e v9 ⟨rfl, hb9⟩
    replace hbW := hbW.trans (hb9.mono hbW.size)
    clear hb9
    go_wp2
    go_ret
    exact ⟨rfl, hbW⟩
  | true =>
  rw [hq] at cf
  rw [Bool.and_eq_true, Bool.and_eq_true] at hq
  obtain ⟨f1, f2, f3⟩ := fewB_of hq.1
  obtain ⟨f4, f5⟩ := fewT_of hq.2.1
  clear hq
  go_wp2_with fail
  refine cf.mono ?_
  rintro e m2 ⟨rfl, hb2⟩
  replace hc := hc.below hb2
  replace hp := hp.below hb2
  replace hl := hl.below hb2
  replace X1 := X1.below hb2
  replace hbW := hbW.trans (hb2.mono hbW.size)
  clear hb2 cf p0 p1 p2
  obtain ⟨p0, p1, p2, _⟩ := X1.three

  have cu := cformU_any S a ca b cb o S la lc l (n : Int) m2 hc hp hl (by unfold I64; omega)
  cases hfo : foT o l (n : Int) with
  | false =>
    rw [hfo] at cu
    clear hfo
    go_wp2_with fail
    refine cu.mono ?_
    rintro e m3 ⟨rfl, hb2⟩
    replace hbW := hbW.trans (hb2.mono hbW.size)
    clear hb2 cu
    go_wp2_with fail
    refine (awake14_any _).mono ?_
    rintro e v9 ⟨rfl, hb9⟩
    replace hbW := hbW.trans (hb9.mono hbW.size)
    clear hb9
    go_wp2
    go_ret
    exact ⟨rfl, hbW⟩
  | true =>
  rw [hfo] at cu
  have HFO : Hid (foT o l (n : Int) = true) := hfo
  clear hfo
  go_wp2_with fail
  refine cu.mono ?_
  rintro e m3 ⟨rfl, hb2⟩
  replace hc := hc.below hb2
  replace hp := hp.below hb2
  replace hl := hl.below hb2
  replace X1 := X1.below hb2
  replace hbW := hbW.trans (hb2.mono hbW.size)
  clear hb2 cu p0 p1 p2
  have HX1 : Hid (Bk 28 m3 w.heap.size [.slice a o.cs.length ca, .slice b o.ps.length cb, .slice la l.length lc]) := X1
  have HC : Hid (Gr PnE.row S m3 a ca o.cs) := hc
  have HP : Hid (Gr PaE S m3 b cb o.ps) := hp
  have HL : Hid (Gr TuE S m3 la lc l) := hl
  have HBW : Hid (Below w.heap.size w m3) := hbW
  clear hc hp hl hbW X1 hx hn
  go_wp2
  go_loopw [6] (fun i wr => ∃ k : Nat, k ≤ l.length ∧ i = .int .i64 k ∧ (∀ j, j < k → evB (l.getD j Tu.none).rg = false) ∧ Below m3.heap.size m3 wr) (fun i _ => l.length - (intOf i).toNat)
  case atStart => exact ⟨0, Nat.zero_le _, rfl, (fun j hj => by omega), Below.refl _ _⟩
  case round =>
    obtain ⟨k, hk, rfl, hok, hB⟩ := hrel
    have HOK : Hid (∀ j, j < k → evB (l.getD j Tu.none).rg = false) := hok
    clear hok
    have hX1 := HX1.out.below hB
    obtain ⟨p0, p1, p2, _⟩ := hX1.three
    by_cases hkn : k < l.length
    · obtain ⟨b0, off, ra, rc, pa, pc, xa, xc, ya, yc, ea, hb, ht, d0, d1, d2, d3, d4⟩ := HL.out.tu hB k hkn
      subst ea
      have HU := fun (h : evB (l.getD k Tu.none).rg = false) => upto_succ HOK.out h
      obtain ⟨t, htt⟩ : ∃ t, l.getD k Tu.none = t := ⟨_, rfl⟩
      rw [htt] at ht d0 d1 d2 d3 d4 HU
      have HU : Hid (evB t.rg = false → ∀ j, j < k + 1 → evB (l.getD j Tu.none).rg = false) := HU
      have i1 : (0 : Int) ≤ (k : Int) := by omega
      have i2 : (k : Int) < (l.length : Int) := by omega
      have hev := ceverywhere_any ra rc t.rg wr ht.tz
      clear htt HOK
      cases he : evB t.rg with
      | true =>
        rw [he] at hev
        clear he HU
        go_wp2_with fail
        refine hev.mono ?_
        rintro e m4 ⟨rfl, hb2⟩
        have hfin := HBW.out.trans ((hB.trans (hb2.mono hB.size)).mono HBW.out.size)
        clear hb2 hev hB
        go_wp2
        go_ret
        exact ⟨rfl, hfin⟩
      | false =>
        rw [he] at hev
        have HU2 : Hid (∀ j, j < k + 1 → evB (l.getD j Tu.none).rg = false) := HU.out he
        clear he HU
        go_wp2_with fail
        refine hev.mono ?_
        rintro e m4 ⟨rfl, hb2⟩
        have HB2 : Hid (Below m3.heap.size m3 m4) := hB.trans (hb2.mono hB.size)
        clear hb2 hev hB p0 p1 p2 hX1 d0 d1 d2 d3 d4
        go_wp2
        go_roundw
        case rel => exact ⟨k + 1, by omega, by go_num, HU2.out, HB2.out⟩
        case measure => simp [intOf]; omega
    · obtain rfl : k = l.length := by omega
      have g1 : ¬ (l.length : Int) < (l.length : Int) := by omega
      have HAT : Hid (_) := at_usual HFO.out HOK.out
      have hbW := HBW.out.trans (hB.mono HBW.out.size)
      have hc := HC.out.below hB
      have hp := HP.out.below hB
      have hl := HL.out.below hB
      have hws := hX1.lt
      clear HOK HFO
      go_upto_region 9 with fail
      go_cut [7, 8] from 29 to 60 (fun s7 s8 wx => ∃ (g : Nat) (a1 : Option Addr) (c1 : Nat) (a2 : Option Addr) (c2 : Nat), s7 = .pointer (some ⟨g, 0, none⟩) ∧ s8 = .int .i64 0 ∧ Bk 25 wx g [.slice a1 o.cs.length c1, .slice a2 o.ps.length c2] ∧ Gr PnE.row (fun _ => True) wx a1 c1 o.cs ∧ Gr PaE (fun _ => True) wx a2 c2 o.ps ∧ Below wr.heap.size wr wx)
      case first =>
        refine wp_region_held_drew (S := fun w9 => w9.cell? ⟨w.heap.size, 0, none⟩ = some (.slice a o.cs.length ca) ∧ w9.cell? ⟨w.heap.size, 1, none⟩ = some (.slice b o.ps.length cb) ∧ w9.cell? ⟨w.heap.size, 2, none⟩ = some (.slice la l.length lc)) (by kernel_rfl) ?_ (fun hHeld => ?_)
        · (try dsimp only)
          go_keep
        have hbc : Below wr.heap.size wr wr.drew := Below.drew1
        generalize wr.drew = ud at hbc hHeld ⊢
        clear p0 p1 p2
        have hXc := hX1.below hbc
        obtain ⟨p0, p1, p2, _⟩ := hXc.three
        refine hT 0 hHeld ?_
        refine hT 1 hHeld ?_
        refine hT 2 hHeld ?_
        refine hT 3 hHeld ?_
        refine hT 4 hHeld ?_
        refine wpAnyH_ready (rs := [5, 10]) (by kernel_rfl) (by simp) (hCons (i := 5) rfl (by rfl) (fun K hK => ?_) (hCons (i := 10) rfl (by rfl) (fun K hK => ?_) AllReadyH.nil))
        · obtain ⟨i0, hi0, hz0, hz1, hz2⟩ := info_parts infoA_i64
          have hmk := run_make (P := Try.prog) ud 34 3 i0 (.int .i64 0) Try.underlying34 hi0 hz0 .i64 .i64 (n : Int) (n : Int) (by omega) (by omega) (by rw [hz2]; omega) (by omega)
          rw [hz1] at hmk
          simp only [Int.toNat_natCast, Nat.mul_one] at hmk
          have hI0 : Gw El.int 3 ud.heap.size (fun _ => False) (ud.alloc (.cells (madeCells #[.int .i64 0] n) 3)) (.slice (some ⟨ud.heap.size, 0, none⟩) n n) (List.replicate n 0) := Gw.mk1 ud n 0 (.int .i64 0) rfl rfl (fun S w => ⟨rfl, by decide, by decide⟩) (by omega)
          have hB0 : Below ud.heap.size ud (ud.alloc (.cells (madeCells #[.int .i64 0] n) 3)) := bl1 _
          replace hmk : (Instr.makeSlice 34 (.int .i64 (n : Int)) (.int .i64 (n : Int))).run Try.prog ud = .ok (.slice (some ⟨ud.heap.size, 0, none⟩) n n) (ud.alloc (.cells (madeCells #[.int .i64 0] n) 3)) := hmk
          generalize ud.alloc (.cells (madeCells #[.int .i64 0] n) 3) = q1 at hmk hI0 hB0
          clear hi0 hz0 hz1 hz2
          obtain ⟨am, cm, em, hri, -⟩ := Gi.slice hI0
          rw [List.length_replicate] at em
          injection em with em1 em2 em3
          subst em1 em3
          go_simp
          replace hXc := hXc.below hB0
          replace hbc := hbc.trans (hB0.mono hbc.size)
          clear p0 p1 p2
          obtain ⟨p0, p1, p2, _⟩ := hXc.three
          clear hmk hI0
          refine hK.out _ _ ?_ (fun hHeld => ?_)
          · (try dsimp only)
            exact ⟨p0, p1, p2⟩
          clear hK K
          try simp only [Act.put, List.setIfInBounds_toArray, List.set_cons_zero, List.set_cons_succ]
          refine wpAnyH_ready (rs := [6, 10]) (by kernel_rfl) (by simp) (hCons (i := 6) rfl (by rfl) (fun K hK => ?_) (hCons (i := 10) rfl (by rfl) (fun K hK => ?_) AllReadyH.nil))
          · have hat := uat_any S a ca b cb o S la lc l _ _ (List.replicate n 0) q1 (hc.below hbc) (hp.below hbc) (hl.below hbc) hri
            rw [HAT.out.1, HAT.out.2, List.length_replicate] at hat
            go_simp
            refine hat.mono ?_
            rintro e q2 ⟨a1, c1, a2, c2, rfl, hg1, hg2, hloc, hb5⟩
            replace hXc := hXc.below hb5
            replace hbc := hbc.trans (hb5.mono hbc.size)
            clear p0 p1 p2
            obtain ⟨p0, p1, p2, _⟩ := hXc.three
            clear hat
            go_wp2_with fail
            refine hK.out _ _ ?_ (fun hHeld => ?_)
            · (try dsimp only)
              exact ⟨p0, p1, p2⟩
            clear hK K
            try simp only [Act.put, List.setIfInBounds_toArray, List.set_cons_zero, List.set_cons_succ]
            have hgA : wr.heap.size ≤ q2.heap.size := hbc.size
            have hg5 := hb5.size
            refine hT 7 hHeld ?_
            refine hT 8 hHeld ?_
            refine hT 9 hHeld ?_
            refine hCall (i := 10) rfl (by kernel_rfl) (by rfl) (fun K hK => ?_)
            go_simp
            obtain ⟨q3, hU, XA, hbA⟩ : ∃ V, V = q2.alloc (.cells #[.slice none 0 0, .slice none 0 0] 25) ∧ Bk 25 V q2.heap.size [.slice none 0 0, .slice none 0 0] ∧ Below q2.heap.size q2 V := ⟨_, rfl, Bk.new _ _ _, bl1 _⟩
            rw [← hU]
            clear hU
            replace hXc := hXc.below hbA
            replace hbc := hbc.trans (hbA.mono hbc.size)
            clear p0 p1 p2
            obtain ⟨p0, p1, p2, _⟩ := hXc.three
            refine hK.out _ _ ?_ (fun hHeld => ?_)
            · (try dsimp only)
              exact ⟨p0, p1, p2⟩
            clear hK K
            try simp only [Act.put, List.setIfInBounds_toArray, List.set_cons_zero, List.set_cons_succ]
            refine hCall (i := 11) rfl (by kernel_rfl) (by rfl) (fun K hK => ?_)
            obtain ⟨z0, z1, f0, f1⟩ := XA.two
            have hltA := XA.lt
            go_simp
            have A := XA.set2U (.slice a1 o.cs.length c1) (.slice a2 o.ps.length c2)
            have hU1 : Gr PnE.row (fun _ => True) ((q3.setCell ⟨q2.heap.size, 0, none⟩ (.slice a1 o.cs.length c1)).setCell ⟨q2.heap.size, 1, none⟩ (.slice a2 o.ps.length c2)) a1 c1 o.cs := hg1.stay (Nat.le_trans hbA.size (by rw [set2_sizeU]; exact Nat.le_refl _)) (fun k hk hl => ⟨trivial, (set2_otherU _ _ (by omega)).trans (hbA.block _ hl)⟩) (fun b o e _ hl => (set2_otherU _ _ (by omega)).trans (hbA.block _ hl))
            have hU2 : Gr PaE (fun _ => True) ((q3.setCell ⟨q2.heap.size, 0, none⟩ (.slice a1 o.cs.length c1)).setCell ⟨q2.heap.size, 1, none⟩ (.slice a2 o.ps.length c2)) a2 c2 o.ps := hg2.stay (Nat.le_trans hbA.size (by rw [set2_sizeU]; exact Nat.le_refl _)) (fun k hk hl => ⟨trivial, (set2_otherU _ _ (by omega)).trans (hbA.block _ hl)⟩) (fun b o e _ hl => (set2_otherU _ _ (by omega)).trans (hbA.block _ hl))
            have hU3 : Below wr.heap.size wr ((q3.setCell ⟨q2.heap.size, 0, none⟩ (.slice a1 o.cs.length c1)).setCell ⟨q2.heap.size, 1, none⟩ (.slice a2 o.ps.length c2)) := (hbc.setCell (p := ⟨q2.heap.size, 0, none⟩) (by show wr.heap.size ≤ q2.heap.size; omega) _).setCell (p := ⟨q2.heap.size, 1, none⟩) (by show wr.heap.size ≤ q2.heap.size; omega) _
            have hXd := hX1.below hU3
            clear p0 p1 p2
            obtain ⟨p0, p1, p2, _⟩ := hXd.three
            clear z0 z1 f0 f1
            generalize ((q3.setCell ⟨q2.heap.size, 0, none⟩ (.slice a1 o.cs.length c1)).setCell ⟨q2.heap.size, 1, none⟩ (.slice a2 o.ps.length c2)) = wz at *
            refine hK.out _ _ ?_ (fun hHeld => ?_)
            · (try dsimp only)
              exact ⟨p0, p1, p2⟩
            clear hK K
            try simp only [Act.put, List.setIfInBounds_toArray, List.set_cons_zero, List.set_cons_succ]
            refine hT 12 hHeld ?_
            refine wpAnyH_done (by kernel_rfl) ?_ _
            clear hHeld p0 p1 p2
            go_wp2_with fail
            go_meet
            exact ⟨q2.heap.size, a1, c1, a2, c2, rfl, rfl, A, hU1, hU2, hU3⟩
          · have hgA : wr.heap.size ≤ q1.heap.size := hbc.size
            go_simp
            obtain ⟨q2, hU, XA, hbA⟩ : ∃ V, V = q1.alloc (.cells #[.slice none 0 0, .slice none 0 0] 25) ∧ Bk 25 V q1.heap.size [.slice none 0 0, .slice none 0 0] ∧ Below q1.heap.size q1 V := ⟨_, rfl, Bk.new _ _ _, bl1 _⟩
            rw [← hU]
            clear hU
            replace hXc := hXc.below hbA
            replace hbc := hbc.trans (hbA.mono hbc.size)
            clear p0 p1 p2
            obtain ⟨p0, p1, p2, _⟩ := hXc.three
            replace hri := hri.below hbA
            refine hK.out _ _ ?_ (fun hHeld => ?_)
            · (try dsimp only)
              exact ⟨p0, p1, p2⟩
            clear hK K
            try simp only [Act.put, List.setIfInBounds_toArray, List.set_cons_zero, List.set_cons_succ]
            refine hCall (i := 6) rfl (by kernel_rfl) (by rfl) (fun K hK => ?_)
            have hsA := hbA.size
            have hsC := XA.lt
            have hat := uat_any S a ca b cb o S la lc l _ _ (List.replicate n 0) q2 (hc.below hbc) (hp.below hbc) (hl.below hbc) hri
            rw [HAT.out.1, HAT.out.2, List.length_replicate] at hat
            go_simp
            refine hat.mono ?_
            rintro e q3 ⟨a1, c1, a2, c2, rfl, hg1, hg2, hloc, hb5⟩
            replace hXc := hXc.below hb5
            replace hbc := hbc.trans (hb5.mono hbc.size)
            clear p0 p1 p2
            obtain ⟨p0, p1, p2, _⟩ := hXc.three
            clear hat
            go_wp2_with fail
            replace XA := XA.below hb5
            refine hK.out _ _ ?_ (fun hHeld => ?_)
            · (try dsimp only)
              exact ⟨p0, p1, p2⟩
            clear hK K
            try simp only [Act.put, List.setIfInBounds_toArray, List.set_cons_zero, List.set_cons_succ]
            refine hT 7 hHeld ?_
            refine hT 8 hHeld ?_
            refine hT 9 hHeld ?_
            refine hCall (i := 11) rfl (by kernel_rfl) (by rfl) (fun K hK => ?_)
            obtain ⟨z0, z1, f0, f1⟩ := XA.two
            have hltA := XA.lt
            go_simp
            have A := XA.set2U (.slice a1 o.cs.length c1) (.slice a2 o.ps.length c2)
            have hU1 : Gr PnE.row (fun _ => True) ((q3.setCell ⟨q1.heap.size, 0, none⟩ (.slice a1 o.cs.length c1)).setCell ⟨q1.heap.size, 1, none⟩ (.slice a2 o.ps.length c2)) a1 c1 o.cs := hg1.stay (by rw [set2_sizeU]; exact Nat.le_refl _) (fun k hk hl => ⟨trivial, set2_otherU _ _ (by omega)⟩) (fun b o e _ hl => set2_otherU _ _ (by have := hloc.1 b o e; omega))
            have hU2 : Gr PaE (fun _ => True) ((q3.setCell ⟨q1.heap.size, 0, none⟩ (.slice a1 o.cs.length c1)).setCell ⟨q1.heap.size, 1, none⟩ (.slice a2 o.ps.length c2)) a2 c2 o.ps := hg2.stay (by rw [set2_sizeU]; exact Nat.le_refl _) (fun k hk hl => ⟨trivial, set2_otherU _ _ (by omega)⟩) (fun b o e _ hl => set2_otherU _ _ (by have := hloc.2 b o e; omega))
            have hU3 : Below wr.heap.size wr ((q3.setCell ⟨q1.heap.size, 0, none⟩ (.slice a1 o.cs.length c1)).setCell ⟨q1.heap.size, 1, none⟩ (.slice a2 o.ps.length c2)) := (hbc.setCell (p := ⟨q1.heap.size, 0, none⟩) (by show wr.heap.size ≤ q1.heap.size; omega) _).setCell (p := ⟨q1.heap.size, 1, none⟩) (by show wr.heap.size ≤ q1.heap.size; omega) _
            have hXd := hX1.below hU3
            clear p0 p1 p2
            obtain ⟨p0, p1, p2, _⟩ := hXd.three
            clear z0 z1 f0 f1
            generalize ((q3.setCell ⟨q1.heap.size, 0, none⟩ (.slice a1 o.cs.length c1)).setCell ⟨q1.heap.size, 1, none⟩ (.slice a2 o.ps.length c2)) = wz at *
            refine hK.out _ _ ?_ (fun hHeld => ?_)
            · (try dsimp only)
              exact ⟨p0, p1, p2⟩
            clear hK K
            try simp only [Act.put, List.setIfInBounds_toArray, List.set_cons_zero, List.set_cons_succ]
            refine hT 12 hHeld ?_
            refine wpAnyH_done (by kernel_rfl) ?_ _
            clear hHeld p0 p1 p2
            go_wp2_with fail
            go_meet
            exact ⟨q1.heap.size, a1, c1, a2, c2, rfl, rfl, A, hU1, hU2, hU3⟩
        · have hgA : wr.heap.size ≤ ud.heap.size := hbc.size
          go_simp
          obtain ⟨q1, hU, XA, hbA⟩ : ∃ V, V = ud.alloc (.cells #[.slice none 0 0, .slice none 0 0] 25) ∧ Bk 25 V ud.heap.size [.slice none 0 0, .slice none 0 0] ∧ Below ud.heap.size ud V := ⟨_, rfl, Bk.new _ _ _, bl1 _⟩
          rw [← hU]
          clear hU
          replace hXc := hXc.below hbA
          replace hbc := hbc.trans (hbA.mono hbc.size)
          clear p0 p1 p2
          obtain ⟨p0, p1, p2, _⟩ := hXc.three
          refine hK.out _ _ ?_ (fun hHeld => ?_)
          · (try dsimp only)
            exact ⟨p0, p1, p2⟩
          clear hK K
          try simp only [Act.put, List.setIfInBounds_toArray, List.set_cons_zero, List.set_cons_succ]
          refine hCall (i := 5) rfl (by kernel_rfl) (by rfl) (fun K hK => ?_)
          obtain ⟨i0, hi0, hz0, hz1, hz2⟩ := info_parts infoA_i64
          have hmk := run_make (P := Try.prog) q1 34 3 i0 (.int .i64 0) Try.underlying34 hi0 hz0 .i64 .i64 (n : Int) (n : Int) (by omega) (by omega) (by rw [hz2]; omega) (by omega)
          rw [hz1] at hmk
          simp only [Int.toNat_natCast, Nat.mul_one] at hmk
          have hI0 : Gw El.int 3 q1.heap.size (fun _ => False) (q1.alloc (.cells (madeCells #[.int .i64 0] n) 3)) (.slice (some ⟨q1.heap.size, 0, none⟩) n n) (List.replicate n 0) := Gw.mk1 q1 n 0 (.int .i64 0) rfl rfl (fun S w => ⟨rfl, by decide, by decide⟩) (by omega)
          have hB0 : Below q1.heap.size q1 (q1.alloc (.cells (madeCells #[.int .i64 0] n) 3)) := bl1 _
          replace hmk : (Instr.makeSlice 34 (.int .i64 (n : Int)) (.int .i64 (n : Int))).run Try.prog q1 = .ok (.slice (some ⟨q1.heap.size, 0, none⟩) n n) (q1.alloc (.cells (madeCells #[.int .i64 0] n) 3)) := hmk
          generalize q1.alloc (.cells (madeCells #[.int .i64 0] n) 3) = q2 at hmk hI0 hB0
          clear hi0 hz0 hz1 hz2
          obtain ⟨am, cm, em, hri, -⟩ := Gi.slice hI0
          rw [List.length_replicate] at em
          injection em with em1 em2 em3
          subst em1 em3
          go_simp
          replace hXc := hXc.below hB0
          replace hbc := hbc.trans (hB0.mono hbc.size)
          clear p0 p1 p2
          obtain ⟨p0, p1, p2, _⟩ := hXc.three
          clear hmk hI0
          refine hK.out _ _ ?_ (fun hHeld => ?_)
          · (try dsimp only)
            exact ⟨p0, p1, p2⟩
          clear hK K
          try simp only [Act.put, List.setIfInBounds_toArray, List.set_cons_zero, List.set_cons_succ]
          refine hCall (i := 6) rfl (by kernel_rfl) (by rfl) (fun K hK => ?_)
          have hsA := hbA.size
          have hsB := hB0.size
          have hsC := XA.lt
          have hat := uat_any S a ca b cb o S la lc l _ _ (List.replicate n 0) q2 (hc.below hbc) (hp.below hbc) (hl.below hbc) hri
          rw [HAT.out.1, HAT.out.2, List.length_replicate] at hat
          go_simp
          refine hat.mono ?_
          rintro e q3 ⟨a1, c1, a2, c2, rfl, hg1, hg2, hloc, hb5⟩
          replace hXc := hXc.below hb5
          replace hbc := hbc.trans (hb5.mono hbc.size)
          clear p0 p1 p2
          obtain ⟨p0, p1, p2, _⟩ := hXc.three
          clear hat
          go_wp2_with fail
          replace XA := (XA.below hB0).below hb5
          refine hK.out _ _ ?_ (fun hHeld => ?_)
          · (try dsimp only)
            exact ⟨p0, p1, p2⟩
          clear hK K
          try simp only [Act.put, List.setIfInBounds_toArray, List.set_cons_zero, List.set_cons_succ]
          refine hT 7 hHeld ?_
          refine hT 8 hHeld ?_
          refine hT 9 hHeld ?_
          refine hCall (i := 11) rfl (by kernel_rfl) (by rfl) (fun K hK => ?_)
          obtain ⟨z0, z1, f0, f1⟩ := XA.two
          have hltA := XA.lt
          go_simp
          have A := XA.set2U (.slice a1 o.cs.length c1) (.slice a2 o.ps.length c2)
          have hU1 : Gr PnE.row (fun _ => True) ((q3.setCell ⟨ud.heap.size, 0, none⟩ (.slice a1 o.cs.length c1)).setCell ⟨ud.heap.size, 1, none⟩ (.slice a2 o.ps.length c2)) a1 c1 o.cs := hg1.stay (by rw [set2_sizeU]; exact Nat.le_refl _) (fun k hk hl => ⟨trivial, set2_otherU _ _ (by omega)⟩) (fun b o e _ hl => set2_otherU _ _ (by have := hloc.1 b o e; omega))
          have hU2 : Gr PaE (fun _ => True) ((q3.setCell ⟨ud.heap.size, 0, none⟩ (.slice a1 o.cs.length c1)).setCell ⟨ud.heap.size, 1, none⟩ (.slice a2 o.ps.length c2)) a2 c2 o.ps := hg2.stay (by rw [set2_sizeU]; exact Nat.le_refl _) (fun k hk hl => ⟨trivial, set2_otherU _ _ (by omega)⟩) (fun b o e _ hl => set2_otherU _ _ (by have := hloc.2 b o e; omega))
          have hU3 : Below wr.heap.size wr ((q3.setCell ⟨ud.heap.size, 0, none⟩ (.slice a1 o.cs.length c1)).setCell ⟨ud.heap.size, 1, none⟩ (.slice a2 o.ps.length c2)) := (hbc.setCell (p := ⟨ud.heap.size, 0, none⟩) (by show wr.heap.size ≤ ud.heap.size; omega) _).setCell (p := ⟨ud.heap.size, 1, none⟩) (by show wr.heap.size ≤ ud.heap.size; omega) _
          have hXd := hX1.below hU3
          clear p0 p1 p2
          obtain ⟨p0, p1, p2, _⟩ := hXd.three
          clear z0 z1 f0 f1
          generalize ((q3.setCell ⟨ud.heap.size, 0, none⟩ (.slice a1 o.cs.length c1)).setCell ⟨ud.heap.size, 1, none⟩ (.slice a2 o.ps.length c2)) = wz at *
          refine hK.out _ _ ?_ (fun hHeld => ?_)
          · (try dsimp only)
            exact ⟨p0, p1, p2⟩
          clear hK K
          try simp only [Act.put, List.setIfInBounds_toArray, List.set_cons_zero, List.set_cons_succ]
          refine hT 12 hHeld ?_
          refine wpAnyH_done (by kernel_rfl) ?_ _
          clear hHeld p0 p1 p2
          go_wp2_with fail
          go_meet
          exact ⟨ud.heap.size, a1, c1, a2, c2, rfl, rfl, A, hU1, hU2, hU3⟩
      case rest =>
        obtain ⟨g, a1, c1, a2, c2, rfl, rfl, hXg, hg1, hg2, hbx⟩ := hcut
        have hX2 := hX1.below hbx
        replace hc := hc.below hbx
        replace hp := hp.below hbx
        have hfin := hbW.trans (hbx.mono hbW.size)
        clear p0 p1 p2
        obtain ⟨p0, p1, p2, _⟩ := hX2.three
        obtain ⟨q0, q1, _⟩ := hXg.two
        have hsm := ssameO_any _ _ a1 c1 a2 c2 a ca b cb o wc hg1 hg2 hc hp
        go_wp2_with fail
        refine hsm.mono ?_
        rintro e m6 ⟨rfl, hb2⟩
        replace hfin := hfin.trans (hb2.mono hfin.size)
        clear hb2 hsm
        go_wp2
        go_ret
        exact ⟨rfl, hfin⟩

end Go.Proofs.Ytngmcghmniakeaa
