/-
  foundryref08.Fit, foundryref08.Exact: the walks.
  foundryref08.At: the walk.
  foundrylaw03.awake, plain, few; foundryref02.Same of formed fractions: the walks.
  foundryref06.SameInts, foundryref06.Same: the walks.
  What a law is told of a slice of bytes, or of int32, that came in.
-/
import Derived.Test.YtdpafdeoepbhaaaGreatZ25
import Derived.Test.YtdpafdeoepbhaaaGreatZ14
import Derived.Test.YtdpafdeoepbhaaaGreatZ28
import Derived.Test.YtdpafdeoepbhaaaGreatZ13
import Derived.Deep.CutRange
import Derived.Test.YtdpafdeoepbhaaaGreatZ23
import Derived.Test.YtdpafdeoepbhaaaGreatZ19
import Derived.Test.YtdpafdeoepbhaaaGreatZ16
import Derived.Test.YtdpafdeoepbhaaaGreatZ15
import Derived.Test.YtdpafdeoepbhaaaGreatZ11
import Derived.Test.YtdpafdeoepbhaaaGreatZ9
import Derived.ProofKit
namespace Go.Proofs.YtdpafdeoepbhaaaGreat
open Go.RowKit Go.Maps
set_option linter.unusedSimpArgs false
set_option linter.unusedVariables false

set_option maxHeartbeats 1000000 in
set_option maxRecDepth 100000 in
theorem sfit_any (a : Option Addr) (cap : Nat) (l : List Ax) (b : Option Addr) (bc : Nat) (m : List (List Pr)) (w : World) (h : As w a cap l) (hm : Pzz w b bc m) :
    Calls Tryz.prog 12 #[.slice a l.length cap, .slice b m.length bc] w fun e w' => e = .returned (.bool (fiB l m)) ∧ Below w.heap.size w w' := by
  have k1 := h.lenB
  have k2 := hm.lenB
  have hfa := sformedA_any a cap l w h
  have HM : Hid (Pzz w b bc m) := hm
  clear h hm
  have HF : Hid (fiB l m = true ↔ frA l = true ∧ (m.length = 0 ∨ m.length = l.length) ∧ ∀ j, j < m.length → frP (m.getD j []) = true) := fiB_iff
  cases hfr : frA l with
  | false =>
    have HR : Hid (fiB l m = false) := by show fiB l m = false; rw [Bool.eq_false_iff]; intro e; have := (HF.out.1 e).1; rw [hfr] at this; cases this
    rw [hfr] at hfa
    clear hfr
    go_enter Tryz.func12, Tryz.ntmps12
    go_wp2_with fail
    refine hfa.mono ?_
    rintro e u1 ⟨rfl, hb1⟩
    clear hfa
    go_wp2
    go_ret
    exact ⟨rt_bool HR.out.symm, hb1⟩
  | true =>
    rw [hfr] at hfa
    have HFR : Hid (frA l = true) := hfr
    clear hfr
    by_cases hn : 0 < m.length ∧ m.length ≠ l.length
    · obtain ⟨h0, h1⟩ := hn
      have g0 : (0 : Int) < (m.length : Int) := by omega
      have g1 : ((m.length : Int) != (l.length : Int)) = true := by simp; omega
      have HR : Hid (fiB l m = false) := by show fiB l m = false; rw [Bool.eq_false_iff]; intro e; have := (HF.out.1 e).2.1; omega
      clear HF HM
      generalize m.length = x at *
      generalize l.length = y at *
      go_enter Tryz.func12, Tryz.ntmps12
      go_wp2_with fail
      refine hfa.mono ?_
      rintro e u1 ⟨rfl, hb1⟩
      clear hfa
      go_wp2
      go_ret
      exact ⟨rt_bool HR.out.symm, hb1⟩
    have HL : Hid (m.length = 0 ∨ m.length = l.length) := by show _ ∨ _; omega
    have hcond : ((0 : Int) < (m.length : Int) ∧ ((m.length : Int) != (l.length : Int)) = false) ∨ m.length = 0 := by
      by_cases h0 : 0 < m.length
      · have : m.length = l.length := by omega
        exact .inl ⟨by omega, by simp [this]⟩
      · exact .inr (by omega)
    clear hn
    rcases hcond with ⟨g0, g1⟩ | hm0
    · go_enter Tryz.func12, Tryz.ntmps12
      go_wp2_with fail
      refine hfa.mono ?_
      rintro e u1 ⟨rfl, hb1⟩
      clear hfa
      go_wp2
      go_loopw [5] (fun i wr => ∃ k : Nat, k ≤ m.length ∧ i = .int .i64 k ∧ (∀ j, j < k → frP (m.getD j []) = true) ∧ Below w.heap.size w wr) (fun i _ => m.length - (intOf i).toNat)
      case atStart => exact ⟨0, Nat.zero_le _, rfl, (fun j hj => by omega), hb1⟩
      case round =>
        obtain ⟨k, hk, rfl, hok, hB⟩ := hrel
        have HOK : Hid (∀ j, j < k → frP (m.getD j []) = true) := hok
        clear hok
        by_cases hkn : k < m.length
        · obtain ⟨b1, off, a1, c1, ea, _, d0, hp⟩ := HM.out.at hB k hkn
          subst ea
          obtain ⟨y, hy⟩ : ∃ y, m.getD k [] = y := ⟨_, rfl⟩
          rw [hy] at d0 hp
          have HY : Hid (m.getD k [] = y) := hy
          clear hy
          have hfo := sformP_any a1 c1 y wr hp
          cases hf : frP y with
          | false =>
            have HR : Hid (fiB l m = false) := by show fiB l m = false; rw [Bool.eq_false_iff]; intro e; have := (HF.out.1 e).2.2 k hkn; rw [HY.out, hf] at this; cases this
            rw [hf] at hfo
            clear hf hp
            go_wp2_with fail
            refine hfo.mono ?_
            rintro e u2 ⟨rfl, hb2⟩
            have hbW := hB.trans (hb2.mono hB.size)
            clear hfo hb2
            go_wp2
            go_ret
            exact ⟨rt_bool HR.out.symm, hbW⟩
          | true =>
            have HOK' : Hid (∀ j, j < k + 1 → frP (m.getD j []) = true) := by
              show ∀ j, j < k + 1 → frP (m.getD j []) = true
              intro j hj
              rcases Nat.lt_or_ge j k with h1 | h1
              · exact HOK.out j h1
              · rw [show j = k by omega, HY.out]; exact hf
            rw [hf] at hfo
            clear hf hp
            go_wp2_with fail
            refine hfo.mono ?_
            rintro e u2 ⟨rfl, hb2⟩
            have hbW := hB.trans (hb2.mono hB.size)
            clear hfo hb2
            go_wp2
            go_roundw
            case rel => exact ⟨k + 1, by omega, by go_num, HOK'.out, hbW⟩
            case measure => simp [intOf]; omega
        · obtain rfl : k = m.length := by omega
          have HR : Hid (fiB l m = true) := HF.out.2 ⟨HFR.out, HL.out, HOK.out⟩
          go_wp2
          go_ret
          exact ⟨rt_bool HR.out.symm, hB⟩
    · have HR : Hid (fiB l m = true) := HF.out.2 ⟨HFR.out, .inl hm0, fun j hj => by omega⟩
      clear HF HL HM k2
      rw [hm0]
      clear hm0
      go_enter Tryz.func12, Tryz.ntmps12
      go_wp2_with fail
      refine hfa.mono ?_
      rintro e u1 ⟨rfl, hb1⟩
      clear hfa
      go_wp2
      go_loopw [5] (fun i wr => i = .int .i64 0 ∧ wr = u1) (fun i _ => 0)
      case atStart => exact ⟨rfl, rfl⟩
      case round =>
        obtain ⟨rfl, rfl⟩ := hrel
        go_wp2
        go_ret
        exact ⟨rt_bool HR.out.symm, hb1⟩

set_option maxHeartbeats 4000000 in
set_option maxRecDepth 100000 in
theorem sexact_any (a : Option Addr) (cap : Nat) (l : List Ax) (b : Option Addr) (bc : Nat) (m : List (List Pr)) (pa : Option Addr) (pc : Nat) (ps : List Int) (w : World) (h : As w a cap l) (hm : Pzz w b bc m) (hp : Ri w pa pc ps) (hlp : ps.length ≤ 1000) :
    Calls Tryz.prog 9 #[.slice a l.length cap, .slice b m.length bc, .slice pa ps.length pc] w fun e w' => ∃ a' cap', e = .returned (.tuple #[.slice a' (exL l m ps).length cap', .int .i64 (exE l m)]) ∧ Rz w' a' cap' 15 (exL l m ps) ∧ Below w.heap.size w w' := by
  have hfi := sfit_any a cap l b bc m w h hm
  cases hf : fiB l m with
  | false =>
    rw [hf] at hfi
    rw [exL_no hf, exE_no hf]
    clear hf h hm hp
    go_enter Tryz.func9, Tryz.ntmps9
    go_wp2_with fail
    refine hfi.mono ?_
    rintro e u1 ⟨rfl, hb1⟩
    have hz := Rz.nil u1 none 0 15 (Nat.zero_le _)
    clear hfi
    go_wp2
    go_ret2
    exact ⟨none, 0, rfl, hz, hb1⟩
  | true =>
    have hl4 := (fiB_len hf).1
    have hl2 := (fiB_iff.1 hf).2.1
    rw [hf] at hfi
    rw [exL_yes hf, exE_yes hf]
    have k2 := hm.lenB
    have HH : Hid (As w a cap l) := h
    have HM : Hid (Pzz w b bc m) := hm
    have HP : Hid (Ri w pa pc ps) := hp
    have HL2 : Hid (m.length = 0 ∨ m.length = l.length) := hl2
    clear hf h hm hp hl2
    go_enter Tryz.func9, Tryz.ntmps9
    go_wp2_with fail
    refine hfi.mono ?_
    rintro e u1 ⟨rfl, hb1⟩
    have hcl := sclampA_any a cap l pa pc ps u1 (HH.out.below hb1) (HP.out.below hb1) (by omega) hlp
    clear hfi
    go_wp2_with fail
    refine hcl.mono ?_
    rintro e u2 ⟨va, vc, rfl, hV, hb2⟩
    have hbU : Below w.heap.size w u2 := hb1.trans (hb2.mono hb1.size)
    have HCG : Hid (∀ j, j < l.length → (clK l ps l.length).getD j 0 = clV l ps j) := fun j hj => by simp [clK, List.getD, hj]
    have HCL : Hid ((clK l ps l.length).length = l.length) := clK_len _ _ _
    have HV : Hid (Ri u2 va vc (clK l ps l.length)) := hV
    have HBU : Hid (Below w.heap.size w u2) := hbU
    rw [HCL.out]
    clear hb1 hb2 hcl hV hbU
    have hI0 : Ro 45 u2.heap.size u2 (.slice none 0 0) 15 (exK l m ps 0) := Ro.nil _ _ _ _
    go_wp2
    go_loopw [9, 10] (fun v i wr => ∃ k : Nat, k ≤ l.length ∧ i = .int .i64 k ∧ Ro 45 u2.heap.size wr v 15 (exK l m ps k) ∧ Below u2.heap.size u2 wr) (fun _ i _ => l.length - (intOf i).toNat)
    case atStart => exact ⟨0, Nat.zero_le _, rfl, hI0, Below.refl _ _⟩
    case round =>
      obtain ⟨k, hk, rfl, hT, hBu⟩ := hrel
      have hB : Below w.heap.size w wr := HBU.out.trans (hBu.mono HBU.out.size)
      obtain ⟨a2, c2, rfl, hts⟩ := hT.slice
      have hlen := exK_len l m ps k
      rw [hlen] at hT ⊢
      have hll : (exK l m ps k).length + 1 ≤ 1000000 := by omega
      have HT : Hid (Ro 45 u2.heap.size wr (.slice a2 k c2) 15 (exK l m ps k)) := hT
      clear hT hlen hI0
      by_cases hkn : k < l.length
      · clear hts
        obtain ⟨b0, off, ea, hb, d0, d1, d2, d3⟩ := HH.out.at hB k hkn
        subst ea
        have hw := HH.out.w hkn
        obtain ⟨pb, poff, ep, hpb, dz⟩ := HV.out.at hBu k (by rw [HCL.out]; exact hkn)
        subst ep
        have hzi := HV.out.i64 (k := k) (by rw [HCL.out]; exact hkn)
        rw [HCG.out k hkn] at dz hzi
        have HX : Hid (exQ l m ps k = beQ (m.getD k []) (plQ (l.getD k Ax.none) (clV l ps k))) := rfl
        have HX0 : Hid (m.length = 0 → exQ l m ps k = plQ (l.getD k Ax.none) (clV l ps k)) := fun e => by
          obtain rfl := List.length_eq_zero_iff.1 e
          exact exQ_none _ _ _
        have HS : Hid (exK l m ps (k + 1) = exK l m ps k ++ [exQ l m ps k]) := exK_succ _ _ _ _
        generalize clV l ps k = z at *
        generalize l.getD k Ax.none = s at *
        have hpl := fun W => splainA_any s z W hw hzi
        obtain ⟨p, hp⟩ : ∃ p, plQ s z = p := ⟨_, rfl⟩
        rw [hp] at HX HX0
        simp only [hp] at hpl
        clear hp
        obtain ⟨tx, lo, us, hi⟩ := s
        simp only [axC] at hpl
        dsimp only at *
        have hbW := hB
        have hbR : Below wr.heap.size wr wr := Below.refl _ _
        have hwr : IntKind.i64.wrap (k : Int) = k := wrapi64 (by omega) (by omega)
        have hbs := Nat.lt_of_lt_of_le hb hB.size
        have hps := Nat.lt_of_lt_of_le hpb hBu.size
        have A0 : Cl wr b0 (off + k * 4) (.string tx) := ⟨hbs, d0⟩
        have A1 : Cl wr b0 (off + k * 4 + 1) (.int .i64 lo) := ⟨hbs, d1⟩
        have A2 : Cl wr b0 (off + k * 4 + 2) (.int .i64 us) := ⟨hbs, d2⟩
        have A3 : Cl wr b0 (off + k * 4 + 3) (.int .i64 hi) := ⟨hbs, d3⟩
        have A4 : Cl wr pb (poff + k) (.int .i64 z) := ⟨hps, dz⟩
        have HA4 : Hid (Cl wr b0 (off + k * 4) (.string tx) ∧ Cl wr b0 (off + k * 4 + 1) (.int .i64 lo) ∧ Cl wr b0 (off + k * 4 + 2) (.int .i64 us) ∧ Cl wr b0 (off + k * 4 + 3) (.int .i64 hi) ∧ Cl wr pb (poff + k) (.int .i64 z)) := ⟨A0, A1, A2, A3, A4⟩
        go_upto_region 8 with fail
        go_cut [11] from 19 to 46 (fun s11 wx => ∃ g8 n8 a8 x8 c8 b8 y8 d8, s11 = .pointer (some ⟨g8, 0, none⟩) ∧ Box 45 wx g8 (.bool n8) (.slice a8 x8 c8) (.slice b8 y8 d8) ∧ Fr wx (.agg #[.bool n8, .slice a8 x8 c8, .slice b8 y8 d8]) 2 p ∧ wr.heap.size ≤ g8 ∧ Below wr.heap.size wr wx)
        case first =>
          refine wp_region_held_drew (S := (fun u => u.cell? ⟨b0, off + k * 4, none⟩ = some (.string tx) ∧ u.cell? ⟨b0, off + k * 4 + 1, none⟩ = some (.int .i64 lo) ∧ u.cell? ⟨b0, off + k * 4 + 2, none⟩ = some (.int .i64 us) ∧ u.cell? ⟨b0, off + k * 4 + 3, none⟩ = some (.int .i64 hi) ∧ u.cell? ⟨pb, poff + k, none⟩ = some (.int .i64 z))) (by kernel_rfl) ?_ (fun hHeld => ?_)
          · (try dsimp only)
            go_keep
          have hdr : Below wr.heap.size wr wr.drew := Below.drew1
          generalize wr.drew = ud1 at hdr hHeld ⊢
          replace A0 := A0.below hdr
          replace A1 := A1.below hdr
          replace A2 := A2.below hdr
          replace A3 := A3.below hdr
          replace A4 := A4.below hdr
          replace hbW : Below w.heap.size w ud1 := hbW.trans (hdr.mono hbW.size)
          replace hbR : Below wr.heap.size wr ud1 := hbR.trans (hdr.mono hbR.size)
          clear hdr
          refine hT 0 hHeld ?_
          refine hT 1 hHeld ?_
          refine hT 2 hHeld ?_
          refine hT 3 hHeld ?_
          refine hT 4 hHeld ?_
          refine hT 5 hHeld ?_
          refine hT 6 hHeld ?_
          refine hT 7 hHeld ?_
          refine wpAnyH_ready (rs := [8, 9]) (by kernel_rfl) (by simp) (hCons (i := 8) rfl (by rfl) (fun K hK => ?_) (hCons (i := 9) rfl (by rfl) (fun K hK => ?_) AllReadyH.nil))
          · go_simp
            refine (hpl _).mono ?_
            rintro e u1 ⟨v8, rfl, hF8, hb1⟩
            replace A0 := A0.below hb1
            replace A1 := A1.below hb1
            replace A2 := A2.below hb1
            replace A3 := A3.below hb1
            replace A4 := A4.below hb1
            replace hbW : Below w.heap.size w u1 := hbW.trans (hb1.mono hbW.size)
            replace hbR : Below wr.heap.size wr u1 := hbR.trans (hb1.mono hbR.size)
            clear hb1
            obtain ⟨n8, x8, y8, ⟨a8, c8, b8, d8, rfl, hx8, hy8⟩, hF8⟩ := hF8
            go_wp2_with fail
            refine hK.out _ _ ?_ (fun hHeld => ?_)
            · (try dsimp only)
              exact ⟨A0.2, A1.2, A2.2, A3.2, A4.2⟩
            clear hK K
            try simp only [Act.put, List.setIfInBounds_toArray, List.set_cons_zero, List.set_cons_succ]
            refine hCall (i := 9) rfl (by kernel_rfl) (by rfl) (fun K hK => ?_)
            go_simp
            obtain ⟨u62, hU, B8, hb9⟩ : ∃ U, U = u1.alloc (.cells #[.bool false, .slice none 0 0, .slice none 0 0] 45) ∧ Box 45 U u1.heap.size (.bool false) (.slice none 0 0) (.slice none 0 0) ∧ Below u1.heap.size u1 U := ⟨_, rfl, Box.new _ _ _ _ _, al1 _⟩
            rw [← hU]
            clear hU
            have n81 := hbR.size
            have n82 := hbW.size
            replace A0 := A0.below hb9
            replace A1 := A1.below hb9
            replace A2 := A2.below hb9
            replace A3 := A3.below hb9
            replace A4 := A4.below hb9
            replace hx8 := hx8.below hb9
            replace hy8 := hy8.below hb9
            replace hbW : Below w.heap.size w u62 := hbW.trans (hb9.mono hbW.size)
            replace hbR : Below wr.heap.size wr u62 := hbR.trans (hb9.mono hbR.size)
            clear hb9
            generalize u1.heap.size = g8 at B8 n81 n82 ⊢
            obtain ⟨p00, p01, p02, _⟩ := B8.cells
            refine hK.out _ _ ?_ (fun hHeld => ?_)
            · (try dsimp only)
              exact ⟨A0.2, A1.2, A2.2, A3.2, A4.2⟩
            clear hK K
            try simp only [Act.put, List.setIfInBounds_toArray, List.set_cons_zero, List.set_cons_succ]
            refine hCall (i := 10) rfl (by kernel_rfl) (by rfl) (fun K hK => ?_)
            go_simp
            obtain ⟨u63, hU, A8, hbU, hK9, ho⟩ := set3_world B8 (.bool n8) (.slice a8 x8.length c8) (.slice b8 y8.length d8)
            rw [← hU]
            clear hU
            replace hbW := hbU _ _ hbW (by omega)
            replace hbR := hbU _ _ hbR (by omega)
            replace hx8 := hK9 _ _ _ hx8
            replace hy8 := hK9 _ _ _ hy8
            clear hbU hK9 ho A0 A1 A2 A3 A4
            obtain ⟨A0, A1, A2, A3, A4⟩ := HA4.out
            replace A0 := A0.below hbR
            replace A1 := A1.below hbR
            replace A2 := A2.below hbR
            replace A3 := A3.below hbR
            replace A4 := A4.below hbR
            clear p00 p01 p02
            obtain ⟨p00, p01, p02, _⟩ := A8.cells
            refine hK.out _ _ ?_ (fun hHeld => ?_)
            · (try dsimp only)
              exact ⟨A0.2, A1.2, A2.2, A3.2, A4.2⟩
            clear hK K
            try simp only [Act.put, List.setIfInBounds_toArray, List.set_cons_zero, List.set_cons_succ]
            refine wpAnyH_done (by kernel_rfl) ?_ _
            clear hHeld
            go_wp2_with fail
            go_meet
            exact ⟨g8, _, _, _, _, _, _, _, rfl, A8, ⟨_, _, _, ⟨_, _, _, _, rfl, hx8, hy8⟩, hF8⟩, n81, hbR⟩
          · go_simp
            obtain ⟨u61, hU, B8, hb9⟩ : ∃ U, U = ud1.alloc (.cells #[.bool false, .slice none 0 0, .slice none 0 0] 45) ∧ Box 45 U ud1.heap.size (.bool false) (.slice none 0 0) (.slice none 0 0) ∧ Below ud1.heap.size ud1 U := ⟨_, rfl, Box.new _ _ _ _ _, al1 _⟩
            rw [← hU]
            clear hU
            have n81 := hbR.size
            have n82 := hbW.size
            replace A0 := A0.below hb9
            replace A1 := A1.below hb9
            replace A2 := A2.below hb9
            replace A3 := A3.below hb9
            replace A4 := A4.below hb9
            replace hbW : Below w.heap.size w u61 := hbW.trans (hb9.mono hbW.size)
            replace hbR : Below wr.heap.size wr u61 := hbR.trans (hb9.mono hbR.size)
            clear hb9
            generalize ud1.heap.size = g8 at B8 n81 n82 ⊢
            obtain ⟨p00, p01, p02, _⟩ := B8.cells
            refine hK.out _ _ ?_ (fun hHeld => ?_)
            · (try dsimp only)
              exact ⟨A0.2, A1.2, A2.2, A3.2, A4.2⟩
            clear hK K
            try simp only [Act.put, List.setIfInBounds_toArray, List.set_cons_zero, List.set_cons_succ]
            refine hCall (i := 8) rfl (by kernel_rfl) (by rfl) (fun K hK => ?_)
            go_simp
            refine (hpl _).mono ?_
            rintro e u2 ⟨v8, rfl, hF8, hb2⟩
            replace A0 := A0.below hb2
            replace A1 := A1.below hb2
            replace A2 := A2.below hb2
            replace A3 := A3.below hb2
            replace A4 := A4.below hb2
            replace B8 := B8.below hb2
            replace hbW : Below w.heap.size w u2 := hbW.trans (hb2.mono hbW.size)
            replace hbR : Below wr.heap.size wr u2 := hbR.trans (hb2.mono hbR.size)
            clear hb2
            obtain ⟨n8, x8, y8, ⟨a8, c8, b8, d8, rfl, hx8, hy8⟩, hF8⟩ := hF8
            clear p00 p01 p02
            obtain ⟨p00, p01, p02, _⟩ := B8.cells
            go_wp2_with fail
            refine hK.out _ _ ?_ (fun hHeld => ?_)
            · (try dsimp only)
              exact ⟨A0.2, A1.2, A2.2, A3.2, A4.2⟩
            clear hK K
            try simp only [Act.put, List.setIfInBounds_toArray, List.set_cons_zero, List.set_cons_succ]
            refine hCall (i := 10) rfl (by kernel_rfl) (by rfl) (fun K hK => ?_)
            go_simp
            obtain ⟨u63, hU, A8, hbU, hK9, ho⟩ := set3_world B8 (.bool n8) (.slice a8 x8.length c8) (.slice b8 y8.length d8)
            rw [← hU]
            clear hU
            replace hbW := hbU _ _ hbW (by omega)
            replace hbR := hbU _ _ hbR (by omega)
            replace hx8 := hK9 _ _ _ hx8
            replace hy8 := hK9 _ _ _ hy8
            clear hbU hK9 ho A0 A1 A2 A3 A4
            obtain ⟨A0, A1, A2, A3, A4⟩ := HA4.out
            replace A0 := A0.below hbR
            replace A1 := A1.below hbR
            replace A2 := A2.below hbR
            replace A3 := A3.below hbR
            replace A4 := A4.below hbR
            clear p00 p01 p02
            obtain ⟨p00, p01, p02, _⟩ := A8.cells
            refine hK.out _ _ ?_ (fun hHeld => ?_)
            · (try dsimp only)
              exact ⟨A0.2, A1.2, A2.2, A3.2, A4.2⟩
            clear hK K
            try simp only [Act.put, List.setIfInBounds_toArray, List.set_cons_zero, List.set_cons_succ]
            refine wpAnyH_done (by kernel_rfl) ?_ _
            clear hHeld
            go_wp2_with fail
            go_meet
            exact ⟨g8, _, _, _, _, _, _, _, rfl, A8, ⟨_, _, _, ⟨_, _, _, _, rfl, hx8, hy8⟩, hF8⟩, n81, hbR⟩
        case rest =>
        clear hbW hbR A0 A1 A2 A3 A4 d0 d1 d2 d3 dz hpl
        obtain ⟨g8, n8, a8, x8, c8, b8, y8, d8, rfl, A8, hF8, n81, hbR⟩ := hcut
        obtain ⟨p0, p1, p2, _⟩ := A8.cells
        by_cases h0 : m.length = 0
        · have g0 : decide ((0 : Int) < (m.length : Int)) = false := decide_eq_false (by omega)
          have g1 : ¬ (0 : Int) < (m.length : Int) := by omega
          rw [← HX0.out h0] at hF8
          replace hF8 := hF8.le (show 2 ≤ 15 by decide)
          clear h0
          have hT4 := (HT.out.below hbR).below (bl1 (.cells #[.bool n8, .slice a8 x8 c8, .slice b8 y8 d8] 45))
          have B5 := Box.new 45 wc (.bool n8) (.slice a8 x8 c8) (.slice b8 y8 d8)
          have hF5 := hF8.below (bl1 (.cells #[.bool n8, .slice a8 x8 c8, .slice b8 y8 d8] 45))
          have hB5 : Below u2.heap.size u2 (wc.alloc (.cells #[.bool n8, .slice a8 x8 c8, .slice b8 y8 d8] 45)) := (hBu.trans (hbR.mono hBu.size)).alloc (Nat.le_trans hBu.size hbR.size) _
          obtain ⟨r0, r1, r2, _⟩ := B5.cells
          have hbs5 : u2.heap.size ≤ (wc.alloc (.cells #[.bool n8, .slice a8 x8 c8, .slice b8 y8 d8] 45)).heap.size := hB5.size
          go_wp2_with (at_builtin; refine wpList_append_srt rfl _ _ rfl u2.heap.size _ 15 (exK l m ps k) (exQ l m ps k) rfl hT4 wc.heap.size _ _ _ rfl r0 r1 r2 hF5 hll hbs5 ?_)
          intro v' w9 hT9 hgrow
          have hB9 : Below u2.heap.size u2 w9 := hB5.grown hgrow hbs5 (fun k hk => (HT.out.lo hk).1)
          rw [← HS.out] at hT9
          clear hgrow hT4 B5 hF5 hB5 r0 r1 r2 hbs5 p0 p1 p2
          go_wp2
          go_roundw
          case rel => exact ⟨k + 1, by omega, by go_num, hT9, hB9⟩
          case measure => simp [intOf]; omega
        · have g1 : (0 : Int) < (m.length : Int) := by omega
          have hkm : k < m.length := by rcases HL2.out with e | e <;> omega
          obtain ⟨bb, boff, ya, yc, eb, hbb, dy, hy⟩ := HM.out.at hB k hkm
          subst eb
          obtain ⟨y, hym⟩ : ∃ y, m.getD k [] = y := ⟨_, rfl⟩
          rw [hym] at dy hy HX
          clear hym h0
          have C0 : Cl wr bb (boff + k) (.slice ya y.length yc) := ⟨Nat.lt_of_lt_of_le hbb hB.size, dy⟩
          have C1 := C0.below hbR
          have hy1 := hy.below hbR
          have c1 := C1.2
          clear dy
          go_wp2_with fail
          refine wp_region_held_drew (S := (fun u => u.cell? ⟨bb, boff + k, none⟩ = some (.slice ya y.length yc))) (by kernel_rfl) ?_ (fun hHeld => ?_)
          · (try dsimp only)
            go_keep
          have hdr : Below wc.heap.size wc wc.drew := Below.drew1
          generalize wc.drew = v0 at hdr hHeld ⊢
          replace hbR := hbR.trans (hdr.mono hbR.size)
          replace A8 := A8.below hdr
          replace hF8 := hF8.below hdr
          replace C1 := C1.below hdr
          replace hy1 := hy1.below hdr
          clear hdr p0 p1 p2 c1
          obtain ⟨p0, p1, p2, _⟩ := A8.cells
          refine hT 0 hHeld ?_
          refine hT 1 hHeld ?_
          refine hT 2 hHeld ?_
          refine hT 3 hHeld ?_
          refine hCall (i := 4) rfl (by kernel_rfl) (by rfl) (fun K hK => ?_)
          go_simp
          refine hK.out _ _ ?_ (fun hHeld => ?_)
          · (try dsimp only)
            exact C1.2
          clear hK K
          try simp only [Act.put, List.setIfInBounds_toArray, List.set_cons_zero, List.set_cons_succ]
          refine hCall (i := 5) rfl (by kernel_rfl) (by rfl) (fun K hK => ?_)
          go_simp
          refine (sbend_any 2 p _ ya yc y v0 hy1 hF8.ct (by decide) (by decide)).mono ?_
          rintro e v1 ⟨v9, rfl, hF9, hb9⟩
          replace hbR := hbR.trans (hb9.mono hbR.size)
          replace A8 := A8.below hb9
          replace C1 := C1.below hb9
          clear hb9 p0 p1 p2 hF8 hy1
          rw [← HX.out] at hF9
          obtain ⟨n9, x9, y9, ⟨a9, c9, b9, d9, rfl, hx9, hy9⟩, hF9⟩ := hF9
          go_wp2_with fail
          refine hK.out _ _ ?_ (fun hHeld => ?_)
          · (try dsimp only)
            exact C1.2
          clear hK K
          try simp only [Act.put, List.setIfInBounds_toArray, List.set_cons_zero, List.set_cons_succ]
          refine hCall (i := 6) rfl (by kernel_rfl) (by rfl) (fun K hK => ?_)
          obtain ⟨q1, q2, q3, q4, q5, q6⟩ := A8.cells
          go_simp
          obtain ⟨v2, hU, A9, hbU, hK9, ho⟩ := set3_world A8 (.bool n9) (.slice a9 x9.length c9) (.slice b9 y9.length d9)
          rw [← hU]
          clear hU q1 q2 q3 q4 q5 q6
          replace hbR := hbU _ _ hbR n81
          replace hx9 := hK9 _ _ _ hx9
          replace hy9 := hK9 _ _ _ hy9
          have hF9 : Fr v2 (.agg #[.bool n9, .slice a9 x9.length c9, .slice b9 y9.length d9]) 15 (exQ l m ps k) := ⟨_, _, _, ⟨_, _, _, _, rfl, hx9, hy9⟩, hF9⟩
          have C2 := C0.below hbR
          clear hbU hK9 ho hx9 hy9
          refine hK.out _ _ ?_ (fun hHeld => ?_)
          · (try dsimp only)
            exact C2.2
          clear hK K hHeld
          try simp only [Act.put, List.setIfInBounds_toArray, List.set_cons_zero, List.set_cons_succ]
          refine wpAnyH_done (by kernel_rfl) ?_ _
          obtain ⟨p0, p1, p2, _⟩ := A9.cells
          have hT4 := (HT.out.below hbR).below (bl1 (.cells #[.bool n9, .slice a9 x9.length c9, .slice b9 y9.length d9] 45))
          have B5 := Box.new 45 v2 (.bool n9) (.slice a9 x9.length c9) (.slice b9 y9.length d9)
          have hF5 := hF9.below (bl1 (.cells #[.bool n9, .slice a9 x9.length c9, .slice b9 y9.length d9] 45))
          have hB5 : Below u2.heap.size u2 (v2.alloc (.cells #[.bool n9, .slice a9 x9.length c9, .slice b9 y9.length d9] 45)) := (hBu.trans (hbR.mono hBu.size)).alloc (Nat.le_trans hBu.size hbR.size) _
          obtain ⟨r0, r1, r2, _⟩ := B5.cells
          have hbs5 : u2.heap.size ≤ (v2.alloc (.cells #[.bool n9, .slice a9 x9.length c9, .slice b9 y9.length d9] 45)).heap.size := hB5.size
          go_wp2_with (at_builtin; refine wpList_append_srt rfl _ _ rfl u2.heap.size _ 15 (exK l m ps k) (exQ l m ps k) rfl hT4 v2.heap.size _ _ _ rfl r0 r1 r2 hF5 hll hbs5 ?_)
          intro v' w9 hT9 hgrow
          have hB9 : Below u2.heap.size u2 w9 := hB5.grown hgrow hbs5 (fun k hk => (HT.out.lo hk).1)
          rw [← HS.out] at hT9
          clear hgrow hT4 B5 hF5 hB5 r0 r1 r2 hbs5 p0 p1 p2
          go_wp2
          go_roundw
          case rel => exact ⟨k + 1, by omega, by go_num, hT9, hB9⟩
          case measure => simp [intOf]; omega
      · obtain rfl : k = l.length := by omega
        go_wp2
        go_ret2
        exact ⟨a2, c2, by rw [exK_len]; rfl, hts, hB⟩

end Go.Proofs.YtdpafdeoepbhaaaGreat

namespace Go.Proofs.YtdpafdeoepbhaaaGreat
open Go.RowKit Go.Maps
set_option linter.unusedSimpArgs false
set_option linter.unusedVariables false

set_option maxHeartbeats 2000000 in
set_option maxRecDepth 100000 in
theorem sat_any (a : Option Addr) (cap : Nat) (l : List Ax) (b : Option Addr) (bc : Nat) (m : List (List Pr)) (pa : Option Addr) (pc : Nat) (ps : List Int) (w : World) (h : As w a cap l) (hm : Pzz w b bc m) (hp : Ri w pa pc ps) (hlp : ps.length ≤ 1000) :
    Calls Tryz.prog 7 #[.slice a l.length cap, .slice b m.length bc, .slice pa ps.length pc] w fun e w' => ∃ a' cap', e = .returned (.tuple #[.slice a' (atL l m ps).length cap', .int .i64 (exE l m)]) ∧ Ri w' a' cap' (atL l m ps) ∧ Below w.heap.size w w' := by
  have hex := sexact_any a cap l b bc m pa pc ps w h hm hp hlp
  have hq4 := exL_len4 l m ps
  clear h hm hp
  have HA : Hid (atL l m ps = rnK (exL l m ps) (exL l m ps).length) := rfl
  rw [HA.out]
  clear HA
  generalize exL l m ps = qs at *
  generalize exE l m = ee at *
  go_enter Tryz.func7, Tryz.ntmps7
  go_wp2_with fail
  refine hex.mono ?_
  rintro e u1 ⟨a1, c1, rfl, hQ, hb1⟩
  have HQ : Hid (Rz u1 a1 c1 15 qs) := hQ
  clear hex hQ
  have hI0 : Io u1.heap.size u1 (.slice none 0 0) (rnK qs 0) := Io.nil _ _
  go_wp2
  go_loopw [10, 11] (fun v i wr => ∃ k : Nat, k ≤ qs.length ∧ i = .int .i64 k ∧ Io u1.heap.size wr v (rnK qs k) ∧ Below u1.heap.size u1 wr) (fun _ i _ => qs.length - (intOf i).toNat)
  case atStart => exact ⟨0, Nat.zero_le _, rfl, hI0, Below.refl _ _⟩
  case round =>
    obtain ⟨k, hk, rfl, hT, hBu⟩ := hrel
    obtain ⟨a2, c2, rfl, hts⟩ := hT.slice
    have hlen := rnK_len hk
    rw [hlen] at hT ⊢
    have hll : (rnK qs k).length + 1 ≤ 1000000 := by omega
    have HT : Hid (Io u1.heap.size wr (.slice a2 k c2) (rnK qs k)) := hT
    clear hT hlen hI0
    by_cases hkn : k < qs.length
    · clear hts
      obtain ⟨b0, off, x, y, z, ea, hb, d0, d1, d2, hF⟩ := HQ.out.at hBu k hkn
      subst ea
      have HS : Hid (rnK qs (k + 1) = rnK qs k ++ [to14 (qs.getD k 0)]) := rnK_succ hkn
      generalize qs.getD k 0 = q at *
      have HI : Hid (I64 (to14 q)) := t14_i64 q
      obtain ⟨n1, xs, ys, ⟨ax, cx, ay, cy, e3, hx, hy⟩, hF3⟩ := hF
      have hF : Fr wr (.agg #[x, y, z]) 15 q := ⟨n1, xs, ys, ⟨ax, cx, ay, cy, e3, hx, hy⟩, hF3⟩
      simp at e3
      obtain ⟨rfl, rfl, rfl⟩ := e3
      clear hx hy hF3
      have hto := sto14_any 15 q _ wr hF.ct (by decide) (by decide)
      obtain ⟨c, hc⟩ : ∃ c, to14 q = c := ⟨_, rfl⟩
      rw [hc] at hto HI HS
      clear hc
      go_wp2_with fail
      refine hto.mono ?_
      rintro e u2 ⟨rfl, hb2⟩
      have hT2 := HT.out.below hb2
      have hB2u : Below u1.heap.size u1 u2 := hBu.trans (hb2.mono hBu.size)
      clear hto
      have hT5 := hT2.below (bl1 (.cells #[.int .i64 c] 3))
      have hN := heap_alloc_new u2 (.cells #[.int .i64 c] 3)
      have n0 := cell_of_row _ u2.heap.size 0 _ _ (0, 0) hN
      have hbsu : u1.heap.size ≤ (u2.alloc (.cells #[.int .i64 c] 3)).heap.size := by have := hB2u.size; simp at this ⊢; omega
      clear hN
      go_wp2_with (at_builtin; refine wpList_append_int rfl _ _ rfl u1.heap.size _ (rnK qs k) rfl hT5 u2.heap.size c rfl n0 HI.out hll hbsu ?_)
      intro v' w9 hT9 hgrow
      have hB9u : Below u1.heap.size u1 w9 := (hB2u.alloc hB2u.size _).grown hgrow hbsu (fun k hk => HT.out.lo hk)
      rw [← HS.out] at hT9
      clear hgrow hT5 n0 hbsu
      go_wp2
      go_roundw
      case rel => exact ⟨k + 1, by omega, by go_num, hT9, hB9u⟩
      case measure => simp [intOf]; omega
    · obtain rfl : k = qs.length := by omega
      go_wp2
      go_ret2
      exact ⟨a2, c2, by rw [rnK_len (Nat.le_refl _)]; rfl, hts, hb1.trans (hBu.mono hb1.size)⟩

end Go.Proofs.YtdpafdeoepbhaaaGreat

namespace Go.Proofs.YtdpafdeoepbhaaaGreat
open Go.RowKit
set_option linter.unusedSimpArgs false
set_option linter.unusedVariables false
/-- foundryref02.Same, of formed fractions of one number. -/
theorem same3_any (k l : Nat) (q r : Rat) (v v' : Value) (w : World) (h : Fr w v k q) (h' : Fr w v' l r) (hqr : q = r) :
    Calls Tryz.prog 13 #[v, v'] w fun e w' => e = .returned (.bool true) ∧ Below w.heap.size w w' := by
  obtain ⟨n, xs, ys, ⟨a, c, a', c', rfl, hx, hy⟩, f1, _, _, e1⟩ := h
  obtain ⟨m, ps, qs, ⟨b, d, b', d', rfl, hp, hq⟩, f2, _, _, e2⟩ := h'
  obtain ⟨rfl, rfl, rfl⟩ := f1.uniq f2 hx.lim hy.lim hp.lim hq.lim (by rw [e1, e2, hqr])
  refine (alike2_any _ _ _ _ _ _ _ _ _ _ _ _ _ _ _ hx hy hp hq).mono ?_
  rintro e u ⟨rfl, hb⟩
  exact ⟨ret_bool (by simp), hb⟩

theorem awake3_third : to14 (((1 : Int) : Rat) / ((3 : Int) : Rat)) = 5461 := by decide +kernel

end Go.Proofs.YtdpafdeoepbhaaaGreat

namespace Go.Proofs.YtdpafdeoepbhaaaGreat
open Go.RowKit Go.Maps
set_option linter.unusedSimpArgs false
set_option linter.unusedVariables false

set_option maxHeartbeats 1000000 in
set_option maxRecDepth 100000 in
theorem ssameI_any (a b : Option Addr) (ca cb : Nat) (zs : List Int) (w : World) (ha : Ri w a ca zs) (hb : Ri w b cb zs) :
    Calls Tryz.prog 10 #[.slice a zs.length ca, .slice b zs.length cb] w fun e w' => e = .returned (.bool true) ∧ Below w.heap.size w w' := by
  have k1 := ha.2.1
  have k2 := ha.2.2.1
  unfold maxLen at k2
  have hne : ((zs.length : Int) != (zs.length : Int)) = false := by simp
  have HA : Hid (Ri w a ca zs) := ha
  have HB : Hid (Ri w b cb zs) := hb
  clear ha hb
  go_enter Tryz.func10, Tryz.ntmps10
  go_wp2
  go_loopw [5] (fun i wr => ∃ k : Nat, k ≤ zs.length ∧ i = .int .i64 k ∧ Below w.heap.size w wr) (fun i _ => zs.length - (intOf i).toNat)
  case atStart => exact ⟨0, Nat.zero_le _, rfl, Below.refl _ _⟩
  case round =>
    obtain ⟨k, hk, rfl, hnx⟩ := hrel
    by_cases hkn : k < zs.length
    · obtain ⟨b1, o1, rfl, _, c1⟩ := HA.out.at hnx k hkn
      obtain ⟨b2, o2, rfl, _, c2⟩ := HB.out.at hnx k hkn
      obtain ⟨x, hx⟩ : ∃ x, zs.getD k 0 = x := ⟨_, rfl⟩
      rw [hx] at c1 c2
      have hxx : ((x : Int) != (x : Int)) = false := by simp
      clear hx
      have i1 : (0 : Int) ≤ (k : Int) := by omega
      have i2 : (k : Int) < (zs.length : Int) := by omega
      go_wp2_with fail
      go_quiet (fail)
      go_wp2
      go_roundw
      case rel => exact ⟨k + 1, by omega, by go_num, below_drewN hnx _⟩
      case measure => simp [intOf]; omega
    · go_wp2
      go_ret
      exact ⟨rfl, hnx⟩

end Go.Proofs.YtdpafdeoepbhaaaGreat

namespace Go.Proofs.YtdpafdeoepbhaaaGreat
open Go.RowKit
set_option linter.unusedSimpArgs false
set_option linter.unusedVariables false

/-- A slice of integers that came in: it is nil; or it leads to a row of 'cap' cells, the numbers 'zs' (the first 'len' are its elements), each fitting its kind. -/
def IsRowK (k : IntKind) (w : World) (a : Option Addr) (len cap : Nat) (zs : List Int) : Prop :=
  (a = none ∧ len = 0 ∧ cap = 0 ∧ zs = []) ∨
  ∃ x, a = some x ∧ len ≤ cap ∧ cap ≤ maxLen ∧ zs.length = cap ∧ (∀ i, i < zs.length → w.cell? (x.add i) = some (.int k (zs.getD i 0))) ∧ ∀ n ∈ zs, (Lit.int k n).wf = true

theorem wfo_u8_bounds {n : Int} (h : (Lit.int .u8 n).wf = true) : 0 ≤ n ∧ n < 256 := by
  simp [Lit.wf, IntKind.min, IntKind.max, IntKind.bits, IntKind.signed] at h
  omega
theorem wfo_i32_bounds {n : Int} (h : (Lit.int .i32 n).wf = true) : -2147483648 ≤ n ∧ n ≤ 2147483647 := by
  simp [Lit.wf, IntKind.min, IntKind.max, IntKind.bits, IntKind.signed] at h
  omega
theorem wfo_i64_bounds {n : Int} (h : (Lit.int .i64 n).wf = true) : -9223372036854775808 ≤ n ∧ n ≤ 9223372036854775807 := by
  simp [Lit.wf, IntKind.min, IntKind.max, IntKind.bits, IntKind.signed] at h
  omega

theorem IsRowK.cells {k : IntKind} {w : World} {a : Option Addr} {len cap : Nat} {zs : List Int} (h : IsRowK k w a len cap zs) :
    ∃ ys : List Int, len = ys.length ∧ (∀ y ∈ ys, (Lit.int k y).wf = true) ∧ ys.length ≤ cap ∧ cap ≤ maxLen ∧ (a = none → cap = 0) ∧
      (ys = [] ∨ ∃ b off, a = some ⟨b, off, none⟩ ∧ b < w.heap.size ∧ ∀ i, i < ys.length → w.cell? ⟨b, off + i, none⟩ = some (.int k (ys.getD i 0))) := by
  rcases h with ⟨rfl, rfl, rfl, rfl⟩ | ⟨x, rfl, h1, h2, h3, hc, hw⟩
  · exact ⟨[], rfl, (fun y hy => by cases hy), Nat.le_refl _, Nat.zero_le _, fun _ => rfl, .inl rfl⟩
  · refine ⟨zs.take len, by simp; omega, fun y hy => hw y (List.mem_of_mem_take hy), by simp; omega, h2, (by simp), ?_⟩
    by_cases h0 : len = 0
    · exact .inl (by simp [h0])
    · obtain ⟨b, off, spot⟩ := x
      have c0 := hc 0 (by omega)
      have hspot : spot = none := by simpa [Addr.add] using World.cell?_spot c0
      subst hspot
      refine .inr ⟨b, off, rfl, ?_, fun i hi => ?_⟩
      · have := World.block_lt_of_cell? w _ c0
        simpa [Addr.add] using this
      · simp at hi
        have hadd : (⟨b, off, none⟩ : Addr).add i = ⟨b, off + i, none⟩ := by unfold Addr.add; split <;> simp_all
        have hci := hc i (by omega)
        rw [hadd] at hci
        rw [hci]
        simp [List.getD, show i < len by omega]

theorem IsRowK.rb {w : World} {a : Option Addr} {len cap : Nat} {zs : List Int} (h : IsRowK .u8 w a len cap zs) : ∃ xs : List Nat, len = xs.length ∧ Rb w a cap xs := by
  obtain ⟨ys, h1, h2, h3, h4, h5, h6⟩ := h.cells
  have hb : ∀ y ∈ ys, 0 ≤ y ∧ y < 256 := fun y hy => wfo_u8_bounds (h2 y hy)
  refine ⟨ys.map Int.toNat, by simp [h1], ?_, by simpa using h3, h4, h5, ?_⟩
  · intro x hx
    obtain ⟨y, hy, rfl⟩ := List.mem_map.1 hx
    have := hb y hy
    omega
  · rcases h6 with rfl | ⟨b, off, e, hlt, hc⟩
    · exact .inl rfl
    · refine .inr ⟨b, off, e, hlt, fun i hi => ?_⟩
      simp at hi
      rw [hc i hi]
      have h0 : ys.getD i 0 = ys[i] := by simp [List.getD, hi]
      have hy := hb ys[i] (List.getElem_mem hi)
      rw [h0]
      simp [List.getD, hi]
      omega

end Go.Proofs.YtdpafdeoepbhaaaGreat
