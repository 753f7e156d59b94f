/-
  foundryref07.Read, foundryref07.Same: the walks.
  foundryref07.Same, of two alike: the walk.
-/
import Derived.Test.YtdholmnniccbcaaGreatDoorZ27
import Derived.Test.YtdholmnniccbcaaGreatDoorZ26
namespace Go.Proofs.YtdholmnniccbcaaGreatDoor
open Go.RowKit Go.Maps
set_option linter.unusedSimpArgs false
set_option linter.unusedVariables false

theorem rsK_le (b : List Nat) (k : Nat) : (rsK b k).2 ≤ 2 + 70 * k := by
  induction k with
  | zero => exact Nat.le_refl _
  | succ k ih =>
    rw [rsK]
    dsimp only
    omega

set_option maxHeartbeats 4000000 in
set_option maxRecDepth 100000 in
theorem sreadP_any (a : Option Addr) (cap : Nat) (xs : List Nat) (w : World) (h : Rb w a cap xs) (hlx : xs.length ≤ 1000000000) :
    Calls Tryz.prog 19 #[.slice a xs.length cap] w fun e w' => ∃ a' cap', e = .returned (.tuple #[.slice a' (rdPL xs).length cap', .int .i64 (rdPE xs)]) ∧ Pzz w' a' cap' (rdPL xs) ∧ Below w.heap.size w w' := by
  have k1 := h.le
  have k2 := h.cap
  unfold maxLen at k2
  have HH : Hid (Rb w a cap xs) := h
  have HBY : Hid (Byt xs) := h.lim
  have hnb := nmV_lt h.lim 0 2
  have HEQ : Hid (rsB xs = rdPB xs ∧ (rdPB xs = true → (rsK xs (min (nmV xs 0 2) 5)).1 = rdPL xs)) := rsB_eq h.lim
  have HBAD : Hid (rdPB xs = false → rdPE xs = 2 ∧ rdPL xs = []) := by
    show rdPB xs = false → _
    intro e
    exact ⟨by simp [rdPE, e], by simp [rdPL, e]⟩
  have HGOOD : Hid (rdPB xs = true → rdPE xs = 0) := by
    show rdPB xs = true → _
    intro e
    simp [rdPE, e]
  have hu := su16_any a cap xs 0 w h ⟨by decide, by decide⟩
  obtain ⟨n, hn⟩ : ∃ n, nmV xs 0 2 = n := ⟨_, rfl⟩
  have HRS : Hid (rsB xs = (frL (rsK xs (min n 5)).1 && decide (bnB (rsK xs (min n 5)).1 = xs))) := by show _ = _; rw [rsB, hn]
  rw [hn] at hnb hu HEQ
  have hnb' : n < 65536 := hnb
  clear hn h hnb
  generalize inB xs.length 0 2 = ib at *
  go_enter Tryz.func19, Tryz.ntmps19
  go_wp2_with fail
  refine hu.mono ?_
  rintro e u ⟨rfl, rfl⟩
  clear hu
  go_wp2
  go_loopw [6, 7, 8] (fun at_ v i wr => ∃ k : Nat, k ≤ min n 5 ∧ i = .int .i64 k ∧ at_ = .int .i64 (((rsK xs k).2 : Nat) : Int) ∧ Pq w.heap.size wr v (rsK xs k).1 ∧ Below w.heap.size w wr) (fun _ _ i _ => n - (intOf i).toNat)
  case atStart => exact ⟨0, Nat.zero_le _, rfl, rfl, Pq.nil _ _, Below.refl _ _⟩
  case round =>
    obtain ⟨k, hk, rfl, rfl, hT, hB⟩ := hrel
    have hpl := rsK_le xs k
    have hml := rsK_len xs k
    have HK1 : Hid (rsK xs (k + 1) = ((rsK xs k).1 ++ [prsAt xs (rsK xs k).2 (min (cnP xs (rsK xs k).2) 17)], (rsK xs k).2 + 2 + 4 * min (cnP xs (rsK xs k).2) 17)) := rfl
    obtain ⟨P, hP⟩ : ∃ P, (rsK xs k).2 = P := ⟨_, rfl⟩
    obtain ⟨M, hM⟩ : ∃ M, (rsK xs k).1 = M := ⟨_, rfl⟩
    have HPM : Hid ((rsK xs k).2 = P ∧ (rsK xs k).1 = M) := ⟨hP, hM⟩
    rw [hP] at hpl HK1 ⊢
    rw [hM] at hT HK1 hml
    obtain ⟨a2, c2, rfl, hts⟩ := hT.slice
    rw [hml] at hT ⊢
    have HT : Hid (Pq w.heap.size wr (.slice a2 k c2) M) := hT
    have HTS : Hid (Pzz wr a2 c2 M) := hts
    have HML : Hid (M.length = k) := hml
    clear hT hts hP hM hml
    by_cases hkn : k < n ∧ k ≤ 4
    · have g1 : decide ((k : Int) < (n : Int)) = true := decide_eq_true (by omega)
      have g2 : decide ((k : Int) ≤ 4) = true := decide_eq_true (by omega)
      have hr := HH.out.below hB
      have hu2 := su16_any a cap xs (P : Int) wr hr ⟨by omega, by omega⟩
      have hcb : cnP xs P < 65536 := nmV_lt HBY.out _ 2
      obtain ⟨c, hc⟩ : ∃ c, nmV xs (P : Int) 2 = c := ⟨_, rfl⟩
      have HC : Hid (cnP xs P = c) := hc
      rw [hc] at hu2
      rw [HC.out] at hcb HK1
      generalize inB xs.length (P : Int) 2 = ib2 at *
      clear hc hr
      go_wp2_with fail
      refine hu2.mono ?_
      rintro e u2 ⟨rfl, rfl⟩
      clear hu2
      obtain ⟨wo, rfl⟩ : ∃ wo, wo = wr := ⟨_, rfl⟩
      have HBo : Hid (Below w.heap.size w wo) := hB
      clear hB
      go_wp2
      go_loopw [6, 11, 12] (fun at_ v i wr2 => ∃ j : Nat, j ≤ min c 17 ∧ i = .int .i64 j ∧ at_ = .int .i64 ((P : Int) + 2 + 4 * (j : Int)) ∧ Po wo.heap.size wr2 v (prsAt xs P j) ∧ Below wo.heap.size wo wr2) (fun _ _ i _ => c - (intOf i).toNat)
      case atStart => exact ⟨0, Nat.zero_le _, rfl, by go_num, Po.nil _ _, Below.refl _ _⟩
      case round =>
        obtain ⟨j, hj, rfl, rfl, hT, hB⟩ := hrel
        obtain ⟨a4, c4, rfl, hts, hlo⟩ := hT.slice
        rw [prsAt_len] at hT ⊢
        have HTI : Hid (Po wo.heap.size wr (.slice a4 j c4) (prsAt xs P j)) := hT
        have HTI2 : Hid (Pz wr a4 c4 (prsAt xs P j) ∧ ∀ b o, a4 = some ⟨b, o, none⟩ → wo.heap.size ≤ b) := ⟨hts, hlo⟩
        clear hT hts hlo
        have hBw : Below w.heap.size w wr := HBo.out.trans (hB.mono HBo.out.size)
        by_cases hjn : j < c ∧ j ≤ 16
        · have g3 : decide ((j : Int) < (c : Int)) = true := decide_eq_true (by omega)
          have g4 : decide ((j : Int) ≤ 16) = true := decide_eq_true (by omega)
          have HV : Hid (prAt xs P j = (sx16 (nmV xs ((P : Int) + 2 + 4 * (j : Int)) 2), sx16 (nmV xs ((P : Int) + 2 + 4 * (j : Int) + 2) 2))) := by
            show prAt xs P j = _
            rw [prAt, show ((P + 2 + 4 * j : Nat) : Int) = (P : Int) + 2 + 4 * (j : Int) by omega, show ((P + 2 + 4 * j + 2 : Nat) : Int) = (P : Int) + 2 + 4 * (j : Int) + 2 by omega]
          have HZ1 : Hid (I64 (sx16 (nmV xs ((P : Int) + 2 + 4 * (j : Int)) 2))) := sx16_i64 HBY.out _
          have HZ2 : Hid (I64 (sx16 (nmV xs ((P : Int) + 2 + 4 * (j : Int) + 2) 2))) := sx16_i64 HBY.out _
          have hr := HH.out.below hBw
          go_wp2_with fail
          refine (si16_any a cap xs ((P : Int) + 2 + 4 * (j : Int)) _ hr ⟨by omega, by omega⟩).mono ?_
          rintro e v1 ⟨rfl, rfl⟩
          generalize sx16 (nmV xs ((P : Int) + 2 + 4 * (j : Int)) 2) = z1 at *
          generalize inB xs.length ((P : Int) + 2 + 4 * (j : Int)) 2 = b1
          go_wp2_with fail
          refine (si16_any a cap xs ((P : Int) + 2 + 4 * (j : Int) + 2) _ hr ⟨by omega, by omega⟩).mono ?_
          rintro e v2 ⟨rfl, rfl⟩
          generalize sx16 (nmV xs ((P : Int) + 2 + 4 * (j : Int) + 2) 2) = z2 at *
          generalize inB xs.length ((P : Int) + 2 + 4 * (j : Int) + 2) 2 = b2
          clear hr
          have hT5 := HTI.out.below (bl1 (.cells #[.int .i64 z1, .int .i64 z2] 49))
          have hll : (prsAt xs P j).length + 1 ≤ 1000000 := by rw [prsAt_len]; omega
          obtain ⟨n0, n1, _⟩ := (BxP.new wr (.int .i64 z1) (.int .i64 z2)).cells
          have hbs : wo.heap.size ≤ (wr.alloc (.cells #[.int .i64 z1, .int .i64 z2] 49)).heap.size := by have := hB.size; simp; omega
          go_wp2_with (at_builtin; refine wpList_append_pr rfl _ _ rfl wo.heap.size _ (prsAt xs P j) rfl hT5 wr.heap.size (z1, z2) rfl n0 n1 ⟨HZ1.out, HZ2.out⟩ hll hbs ?_)
          intro v' w9 hT9 hgrow
          have hB9 : Below wo.heap.size wo w9 := (hB.alloc hB.size _).grown hgrow hbs (fun k hk => HTI.out.lo hk)
          have HT9 : Hid (Po wo.heap.size w9 v' (prsAt xs P (j + 1))) := by
            show Po _ _ _ _
            rw [prsAt_succ, HV.out]
            exact hT9
          clear hgrow hT5 hT9 n0 n1 hbs hB hBw
          go_wp2
          go_roundw
          case rel => exact ⟨j + 1, by omega, by go_num, by go_num, HT9.out, hB9⟩
          case measure => simp [intOf]; omega
        · have hje : j = min c 17 := by omega
          have HPL : Hid ((prsAt xs P j).length = j) := prsAt_len _ _ _
          have hjb : j ≤ 17 := by omega
          rw [← hje] at HK1
          have hcd : (j : Int) < (c : Int) → ¬ (j : Int) ≤ 16 := by intro h1 h2; omega
          have HT2 : Hid (Pq w.heap.size wr (.slice a2 k c2) M) := HT.out.below hB
          have HLO : Hid (∀ b o, a4 = some ⟨b, o, none⟩ → prsAt xs P j ≠ [] → (Value.slice a2 k c2).ownBlock ≠ some b) := fun b o e _ e2 => by
            have h1 := HTI2.out.2 b o e
            have h3 := (HT.out.lo e2).2
            omega
          have hp3 := HTI2.out.1
          obtain ⟨l, hl⟩ : ∃ l, prsAt xs P j = l := ⟨_, rfl⟩
          rw [hl] at HPL HLO hp3 HK1
          have hT5 := HT2.out.below (bl1 (.cells #[.slice a4 l.length c4] 22))
          have hp5 := hp3.below (bl1 (.cells #[.slice a4 l.length c4] 22))
          have hN := heap_alloc_new wr (.cells #[.slice a4 l.length c4] 22)
          have n0 := cell_of_row _ wr.heap.size 0 _ _ (0, 0) hN
          have hll : M.length + 1 ≤ 1000000 := by rw [HML.out]; omega
          have hbs : w.heap.size ≤ (wr.alloc (.cells #[.slice a4 l.length c4] 22)).heap.size := by have := hBw.size; simp; omega
          rw [HPL.out] at hT5 hp5 n0 hbs
          have HC0 : Hid (some (Value.slice a4 j c4) = some (Value.slice a4 l.length c4)) := by show _ = _; rw [HPL.out]
          clear hN hp3 hl hje
          by_cases hjc : j < c
          · have g3 : decide ((j : Int) < (c : Int)) = true := decide_eq_true (by omega)
            have g4 : decide ((j : Int) ≤ 16) = false := decide_eq_false (by omega)
            clear hcd
            go_wp2_with (at_builtin; refine wpList_append_bn rfl _ _ rfl w.heap.size _ M rfl hT5 wr.heap.size a4 c4 l rfl (n0.trans HC0.out) hp5 HLO.out hll hbs ?_)
            intro v' w9 hT9 hgrow
            have hB9 : Below w.heap.size w w9 := (hBw.alloc hBw.size _).grown hgrow hbs (fun k hk => (HT.out.lo hk).1)
            have HT9 : Hid (Pq w.heap.size w9 v' (rsK xs (k + 1)).1) := by
              show Pq _ _ _ _
              rw [HK1.out]
              exact hT9
            have HAT : Hid (((P : Int) + 2 + 4 * (j : Int)) = (((rsK xs (k + 1)).2 : Nat) : Int)) := by show _ = _; rw [HK1.out]; dsimp only; omega
            clear hgrow hT5 hT9 n0 hbs hp5 hB hBw
            go_wp2
            go_roundw
            case rel => exact ⟨k + 1, by omega, by go_num, by rw [HAT.out], HT9.out, hB9⟩
            case measure => simp [intOf]; omega
          · have g3 : decide ((j : Int) < (c : Int)) = false := decide_eq_false (by omega)
            clear hcd
            go_wp2_with (at_builtin; refine wpList_append_bn rfl _ _ rfl w.heap.size _ M rfl hT5 wr.heap.size a4 c4 l rfl (n0.trans HC0.out) hp5 HLO.out hll hbs ?_)
            intro v' w9 hT9 hgrow
            have hB9 : Below w.heap.size w w9 := (hBw.alloc hBw.size _).grown hgrow hbs (fun k hk => (HT.out.lo hk).1)
            have HT9 : Hid (Pq w.heap.size w9 v' (rsK xs (k + 1)).1) := by
              show Pq _ _ _ _
              rw [HK1.out]
              exact hT9
            have HAT : Hid (((P : Int) + 2 + 4 * (j : Int)) = (((rsK xs (k + 1)).2 : Nat) : Int)) := by show _ = _; rw [HK1.out]; dsimp only; omega
            clear hgrow hT5 hT9 n0 hbs hp5 hB hBw
            go_wp2
            go_roundw
            case rel => exact ⟨k + 1, by omega, by go_num, by rw [HAT.out], HT9.out, hB9⟩
            case measure => simp [intOf]; omega
    · have hke : k = min n 5 := by omega
      have HRS3 : Hid (rsB xs = (frL M && decide (bnB M = xs))) := by show _ = _; rw [HRS.out, ← hke, HPM.out.2]
      have HEQ3 : Hid (rdPB xs = true → M = rdPL xs) := by
        show rdPB xs = true → _
        intro e
        have := HEQ.out.2 e
        rw [← hke, HPM.out.2] at this
        exact this
      have hwr := swriteP_any a2 c2 M wr HTS.out
      rw [HML.out] at hwr
      have HWR : Hid (wrPE M = (if frL M then 0 else 1) ∧ wrPB M = (if frL M then bnB M else [])) := ⟨rfl, rfl⟩
      have hcd : (n : Int) ≤ (k : Int) ∨ ((k : Int) < (n : Int) ∧ ¬ (k : Int) ≤ 4) := by omega
      clear hke
      cases hfr : frL M with
      | false =>
        have HE : Hid (rdPE xs = 2 ∧ rdPL xs = []) := HBAD.out (by rw [← HEQ.out.1, HRS3.out, hfr]; rfl)
        rw [HWR.out.1, HWR.out.2, hfr] at hwr
        simp only [Bool.false_eq_true, if_false, List.length_nil] at hwr
        rcases hcd with hc1 | ⟨hc1, hc2⟩
        · have g3 : decide ((k : Int) < (n : Int)) = false := decide_eq_false (by omega)
          clear hfr hkn
          go_wp2_with fail
          refine hwr.mono ?_
          rintro e u3 ⟨a9, c9, rfl, _, hb3⟩
          replace hB := hB.trans (hb3.mono hB.size)
          clear hwr hb3
          go_wp2
          go_ret2
          exact ⟨none, 0, by rw [HE.out.1, HE.out.2]; rfl, by rw [HE.out.2]; exact Pzz.nil _ _ _ (Nat.zero_le _), hB⟩
        · have g3 : decide ((k : Int) < (n : Int)) = true := decide_eq_true hc1
          have g4 : decide ((k : Int) ≤ 4) = false := decide_eq_false hc2
          clear hfr hkn
          go_wp2_with fail
          refine hwr.mono ?_
          rintro e u3 ⟨a9, c9, rfl, _, hb3⟩
          replace hB := hB.trans (hb3.mono hB.size)
          clear hwr hb3
          go_wp2
          go_ret2
          exact ⟨none, 0, by rw [HE.out.1, HE.out.2]; rfl, by rw [HE.out.2]; exact Pzz.nil _ _ _ (Nat.zero_le _), hB⟩
      | true =>
        have hk4 : ¬ ((k : Int) < (n : Int) ∧ ¬ (k : Int) ≤ 4) := by
          intro hh
          have := (frL_iff.1 hfr).1
          rw [HML.out] at this
          omega
        have hc1 : (n : Int) ≤ (k : Int) := by omega
        have g3 : decide ((k : Int) < (n : Int)) = false := decide_eq_false (by omega)
        rw [HWR.out.1, HWR.out.2, hfr] at hwr
        simp only [if_true] at hwr
        obtain ⟨fb, hfb⟩ : ∃ fb, bnB M = fb := ⟨_, rfl⟩
        rw [hfb] at hwr HRS3
        cases hd : decide (xs = fb) with
        | false =>
          have HE : Hid (rdPE xs = 2 ∧ rdPL xs = []) := HBAD.out (by rw [← HEQ.out.1, HRS3.out, hfr, decide_eq_false (fun e => of_decide_eq_false hd e.symm)]; rfl)
          clear hfr hkn hcd hfb hk4
          go_wp2_with fail
          refine hwr.mono ?_
          rintro e u3 ⟨a9, c9, rfl, hr9, hb3⟩
          replace hB := hB.trans (hb3.mono hB.size)
          have hr := HH.out.below hB
          have hsm := same8g_any a a9 cap c9 xs fb u3 hr hr9
          rw [hd] at hsm
          clear hwr hb3 hr hr9 hd
          go_wp2_with fail
          refine hsm.mono ?_
          rintro e u4 ⟨rfl, hb4⟩
          replace hB := hB.trans (hb4.mono hB.size)
          clear hsm hb4
          go_wp2
          go_ret2
          exact ⟨none, 0, by rw [HE.out.1, HE.out.2]; rfl, by rw [HE.out.2]; exact Pzz.nil _ _ _ (Nat.zero_le _), hB⟩
        | true =>
          have hrd : rdPB xs = true := by rw [← HEQ.out.1, HRS3.out, hfr, decide_eq_true (of_decide_eq_true hd).symm]; rfl
          have HE : Hid (rdPE xs = 0 ∧ rdPL xs = M) := ⟨HGOOD.out hrd, (HEQ3.out hrd).symm⟩
          clear hfr hkn hcd hfb hk4 hrd
          go_wp2_with fail
          refine hwr.mono ?_
          rintro e u3 ⟨a9, c9, rfl, hr9, hb3⟩
          have HT3 : Hid (Pzz u3 a2 c2 M) := HTS.out.below hb3
          replace hB := hB.trans (hb3.mono hB.size)
          have hr := HH.out.below hB
          have hsm := same8g_any a a9 cap c9 xs fb u3 hr hr9
          rw [hd] at hsm
          clear hwr hb3 hr hr9 hd
          go_wp2_with fail
          refine hsm.mono ?_
          rintro e u4 ⟨rfl, hb4⟩
          have HT4 : Hid (Pzz u4 a2 c2 M) := HT3.out.below hb4
          replace hB := hB.trans (hb4.mono hB.size)
          clear hsm hb4
          go_wp2
          go_ret2
          exact ⟨a2, c2, by rw [HE.out.1, HE.out.2, HML.out]; rfl, by rw [HE.out.2]; exact HT4.out, hB⟩

end Go.Proofs.YtdholmnniccbcaaGreatDoor

namespace Go.Proofs.YtdholmnniccbcaaGreatDoor
open Go.RowKit Go.Maps
set_option linter.unusedSimpArgs false
set_option linter.unusedVariables false

set_option maxHeartbeats 2000000 in
set_option maxRecDepth 100000 in
theorem ssameP_any (a b : Option Addr) (ca cb : Nat) (m : List (List Pr)) (w : World) (ha : Pzz w a ca m) (hb : Pzz w b cb m) :
    Calls Tryz.prog 21 #[.slice a m.length ca, .slice b m.length cb] w fun e w' => e = .returned (.bool true) ∧ Below w.heap.size w w' := by
  have k1 := ha.1
  have k2 := ha.2.1
  unfold maxLen at k2
  have hne : ((m.length : Int) != (m.length : Int)) = false := by simp
  have HA : Hid (Pzz w a ca m) := ha
  have HB : Hid (Pzz w b cb m) := hb
  clear ha hb
  go_enter Tryz.func21, Tryz.ntmps21
  go_wp2
  go_loopw [5] (fun i wr => ∃ k : Nat, k ≤ m.length ∧ i = .int .i64 k ∧ Below w.heap.size w wr) (fun i _ => m.length - (intOf i).toNat)
  case atStart => exact ⟨0, Nat.zero_le _, rfl, Below.refl _ _⟩
  case round =>
    obtain ⟨k, hk, rfl, hnx⟩ := hrel
    by_cases hkn : k < m.length
    · obtain ⟨b1, o1, a1, c1, ea, l1, d1, p1⟩ := HA.out.2.2 k hkn
      obtain ⟨b2, o2, a2, c2, eb, l2, d2, p2⟩ := HB.out.2.2 k hkn
      obtain ⟨l, hl⟩ : ∃ l, m.getD k [] = l := ⟨_, rfl⟩
      rw [hl] at d1 p1 d2 p2
      have e1 := p1.1
      have e2 := p1.2.1
      unfold maxLen at e2
      have HD1 : Hid (∀ V, Below w.heap.size w V → V.cell? ⟨b1, o1 + k, none⟩ = some (.slice a1 l.length c1) ∧ V.cell? ⟨b2, o2 + k, none⟩ = some (.slice a2 l.length c2)) := fun V hV => ⟨(hV.cell (p := ⟨b1, o1 + k, none⟩) l1).trans d1, (hV.cell (p := ⟨b2, o2 + k, none⟩) l2).trans d2⟩
      have HP1 : Hid (Pz w a1 c1 l) := p1
      have HP2 : Hid (Pz w a2 c2 l) := p2
      have hll : ((l.length : Int) != (l.length : Int)) = false := by simp
      obtain ⟨q1, q2⟩ := HD1.out wr hnx
      have i1 : (0 : Int) ≤ (k : Int) := by omega
      have i2 : (k : Int) < (m.length : Int) := by omega
      subst ea eb
      clear hl d1 d2 p1 p2
      go_wp2_with fail
      go_quiet (fail)
      have HNX : Hid (Below w.heap.size w wr) := hnx
      clear q1 q2 hnx
      go_wp2
      go_loopw [6] (fun i wr2 => ∃ j : Nat, j ≤ l.length ∧ i = .int .i64 j ∧ Below w.heap.size w wr2) (fun i _ => l.length - (intOf i).toNat)
      case atStart => exact ⟨0, Nat.zero_le _, rfl, below_drewN HNX.out _⟩
      case round =>
        obtain ⟨j, hj, rfl, hny⟩ := hrel
        obtain ⟨q1, q2⟩ := HD1.out wr hny
        by_cases hjn : j < l.length
        · obtain ⟨b3, o3, ec, _, c0, c1'⟩ := HP1.out.at hny j hjn
          obtain ⟨b4, o4, ed, _, d0, d1⟩ := HP2.out.at hny j hjn
          generalize l.getD j (0, 0) = s at *
          obtain ⟨x, y⟩ := s
          dsimp only at c0 c1' d0 d1
          subst ec ed
          have i3 : (0 : Int) ≤ (j : Int) := by omega
          have i4 : (j : Int) < (l.length : Int) := by omega
          go_wp2_with fail
          go_quiet (fail)
          go_wp2
          go_roundw
          case rel => exact ⟨j + 1, by omega, by go_num, below_drewN hny _⟩
          case measure => simp [intOf]; omega
        · have g1 : ¬ (j : Int) < (l.length : Int) := by omega
          go_wp2
          go_roundw
          case rel => exact ⟨k + 1, by omega, by go_num, hny⟩
          case measure => simp [intOf]; omega
    · have g1 : ¬ (k : Int) < (m.length : Int) := by omega
      go_wp2
      go_ret
      exact ⟨rfl, hnx⟩

end Go.Proofs.YtdholmnniccbcaaGreatDoor
