/-
  bend.allFormed, bend.Write: the walks.
  foundryref07.Write: the walk.
  bend.pairsAt, bend.Read: the walks.
  foundryref04.Same of any two: the walk.
-/
import Derived.Test.YtdholmnniccbcaaGreatDoorZ12
import Derived.Test.YtdholmnniccbcaaGreatDoorZ26
import Derived.Test.YtdholmnniccbcaaGreatDoorZ18
import Derived.Test.YtdholmnniccbcaaGreatDoorZ23
namespace Go.Proofs.YtdholmnniccbcaaGreatDoor
open Go.RowKit Go.Maps
set_option linter.unusedSimpArgs false
set_option linter.unusedVariables false

/-- A page with k bends. -/
def stB (m : List (List Pr)) (k : Nat) : St := ⟨be2 (m.length : Nat) ++ bnsE (m.take k), [], false⟩
theorem stB_len {m : List (List Pr)} {k : Nat} (hk : k ≤ 4) (h : ∀ l ∈ m.take k, frP l = true) : (be2 (m.length : Nat) ++ bnsE (m.take k)).length ≤ 266 := by
  have := bnsE_le h
  have h2 : (m.take k).length ≤ k := by simp; omega
  rw [List.length_append, be2L]
  omega
theorem stB_succ {m : List (List Pr)} {k : Nat} {l : List Pr} (hk : k < m.length) (hl : m.getD k [] = l) {b0 : List Nat} (hb : be2 (m.length : Nat) ++ bnsE (m.take k) = b0) : stB m (k + 1) = ⟨b0 ++ be2 (l.length : Nat) ++ prsE l, [], false⟩ := by
  rw [stB, takeB_succ hk, hl, bnsE_append, bnsE_one, bnE, ← hb]
  simp
theorem prsE_succ {l : List Pr} {j : Nat} {x y : Int} (hj : j < l.length) (h : l.getD j (0, 0) = (x, y)) (b1 : List Nat) : b1 ++ prsE (l.take (j + 1)) = b1 ++ prsE (l.take j) ++ be2 x ++ be2 y := by
  rw [takeP_succ hj, h, prsE_append, prsE, prsE, prE]
  simp
theorem prsE_take_len (l : List Pr) (j : Nat) : (prsE (l.take j)).length ≤ 4 * l.length := by
  rw [prsE_len]
  have : (l.take j).length ≤ l.length := by simp; omega
  omega

set_option maxHeartbeats 1000000 in
set_option maxRecDepth 100000 in
theorem callF_any (a : Option Addr) (cap : Nat) (m : List (List Pr)) (w : World) (h : Pzz w a cap m) :
    Calls Tryz.prog 47 #[.slice a m.length cap] w fun e w' => e = .returned (.bool (frL m)) ∧ Below w.heap.size w w' := by
  have k1 := h.1
  have k2 := h.2.1
  unfold maxLen at k2
  have HNO : Hid (¬ (m.length ≤ 4 ∧ ∀ l ∈ m, frP l = true) → frL m = false) := fun hn => Bool.eq_false_iff.2 (fun e => hn (frL_iff.1 e))
  by_cases h4 : 4 < m.length
  · have g1 : (4 : Int) < (m.length : Int) := by omega
    have HFN : Hid (frL m = false) := HNO.out (fun hh => by have := hh.1; omega)
    go_enter Tryz.func47, Tryz.ntmps47
    go_wp2
    go_ret
    exact ⟨rt_bool HFN.out.symm, Below.refl _ _⟩
  have g1 : ¬ (4 : Int) < (m.length : Int) := by omega
  have HP : Hid (Pzz w a cap m) := h
  clear h
  go_enter Tryz.func47, Tryz.ntmps47
  go_wp2
  go_loopw [10] (fun i wr => ∃ k : Nat, k ≤ m.length ∧ i = .int .i64 k ∧ (∀ j, j < k → frP (m.getD j []) = true) ∧ Below w.heap.size w wr) (fun i _ => m.length - (intOf i).toNat)
  case atStart => exact ⟨0, Nat.zero_le _, rfl, (fun j hj => by omega), Below.refl _ _⟩
  case round =>
    obtain ⟨k, hk, rfl, hno, hB⟩ := hrel
    have HOK : Hid (∀ j, j < k → frP (m.getD j []) = true) := hno
    clear hno
    by_cases hkn : k < m.length
    · obtain ⟨b, off, a', cap', ea, _, d0, hp⟩ := HP.out.at hB k hkn
      subst ea
      have hmem := getB_mem hkn
      have hfo := cformP_any a' cap' (m.getD k []) wr hp
      obtain ⟨l, hl⟩ : ∃ l, m.getD k [] = l := ⟨_, rfl⟩
      rw [hl] at d0 hmem hfo
      have HL : Hid (m.getD k [] = l) := hl
      clear hl hp
      cases hf : frP l with
      | false =>
        have HFN : Hid (frL m = false) := HNO.out (fun hh => by have := hh.2 _ hmem; rw [hf] at this; cases this)
        rw [hf] at hfo
        clear hmem
        go_wp2_with fail
        refine hfo.mono ?_
        rintro e u ⟨rfl, hb⟩
        replace hB := hB.trans (hb.mono hB.size)
        clear hb hfo
        go_wp2
        go_ret
        exact ⟨rt_bool HFN.out.symm, hB⟩
      | true =>
        have HFT : Hid (frP l = true) := hf
        rw [hf] at hfo
        clear hmem hf
        go_wp2_with fail
        refine hfo.mono ?_
        rintro e u ⟨rfl, hb⟩
        replace hB := hB.trans (hb.mono hB.size)
        clear hb hfo
        go_wp2
        go_roundw
        case rel =>
          refine ⟨k + 1, by omega, by go_num, fun j hj => ?_, hB⟩
          rcases Nat.lt_or_ge j k with h1 | h1
          · exact HOK.out j h1
          · rw [show j = k by omega, HL.out]; exact HFT.out
        case measure => simp [intOf]; omega
    · have HFN : Hid (frL m = true) := frL_iff.2 ⟨by omega, fun l hl => by
        obtain ⟨i, hi, e⟩ := List.getElem_of_mem hl
        have := HOK.out i (by omega)
        rw [getB hi, e] at this
        exact this⟩
      have g2 : ¬ (k : Int) < (m.length : Int) := by omega
      go_wp2
      go_ret
      exact ⟨rt_bool HFN.out.symm, hB⟩

set_option maxHeartbeats 4000000 in
set_option maxRecDepth 100000 in
theorem cwriteP_any (a : Option Addr) (cap : Nat) (m : List (List Pr)) (w : World) (h : Pzz w a cap m) :
    Calls Tryz.prog 16 #[.slice a m.length cap] w fun e w' => ∃ a' cap', e = .returned (.tuple #[.slice a' (wrPB m).length cap', .int .i64 (wrPE m)]) ∧ Rb w' a' cap' (wrPB m) ∧ Below w.heap.size w w' := by
  have k1 := h.1
  have k2 := h.2.1
  unfold maxLen at k2
  by_cases hfr : frL m = true
  rotate_left
  · have hfr : frL m = false := by simpa using hfr
    have e1 : Hid (wrPE m = 1) := by show wrPE m = 1; simp [wrPE, hfr]
    have e2 : Hid (wrPB m = []) := by show wrPB m = []; simp [wrPB, hfr]
    go_enter Tryz.func16, Tryz.ntmps16
    go_wp2_with fail
    refine (callF_any a cap m _ h).mono ?_
    rintro e u ⟨rfl, hb⟩
    rw [hfr]
    go_wp2
    go_ret2
    exact ⟨none, 0, by rw [e1.out, e2.out]; rfl, by rw [e2.out]; exact Rb.nil _ _ _ (Nat.zero_le _) (fun _ => rfl), hb⟩
  obtain ⟨hn, hall⟩ := frL_iff.1 hfr
  have HF : Hid (∀ l ∈ m, frP l = true) := hall
  have HLE : Hid (∀ k, k ≤ m.length → (be2 (m.length : Nat) ++ bnsE (m.take k)).length ≤ 266) := fun k hk => stB_len (by omega) (fun l hl => HF.out l (List.mem_of_mem_take hl))
  have HE1 : Hid (wrPE m = 0) := by show wrPE m = 0; simp [wrPE, hfr]
  have HE2 : Hid (wrPB m = bnB m) := by show wrPB m = bnB m; simp [wrPB, hfr]
  go_enter Tryz.func16, Tryz.ntmps16
  go_wp2_with fail
  refine (callF_any a cap m _ h).mono ?_
  rintro e u ⟨rfl, hb⟩
  rw [hfr]
  have HA : Hid (Pzz u a cap m) := h.below hb
  have hP0 := pc_newA u (· < u.heap.size) (fun _ h => h)
  have hB0 := bl1 (w := u) (.cells #[.slice none 0 0, .int .i64 0, .map none, .bool false] 78)
  clear h hfr hall
  go_wp2_with fail
  refine (put16_any u.heap.size _ _ (m.length : Int) _ hP0 ⟨by omega, by omega⟩ (by decide)).mono ?_
  rintro e u1 ⟨rfl, hP1, hK1⟩
  rw [show St.zero = ⟨[], [], false⟩ from rfl, put16A (by omega) (by omega)] at hP1
  have hB1 : Below u.heap.size u u1 := hB0.trans (hK1.below (fun k hk => hk))
  have hI : Pc u1 u.heap.size (· < u.heap.size) (stB m 0) := by
    simpa [stB, bnsE] using hP1
  clear hP0 hP1 hK1 hB0
  generalize hBB : u.heap.size = B at *
  have HBB : Hid (u.heap.size = B) := hBB
  clear hBB
  go_wp2
  go_loopw [20] (fun i wr => ∃ k : Nat, k ≤ m.length ∧ i = .int .i64 k ∧ Pc wr B (· < B) (stB m k) ∧ Below B u wr) (fun i _ => m.length - (intOf i).toNat)
  case atStart => exact ⟨0, Nat.zero_le _, rfl, hI, hB1⟩
  case round =>
    obtain ⟨k, hk, rfl, hP, hB⟩ := hrel
    clear hI hB1
    by_cases hkn : k < m.length
    · obtain ⟨b, off, a', cap', ea, hbB, d0, hp⟩ := HA.out.2.2 k hkn
      have hfl := HF.out _ (getB_mem hkn)
      obtain ⟨l, hl⟩ : ∃ l, m.getD k [] = l := ⟨_, rfl⟩
      rw [hl] at d0 hp hfl
      rw [HBB.out] at hbB
      have HPZ : Hid (Pz u a' cap' l) := hp
      have e1 := hp.1
      have e2 := hp.2.1
      unfold maxLen at e2
      have e3 := frP_len hfl
      have HIN : Hid (∀ j, j < l.length → -16384 ≤ (l.getD j (0, 0)).1 ∧ (l.getD j (0, 0)).1 ≤ 16384 ∧ -16384 ≤ (l.getD j (0, 0)).2 ∧ (l.getD j (0, 0)).2 ≤ 16384) := fun j hj => frP_in hfl hj
      obtain ⟨b0, hb0⟩ : ∃ b0, be2 (m.length : Nat) ++ bnsE (m.take k) = b0 := ⟨_, rfl⟩
      have HLN : Hid (b0.length ≤ 266) := by show b0.length ≤ _; rw [← hb0]; exact HLE.out k hk
      have HSU : Hid (_) := stB_succ hkn hl hb0
      rw [stB, hb0] at hP
      have d0' := (hB.cell (p := ⟨b, off + k, none⟩) hbB).trans d0
      subst ea
      clear hl hp hfl hb0 d0
      go_wp2_with fail
      refine (put16_any B _ _ (l.length : Int) _ hP ⟨by omega, by omega⟩ (by have := HLN.out; show b0.length + 4 ≤ _; omega)).mono ?_
      rintro e u2 ⟨rfl, hP2, hK2⟩
      rw [put16A (by omega) (by omega)] at hP2
      have hB2 := hB.trans (hK2.below (fun k hk => hk))
      have HL2 : Hid ((b0 ++ be2 (l.length : Nat)).length ≤ 268) := by show _ ≤ _; rw [List.length_append, be2L]; have := HLN.out; omega
      obtain ⟨b1, hb1⟩ : ∃ b1, b0 ++ be2 (l.length : Nat) = b1 := ⟨_, rfl⟩
      rw [hb1] at HL2 HSU
      have hI2 : Pc u2 B (· < B) ⟨b1 ++ prsE (l.take 0), [], false⟩ := by
        rw [← hb1]
        simpa [prsE] using hP2
      clear hP hP2 hK2 hB d0' hb1
      go_wp2
      go_loopw [30] (fun i wr2 => ∃ j : Nat, j ≤ l.length ∧ i = .int .i64 j ∧ Pc wr2 B (· < B) ⟨b1 ++ prsE (l.take j), [], false⟩ ∧ Below B u wr2) (fun i _ => l.length - (intOf i).toNat)
      case atStart => exact ⟨0, Nat.zero_le _, rfl, hI2, hB2⟩
      case round =>
        obtain ⟨j, hj, rfl, hP, hB⟩ := hrel
        clear hI2 hB2
        by_cases hjn : j < l.length
        · obtain ⟨b9, off9, ea, hb9, d0, d1⟩ := HPZ.out.at (by rw [HBB.out]; exact hB) j hjn
          have hin := HIN.out j hjn
          obtain ⟨s, hs⟩ : ∃ s, l.getD j (0, 0) = s := ⟨_, rfl⟩
          rw [hs] at d0 d1 hin
          obtain ⟨x, y⟩ := s
          dsimp only at d0 d1 hin
          have HSJ : Hid (b1 ++ prsE (l.take (j + 1)) = b1 ++ prsE (l.take j) ++ be2 x ++ be2 y) := prsE_succ hjn hs b1
          have HLJ : Hid ((b1 ++ prsE (l.take j)).length ≤ 400) := by show _ ≤ _; rw [List.length_append]; have := HL2.out; have := prsE_take_len l j; omega
          obtain ⟨b2, hb2⟩ : ∃ b2, b1 ++ prsE (l.take j) = b2 := ⟨_, rfl⟩
          rw [hb2] at hP HSJ HLJ
          subst ea
          have hwz : B ≤ wr.heap.size := by have := hB.size; rw [HBB.out] at this; exact this
          have hP1 := hP.moreA (.cells #[.int .i64 x, .int .i64 y] 49)
          have hX1 := BxP.new wr (.int .i64 x) (.int .i64 y)
          have hBa := hB.alloc hwz (.cells #[.int .i64 x, .int .i64 y] 49)
          clear hs hb2 hP hB
          go_wp2_with fail
          generalize wr.alloc (.cells #[.int .i64 x, .int .i64 y] 49) = v1 at *
          clear d0 d1
          generalize wr.heap.size = g at *
          refine (put16_any B _ _ x _ hP1 ⟨by omega, by omega⟩ (by have := HLJ.out; show b2.length + 4 ≤ _; omega)).mono ?_
          rintro e v2 ⟨rfl, hP2, hK2⟩
          rw [put16A (by omega) (by omega)] at hP2
          have hB2 := hBa.trans (hK2.below (fun k hk => .inl hk))
          have hX2 := hX1.kept hK2 (.inr rfl)
          obtain ⟨d0, d1, _⟩ := hX2.cells
          clear hP1 hK2 hX1 hBa
          go_wp2_with fail
          refine (put16_any B _ _ y _ hP2 ⟨by omega, by omega⟩ (by have := HLJ.out; simp [be2]; omega)).mono ?_
          rintro e v3 ⟨rfl, hP3, hK3⟩
          rw [put16A (by omega) (by omega), ← HSJ.out] at hP3
          have hB3 := hB2.trans (hK3.below (fun k hk => .inl hk))
          have hP6 : Pc v3 B (· < B) ⟨b1 ++ prsE (l.take (j + 1)), [], false⟩ := hP3.guard (fun k hk => ⟨hP3.1 k (.inl hk), .inl hk⟩)
          clear hP2 hK3 hX2 hB2 hP3 d0 d1
          go_wp2
          go_roundw
          case rel => exact ⟨j + 1, by omega, by go_num, hP6, hB3⟩
          case measure => simp [intOf]; omega
        · have hje : j = l.length := by omega
          have hP6 : Pc wr B (· < B) (stB m (k + 1)) := by rw [HSU.out]; rw [hje, List.take_length] at hP; exact hP
          have g3 : ¬ (j : Int) < (l.length : Int) := by omega
          clear hje hP
          go_wp2
          go_roundw
          case rel => exact ⟨k + 1, by omega, by go_num, hP6, hB⟩
          case measure => simp [intOf]; omega
    · obtain rfl : k = m.length := by omega
      have hl := HLE.out m.length (Nat.le_refl _)
      have hall := all_any B _ _ _ hP (by show (be2 (m.length : Nat) ++ bnsE (m.take m.length)).length ≤ _; omega)
      have ea : allB (stB m m.length) = bnB m := by simp [allB, stB, bnB]
      have eb : allE (stB m m.length) = 0 := rfl
      rw [ea, eb] at hall
      have hbw := hb.size
      rw [HBB.out] at hbw
      have hBw : Below w.heap.size w wr := hb.trans (hB.mono hbw)
      clear hP ea eb hl
      generalize bnB m = fl at *
      go_wp2_with fail
      refine hall.mono ?_
      rintro e u9 ⟨a9, c9, rfl, hr9, hb9⟩
      have hB9 := hBw.trans (hb9.mono hBw.size)
      clear hall
      go_wp2
      go_ret2
      exact ⟨a9, c9, by rw [HE1.out, HE2.out]; rfl, by rw [HE2.out]; exact hr9.rd, hB9⟩

end Go.Proofs.YtdholmnniccbcaaGreatDoor

namespace Go.Proofs.YtdholmnniccbcaaGreatDoor
open Go.RowKit Go.Maps
set_option linter.unusedSimpArgs false
set_option linter.unusedVariables false

set_option maxHeartbeats 4000000 in
set_option maxRecDepth 100000 in
theorem swriteP_any (a : Option Addr) (cap : Nat) (m : List (List Pr)) (w : World) (h : Pzz w a cap m) :
    Calls Tryz.prog 17 #[.slice a m.length cap] w fun e w' => ∃ a' cap', e = .returned (.tuple #[.slice a' (wrPB m).length cap', .int .i64 (wrPE m)]) ∧ Rb w' a' cap' (wrPB m) ∧ Below w.heap.size w w' := by
  have k1 := h.1
  have k2 := h.2.1
  unfold maxLen at k2
  have HBAD : Hid (¬ (m.length ≤ 4 ∧ ∀ l ∈ m, frP l = true) → wrPE m = 1 ∧ wrPB m = []) := fun hn => by
    have hf : frL m = false := Bool.eq_false_iff.2 (fun e => hn (frL_iff.1 e))
    exact ⟨by simp [wrPE, hf], by simp [wrPB, hf]⟩
  have HGOOD : Hid ((m.length ≤ 4 ∧ ∀ l ∈ m, frP l = true) → wrPE m = 0 ∧ wrPB m = bnB m) := fun hn => by
    have hf : frL m = true := frL_iff.2 hn
    exact ⟨by simp [wrPE, hf], by simp [wrPB, hf]⟩
  by_cases h4 : 4 < m.length
  · have g1 : (4 : Int) < (m.length : Int) := by omega
    have HE : Hid (wrPE m = 1 ∧ wrPB m = []) := HBAD.out (fun hh => by have := hh.1; omega)
    go_enter Tryz.func17, Tryz.ntmps17
    go_wp2
    go_ret2
    exact ⟨none, 0, by rw [HE.out.1, HE.out.2]; rfl, by rw [HE.out.2]; exact Rb.nil _ _ _ (Nat.zero_le _) (fun _ => rfl), Below.refl _ _⟩
  have g1 : ¬ (4 : Int) < (m.length : Int) := by omega
  have HA : Hid (Pzz w a cap m) := h
  have hP0 := ps_newA w (· < w.heap.size) (fun _ h => h)
  have hB0 := bl1 (w := w) (.cells #[.slice none 0 0, .slice none 0 0, .bool false] 84)
  clear h
  go_enter Tryz.func17, Tryz.ntmps17
  go_wp2_with fail
  refine (sput16_any w.heap.size _ _ (m.length : Int) _ hP0 ⟨by omega, by omega⟩ (by decide)).mono ?_
  rintro e u1 ⟨rfl, hP1, hK1⟩
  rw [show St.zero = ⟨[], [], false⟩ from rfl, put16A (by omega) (by omega)] at hP1
  have hB1 : Below w.heap.size w u1 := hB0.trans (hK1.below (fun k hk => hk))
  have hI : Ps u1 w.heap.size (· < w.heap.size) (stB m 0) := by
    simpa [stB, bnsE] using hP1
  clear hP0 hP1 hK1 hB0
  generalize hBB : w.heap.size = B at *
  have HBB : Hid (w.heap.size = B) := hBB
  clear hBB
  go_wp2
  go_loopw [5] (fun i wr => ∃ k : Nat, k ≤ m.length ∧ i = .int .i64 k ∧ (∀ j, j < k → frP (m.getD j []) = true) ∧ Ps wr B (· < B) (stB m k) ∧ Below B w wr) (fun i _ => m.length - (intOf i).toNat)
  case atStart => exact ⟨0, Nat.zero_le _, rfl, (fun j hj => by omega), hI, hB1⟩
  case round =>
    obtain ⟨k, hk, rfl, hok, hP, hB⟩ := hrel
    have HOK : Hid (∀ j, j < k → frP (m.getD j []) = true) := hok
    have HMT : Hid (∀ l ∈ m.take k, frP l = true) := fun l hl => by
      obtain ⟨i, hi, e⟩ := List.getElem_of_mem hl
      simp at hi
      have h1 := HOK.out i (by omega)
      rw [getB (by omega)] at h1
      rw [← e]
      simpa using h1
    clear hI hB1 hok
    by_cases hkn : k < m.length
    · obtain ⟨b, off, a', cap', ea, hbB, d0, hp⟩ := HA.out.2.2 k hkn
      have hmem := getB_mem hkn
      obtain ⟨l, hl⟩ : ∃ l, m.getD k [] = l := ⟨_, rfl⟩
      rw [hl] at d0 hp hmem
      rw [HBB.out] at hbB
      have HPZ : Hid (Pz w a' cap' l) := hp
      have HD0 : Hid (∀ V, Below B w V → V.cell? ⟨b, off + k, none⟩ = some (.slice a' l.length cap')) := fun V hV => (hV.cell (p := ⟨b, off + k, none⟩) hbB).trans d0
      have d0' := HD0.out wr hB
      have e1 := hp.1
      have e2 := hp.2.1
      unfold maxLen at e2
      have hfo := sformP_any a' cap' l wr (hp.below (by rw [HBB.out]; exact hB))
      subst ea
      cases hf : frP l with
      | false =>
        have HE : Hid (wrPE m = 1 ∧ wrPB m = []) := HBAD.out (fun hh => by have := hh.2 _ hmem; rw [hf] at this; cases this)
        rw [hf] at hfo
        clear hl hp hmem d0 hP hf
        go_wp2_with fail
        refine hfo.mono ?_
        rintro e u2 ⟨rfl, hb2⟩
        have hB2 : Below B w u2 := hB.trans (hb2.mono (by have := hB.size; rw [HBB.out] at this; exact this))
        clear hfo
        go_wp2
        go_ret2
        exact ⟨none, 0, by rw [HE.out.1, HE.out.2]; rfl, by rw [HE.out.2]; exact Rb.nil _ _ _ (Nat.zero_le _) (fun _ => rfl), by rw [HBB.out]; exact hB2⟩
      | true =>
        have HFT : Hid (frP l = true) := hf
        have e3 := frP_len hf
        have HIN : Hid (∀ j, j < l.length → -16384 ≤ (l.getD j (0, 0)).1 ∧ (l.getD j (0, 0)).1 ≤ 16384 ∧ -16384 ≤ (l.getD j (0, 0)).2 ∧ (l.getD j (0, 0)).2 ≤ 16384) := fun j hj => frP_in hf hj
        obtain ⟨b0, hb0⟩ : ∃ b0, be2 (m.length : Nat) ++ bnsE (m.take k) = b0 := ⟨_, rfl⟩
        have HLN : Hid (b0.length ≤ 266) := by show b0.length ≤ _; rw [← hb0]; exact stB_len (by omega) HMT.out
        have HSU : Hid (_) := stB_succ hkn hl hb0
        have HL : Hid (m.getD k [] = l) := hl
        rw [stB, hb0] at hP
        rw [hf] at hfo
        clear hl hp hmem hb0 d0 hf
        go_wp2_with fail
        refine hfo.mono ?_
        rintro e u2 ⟨rfl, hb2⟩
        have hB2 : Below B w u2 := hB.trans (hb2.mono (by have := hB.size; rw [HBB.out] at this; exact this))
        have hP2 := hP.below hb2
        have d1 := HD0.out u2 hB2
        clear hfo hb2 hP hB d0'
        go_wp2_with fail
        refine (sput16_any B _ _ (l.length : Int) _ hP2 ⟨by omega, by omega⟩ (by have := HLN.out; show b0.length + 4 ≤ _; omega)).mono ?_
        rintro e u3 ⟨rfl, hP3, hK3⟩
        rw [put16A (by omega) (by omega)] at hP3
        have hB3 := hB2.trans (hK3.below (fun k hk => hk))
        have HL2 : Hid ((b0 ++ be2 (l.length : Nat)).length ≤ 268) := by show _ ≤ _; rw [List.length_append, be2L]; have := HLN.out; omega
        obtain ⟨b1, hb1⟩ : ∃ b1, b0 ++ be2 (l.length : Nat) = b1 := ⟨_, rfl⟩
        rw [hb1] at HL2 HSU
        have hI2 : Ps u3 B (· < B) ⟨b1 ++ prsE (l.take 0), [], false⟩ := by
          rw [← hb1]
          simpa [prsE] using hP3
        clear hP2 hP3 hK3 hB2 d1 hb1
        go_wp2
        go_loopw [6] (fun i wr2 => ∃ j : Nat, j ≤ l.length ∧ i = .int .i64 j ∧ Ps wr2 B (· < B) ⟨b1 ++ prsE (l.take j), [], false⟩ ∧ Below B w wr2) (fun i _ => l.length - (intOf i).toNat)
        case atStart => exact ⟨0, Nat.zero_le _, rfl, hI2, hB3⟩
        case round =>
          obtain ⟨j, hj, rfl, hP, hB⟩ := hrel
          clear hI2 hB3
          have q0 := HD0.out wr hB
          by_cases hjn : j < l.length
          · obtain ⟨b9, off9, ea, hb9, d0, d1⟩ := HPZ.out.at (by rw [HBB.out]; exact hB) j hjn
            have HAT : Hid (∀ V, Below B w V → V.cell? ⟨b9, off9 + j * 2, none⟩ = some (.int .i64 (l.getD j (0, 0)).1) ∧ V.cell? ⟨b9, off9 + j * 2 + 1, none⟩ = some (.int .i64 (l.getD j (0, 0)).2)) := fun V hV => by
              obtain ⟨_, _, e9, _, q1, q2⟩ := HPZ.out.at (wr := V) (by rw [HBB.out]; exact hV) j hjn
              rw [ea] at e9
              cases e9
              exact ⟨q1, q2⟩
            have hin := HIN.out j hjn
            obtain ⟨s, hs⟩ : ∃ s, l.getD j (0, 0) = s := ⟨_, rfl⟩
            rw [hs] at d0 d1 hin HAT
            obtain ⟨x, y⟩ := s
            dsimp only at d0 d1 hin HAT
            have HSJ : Hid (b1 ++ prsE (l.take (j + 1)) = b1 ++ prsE (l.take j) ++ be2 x ++ be2 y) := prsE_succ hjn hs b1
            have HLJ : Hid ((b1 ++ prsE (l.take j)).length ≤ 400) := by show _ ≤ _; rw [List.length_append]; have := HL2.out; have := prsE_take_len l j; omega
            obtain ⟨b2, hb2⟩ : ∃ b2, b1 ++ prsE (l.take j) = b2 := ⟨_, rfl⟩
            rw [hb2] at hP HSJ HLJ
            subst ea
            clear hs hb2
            go_wp2_with fail
            refine (sput16_any B _ _ x _ hP ⟨by omega, by omega⟩ (by have := HLJ.out; show b2.length + 4 ≤ _; omega)).mono ?_
            rintro e v2 ⟨rfl, hP2, hK2⟩
            rw [put16A (by omega) (by omega)] at hP2
            have hB2 := hB.trans (hK2.below (fun k hk => hk))
            clear hP hK2 hB d0 d1 q0
            obtain ⟨d0, d1⟩ := HAT.out v2 hB2
            have q0 := HD0.out v2 hB2
            go_wp2_with fail
            refine (sput16_any B _ _ y _ hP2 ⟨by omega, by omega⟩ (by have := HLJ.out; simp [be2]; omega)).mono ?_
            rintro e v3 ⟨rfl, hP3, hK3⟩
            rw [put16A (by omega) (by omega), ← HSJ.out] at hP3
            have hB3 := hB2.trans (hK3.below (fun k hk => hk))
            clear hP2 hK3 hB2 d0 d1 q0
            go_wp2
            go_roundw
            case rel => exact ⟨j + 1, by omega, by go_num, hP3, hB3⟩
            case measure => simp [intOf]; omega
          · have hje : j = l.length := by omega
            have hP6 : Ps wr B (· < B) (stB m (k + 1)) := by rw [HSU.out]; rw [hje, List.take_length] at hP; exact hP
            have g3 : ¬ (j : Int) < (l.length : Int) := by omega
            clear hje hP
            go_wp2
            go_roundw
            case rel =>
              refine ⟨k + 1, by omega, by go_num, fun i hi => ?_, hP6, hB⟩
              rcases Nat.lt_or_ge i k with h1 | h1
              · exact HOK.out i h1
              · rw [show i = k by omega, HL.out]; exact HFT.out
            case measure => simp [intOf]; omega
    · obtain rfl : k = m.length := by omega
      have hl := stB_len (m := m) (k := m.length) (by omega) HMT.out
      have HE : Hid (wrPE m = 0 ∧ wrPB m = bnB m) := HGOOD.out ⟨by omega, fun l hl => HMT.out l (by rw [List.take_length]; exact hl)⟩
      have hall := sall_any B _ _ _ hP (by show (be2 (m.length : Nat) ++ bnsE (m.take m.length)).length ≤ _; omega)
      have ea : allB (stB m m.length) = bnB m := by simp [allB, stB, bnB]
      have eb : allE (stB m m.length) = 0 := rfl
      rw [ea, eb] at hall
      clear hP ea eb hl HMT HOK
      generalize bnB m = fl at *
      go_wp2_with fail
      refine hall.mono ?_
      rintro e u9 ⟨a9, c9, rfl, hr9, hb9⟩
      have hB9 : Below B w u9 := hB.trans (hb9.mono (by have := hB.size; rw [HBB.out] at this; exact this))
      clear hall
      go_wp2
      go_ret2
      exact ⟨a9, c9, by rw [HE.out.1, HE.out.2]; rfl, by rw [HE.out.2]; exact hr9.rd, by rw [HBB.out]; exact hB9⟩

end Go.Proofs.YtdholmnniccbcaaGreatDoor

namespace Go.Proofs.YtdholmnniccbcaaGreatDoor
open Go.RowKit Go.Maps
set_option linter.unusedSimpArgs false
set_option linter.unusedVariables false

theorem sx16_i64 {xs : List Nat} (h : Byt xs) (p : Int) : I64 (sx16 (nmV xs p 2)) := by
  have := nmV_lt h p 2
  have h2 : nmV xs p 2 < 65536 := this
  unfold sx16 I64
  split <;> omega
theorem prsAt_succ (b : List Nat) (p k : Nat) : prsAt b p (k + 1) = prsAt b p k ++ [prAt b p k] := by
  rw [prsAt, List.range_succ, List.map_append]
  rfl

set_option maxHeartbeats 2000000 in
set_option maxRecDepth 100000 in
theorem pairsAt_any (a : Option Addr) (cap : Nat) (xs : List Nat) (p : Nat) (w : World) (h : Rb w a cap xs) (hp : p ≤ 1000000000) (hlx : xs.length ≤ 1000000000) :
    Calls Tryz.prog 53 #[.slice a xs.length cap, .int .i64 (p : Int)] w fun e w' => ∃ v', e = .returned (.tuple #[v', .bool (okP xs p)]) ∧ (okP xs p = true → ∃ a' cap', v' = .slice a' (prsAt xs p (cnP xs p)).length cap' ∧ Pz w' a' cap' (prsAt xs p (cnP xs p)) ∧ ∀ b o, a' = some ⟨b, o, none⟩ → w.heap.size ≤ b) ∧ Below w.heap.size w w' := by
  have k1 := h.le
  have k2 := h.cap
  unfold maxLen at k2
  have HH : Hid (Rb w a cap xs) := h
  have hbyt := h.lim
  have HBY : Hid (Byt xs) := hbyt
  have hnb := nmV_lt h.lim (p : Int) 2
  have hu := u16_any a cap xs (p : Int) w h ⟨by omega, by omega⟩
  obtain ⟨n, hn⟩ : ∃ n, nmV xs (p : Int) 2 = n := ⟨_, rfl⟩
  have HN : Hid (cnP xs p = n) := hn
  rw [hn] at hnb hu
  have hnb' : n < 65536 := hnb
  have HOK : Hid (okP xs p = decide (p + 2 + 4 * n ≤ xs.length)) := by show okP xs p = _; rw [okP, HN.out]
  have HIN : Hid (inB xs.length (p : Int) 2 = decide (p + 2 ≤ xs.length)) := by
    show _ = _
    simp only [inB]
    exact decide_eq_decide.2 ⟨fun hh => by omega, fun hh => by omega⟩
  clear h hn hnb hbyt
  by_cases hi : p + 2 ≤ xs.length
  rotate_left
  · have e1 : inB xs.length (p : Int) 2 = false := by rw [HIN.out]; exact decide_eq_false hi
    have E1 : Hid (okP xs p = false) := by show _ = _; rw [HOK.out]; exact decide_eq_false (by omega)
    rw [e1] at hu
    clear e1
    go_enter Tryz.func53, Tryz.ntmps53
    go_wp2_with fail
    refine hu.mono ?_
    rintro e u ⟨rfl, rfl⟩
    clear hu
    go_wp2
    go_ret2
    exact ⟨.slice none 0 0, by rw [E1.out]; rfl, (fun hh => by rw [E1.out] at hh; cases hh), Below.refl _ _⟩
  have e1 : inB xs.length (p : Int) 2 = true := by rw [HIN.out]; exact decide_eq_true hi
  rw [e1] at hu
  clear e1
  go_enter Tryz.func53, Tryz.ntmps53
  go_wp2_with fail
  refine hu.mono ?_
  rintro e u ⟨rfl, rfl⟩
  clear hu
  go_wp2
  go_loopw [8, 23] (fun v i wr => ∃ k : Nat, k ≤ n ∧ i = .int .i64 k ∧ p + 2 + 4 * k ≤ xs.length ∧ Po w.heap.size wr v (prsAt xs p k) ∧ Below w.heap.size w wr) (fun _ i _ => n - (intOf i).toNat)
  case atStart => exact ⟨0, Nat.zero_le _, rfl, by omega, Po.nil _ _, Below.refl _ _⟩
  case round =>
    obtain ⟨k, hk, rfl, hin, hT, hB⟩ := hrel
    obtain ⟨a2, c2, rfl, hts, hlo⟩ := hT.slice
    rw [prsAt_len] at hT ⊢
    have HT : Hid (Po w.heap.size wr (.slice a2 k c2) (prsAt xs p k)) := hT
    have HTS : Hid (Pz wr a2 c2 (prsAt xs p k) ∧ ∀ b o, a2 = some ⟨b, o, none⟩ → w.heap.size ≤ b) := ⟨hts, hlo⟩
    clear hT hts hlo
    by_cases hkn : k < n
    · have HV : Hid (prAt xs p k = (sx16 (nmV xs ((p : Int) + 2 + (k : Int) * 4) 2), sx16 (nmV xs ((p : Int) + 2 + (k : Int) * 4 + 2) 2))) := by
        show prAt xs p k = _
        rw [prAt, show ((p + 2 + 4 * k : Nat) : Int) = (p : Int) + 2 + (k : Int) * 4 by omega, show ((p + 2 + 4 * k + 2 : Nat) : Int) = (p : Int) + 2 + (k : Int) * 4 + 2 by omega]
      have HZ1 : Hid (I64 (sx16 (nmV xs ((p : Int) + 2 + (k : Int) * 4) 2))) := sx16_i64 HBY.out _
      have HZ2 : Hid (I64 (sx16 (nmV xs ((p : Int) + 2 + (k : Int) * 4 + 2) 2))) := sx16_i64 HBY.out _
      have HI2 : Hid (inB xs.length ((p : Int) + 2 + (k : Int) * 4 + 2) 2 = decide (p + 2 + 4 * (k + 1) ≤ xs.length)) := by
        show _ = _
        simp only [inB]
        exact decide_eq_decide.2 ⟨fun hh => by omega, fun hh => by omega⟩
      have hr := HH.out.below hB
      go_wp2_with fail
      refine (i16_any a cap xs ((p : Int) + 2 + (k : Int) * 4) _ hr ⟨by omega, by omega⟩).mono ?_
      rintro e v1 ⟨rfl, rfl⟩
      generalize sx16 (nmV xs ((p : Int) + 2 + (k : Int) * 4) 2) = z1 at *
      generalize inB xs.length ((p : Int) + 2 + (k : Int) * 4) 2 = b1
      go_wp2_with fail
      refine (i16_any a cap xs ((p : Int) + 2 + (k : Int) * 4 + 2) _ hr ⟨by omega, by omega⟩).mono ?_
      rintro e v2 ⟨rfl, rfl⟩
      rw [HI2.out]
      generalize sx16 (nmV xs ((p : Int) + 2 + (k : Int) * 4 + 2) 2) = z2 at *
      clear hr
      by_cases hin2 : p + 2 + 4 * (k + 1) ≤ xs.length
      rotate_left
      · rw [decide_eq_false hin2]
        have E1 : Hid (okP xs p = false) := by show _ = _; rw [HOK.out]; exact decide_eq_false (by omega)
        go_wp2
        go_ret2
        exact ⟨.slice none 0 0, by rw [E1.out]; rfl, (fun hh => by rw [E1.out] at hh; cases hh), hB⟩
      rw [decide_eq_true hin2]
      have hT5 := HT.out.below (bl1 (.cells #[.int .i64 z1, .int .i64 z2] 49))
      have hll : (prsAt xs p k).length + 1 ≤ 1000000 := by rw [prsAt_len]; omega
      obtain ⟨n0, n1, _⟩ := (BxP.new wr (.int .i64 z1) (.int .i64 z2)).cells
      have hbs : w.heap.size ≤ (wr.alloc (.cells #[.int .i64 z1, .int .i64 z2] 49)).heap.size := by have := hB.size; simp; omega
      go_wp2_with (at_builtin; refine wpList_append_pr rfl _ _ rfl w.heap.size _ (prsAt xs p k) rfl hT5 wr.heap.size (z1, z2) rfl n0 n1 ⟨HZ1.out, HZ2.out⟩ hll hbs ?_)
      intro v' w9 hT9 hgrow
      have hB9 : Below w.heap.size w w9 := (hB.alloc hB.size _).grown hgrow hbs (fun k hk => HT.out.lo hk)
      have HT9 : Hid (Po w.heap.size w9 v' (prsAt xs p (k + 1))) := by
        show Po _ _ _ _
        rw [prsAt_succ, HV.out]
        exact hT9
      clear hgrow hT5 hT9 n0 n1 hbs hB
      go_wp2
      go_roundw
      case rel => exact ⟨k + 1, by omega, by go_num, hin2, HT9.out, hB9⟩
      case measure => simp [intOf]; omega
    · have hke : k = n := by omega
      have E1 : Hid (okP xs p = true) := by show _ = _; rw [HOK.out]; exact decide_eq_true (by omega)
      have HE : Hid (prsAt xs p (cnP xs p) = prsAt xs p k) := by show _ = _; rw [HN.out, hke]
      have g1 : ¬ (k : Int) < (n : Int) := by omega
      clear hke
      go_wp2
      go_ret2
      exact ⟨.slice a2 k c2, by rw [E1.out]; rfl, fun _ => ⟨a2, c2, by rw [HE.out, prsAt_len], by rw [HE.out]; exact HTS.out.1, HTS.out.2⟩, hB⟩

theorem rdK_ok {b : List Nat} {n : Nat} (h : (rdK b n).2.2 = true) : ∀ k, k ≤ n → (rdK b k).2.2 = true := by
  intro k hk
  induction n with
  | zero => obtain rfl : k = 0 := (by omega); exact h
  | succ n ih =>
    rcases Nat.lt_or_ge n k with h1 | h1
    · obtain rfl : k = n + 1 := by omega
      exact h
    · rw [rdK] at h
      dsimp only at h
      rw [Bool.and_eq_true] at h
      exact ih h.1 h1

set_option maxHeartbeats 4000000 in
set_option maxRecDepth 100000 in
theorem creadP_any (a : Option Addr) (cap : Nat) (xs : List Nat) (w : World) (h : Rb w a cap xs) (hlx : xs.length ≤ 1000000000) :
    Calls Tryz.prog 18 #[.slice a xs.length cap] w fun e w' => ∃ a' cap', e = .returned (.tuple #[.slice a' (rdPL xs).length cap', .int .i64 (rdPE xs)]) ∧ Pzz w' a' cap' (rdPL xs) ∧ Below w.heap.size w w' := by
  have k1 := h.le
  have k2 := h.cap
  unfold maxLen at k2
  have HH : Hid (Rb w a cap xs) := h
  have HBY : Hid (Byt xs) := h.lim
  have hnb := nmV_lt h.lim 0 2
  have HBAD : Hid (rdPB xs = false → rdPE xs = 2 ∧ rdPL xs = []) := by
    show rdPB xs = false → _
    intro e
    exact ⟨by simp [rdPE, e], by simp [rdPL, e]⟩
  have hu := u16_any a cap xs 0 w h ⟨by decide, by decide⟩
  obtain ⟨n, hn⟩ : ∃ n, nmV xs 0 2 = n := ⟨_, rfl⟩
  have HRB : Hid (rdPB xs = (inB xs.length 0 2 && ((rdK xs n).2.2 && (decide ((rdK xs n).2.1 = xs.length) && frL (rdK xs n).1)))) := by show _ = _; rw [rdPB, hn]
  have HRL : Hid (rdPB xs = true → rdPE xs = 0 ∧ rdPL xs = (rdK xs n).1) := by
    show rdPB xs = true → _
    intro e
    exact ⟨by simp [rdPE, e], by simp [rdPL, e, hn]⟩
  rw [hn] at hnb hu
  have hnb' : n < 65536 := hnb
  clear hn h hnb
  cases hi : inB xs.length 0 2 with
  | false =>
    have HE : Hid (rdPE xs = 2 ∧ rdPL xs = []) := HBAD.out (by rw [HRB.out, hi]; rfl)
    rw [hi] at hu
    clear hi
    go_enter Tryz.func18, Tryz.ntmps18
    go_wp2_with fail
    refine hu.mono ?_
    rintro e u ⟨rfl, rfl⟩
    clear hu
    go_wp2
    go_ret2
    exact ⟨none, 0, by rw [HE.out.1, HE.out.2]; rfl, by rw [HE.out.2]; exact Pzz.nil _ _ _ (Nat.zero_le _), Below.refl _ _⟩
  | true =>
    have h2 : 2 ≤ xs.length := by simp [inB] at hi; omega
    have HLE : Hid (∀ k, (rdK xs k).2.2 = true → (rdK xs k).2.1 ≤ xs.length) := fun k hk => (bnsE_read HBY.out k hk h2).2.1
    have HRB2 : Hid (rdPB xs = ((rdK xs n).2.2 && (decide ((rdK xs n).2.1 = xs.length) && frL (rdK xs n).1))) := by show _ = _; rw [HRB.out, hi]; rfl
    rw [hi] at hu
    clear hi
    go_enter Tryz.func18, Tryz.ntmps18
    go_wp2_with fail
    refine hu.mono ?_
    rintro e u ⟨rfl, rfl⟩
    clear hu
    go_wp2
    go_loopw [6, 7, 18] (fun v at_ i wr => ∃ k : Nat, k ≤ n ∧ i = .int .i64 k ∧ at_ = .int .i64 (((rdK xs k).2.1 : Nat) : Int) ∧ (rdK xs k).2.2 = true ∧ Pq w.heap.size wr v (rdK xs k).1 ∧ Below w.heap.size w wr) (fun _ _ i _ => n - (intOf i).toNat)
    case atStart => exact ⟨0, Nat.zero_le _, rfl, rfl, rfl, Pq.nil _ _, Below.refl _ _⟩
    case round =>
      obtain ⟨k, hk, rfl, rfl, hok, hT, hB⟩ := hrel
      have hpl := HLE.out k hok
      have HK1 : Hid (rdK xs (k + 1) = ((rdK xs k).1 ++ [prsAt xs (rdK xs k).2.1 (cnP xs (rdK xs k).2.1)], ((rdK xs k).2.1 + 2 + 4 * cnP xs (rdK xs k).2.1, (rdK xs k).2.2 && okP xs (rdK xs k).2.1))) := rfl
      have HOK : Hid ((rdK xs k).2.2 = true) := hok
      have hml := rdK_len xs k
      obtain ⟨P, hP⟩ : ∃ P, (rdK xs k).2.1 = P := ⟨_, rfl⟩
      obtain ⟨M, hM⟩ : ∃ M, (rdK xs k).1 = M := ⟨_, rfl⟩
      have HPM : Hid ((rdK xs k).2.1 = P ∧ (rdK xs k).1 = M) := ⟨hP, hM⟩
      rw [hP] at hpl HK1 ⊢
      rw [hM] at hT HK1 hml
      obtain ⟨a2, c2, rfl, hts⟩ := hT.slice
      rw [hml] at hT ⊢
      have HT : Hid (Pq w.heap.size wr (.slice a2 k c2) M) := hT
      have HTS : Hid (Pzz wr a2 c2 M) := hts
      have HML : Hid (M.length = k) := hml
      clear hT hts hP hM hok hml
      by_cases hkn : k < n
      · have hpa := pairsAt_any a cap xs P wr (HH.out.below hB) (by omega) hlx
        have HPL : Hid ((prsAt xs P (cnP xs P)).length = cnP xs P) := prsAt_len _ _ _
        have hcb : cnP xs P < 65536 := nmV_lt HBY.out _ 2
        cases hop : okP xs P with
        | false =>
          have HE : Hid (rdPE xs = 2 ∧ rdPL xs = []) := HBAD.out (by
            rw [HRB2.out]
            cases hh : (rdK xs n).2.2 with
            | false => rfl
            | true =>
              have := rdK_ok hh (k + 1) (by omega)
              rw [HK1.out] at this
              dsimp only at this
              rw [hop, Bool.and_false] at this
              cases this)
          rw [hop] at hpa
          clear hop
          go_wp2_with fail
          refine hpa.mono ?_
          rintro e u2 ⟨v2, rfl, _, hb2⟩
          replace hB := hB.trans (hb2.mono hB.size)
          clear hpa hb2
          go_wp2
          go_ret2
          exact ⟨none, 0, by rw [HE.out.1, HE.out.2]; rfl, by rw [HE.out.2]; exact Pzz.nil _ _ _ (Nat.zero_le _), hB⟩
        | true =>
          have HOP : Hid (okP xs P = true) := hop
          rw [hop] at hpa
          obtain ⟨l, hl⟩ : ∃ l, prsAt xs P (cnP xs P) = l := ⟨_, rfl⟩
          rw [hl] at hpa HPL HK1
          rw [← HPL.out] at hcb HK1
          clear hl hop
          go_wp2_with fail
          refine hpa.mono ?_
          rintro e u2 ⟨v2, rfl, hv, hb2⟩
          obtain ⟨a3, c3, rfl, hp3, hlo⟩ := hv (by simp)
          have HT2 : Hid (Pq w.heap.size u2 (.slice a2 k c2) M) := HT.out.below hb2
          have HLO : Hid (∀ b o, a3 = some ⟨b, o, none⟩ → l ≠ [] → (Value.slice a2 k c2).ownBlock ≠ some b) := fun b o e _ e2 => by
            have h1 := hlo b o e
            have h3 := (HT.out.lo e2).2
            omega
          have hB2 := hB.trans (hb2.mono hB.size)
          clear hpa hb2 hv hlo
          have hT5 := HT2.out.below (bl1 (.cells #[.slice a3 l.length c3] 22))
          have hp5 := hp3.below (bl1 (.cells #[.slice a3 l.length c3] 22))
          have hN := heap_alloc_new u2 (.cells #[.slice a3 l.length c3] 22)
          have n0 := cell_of_row _ u2.heap.size 0 _ _ (0, 0) hN
          have hll : M.length + 1 ≤ 1000000 := by rw [HML.out]; omega
          have hbs : w.heap.size ≤ (u2.alloc (.cells #[.slice a3 l.length c3] 22)).heap.size := by have := hB2.size; simp; omega
          clear hN hp3
          go_wp2_with (at_builtin; refine wpList_append_bn rfl _ _ rfl w.heap.size _ M rfl hT5 u2.heap.size a3 c3 l rfl n0 hp5 HLO.out hll hbs ?_)
          intro v' w9 hT9 hgrow
          have hB9 : Below w.heap.size w w9 := (hB2.alloc hB2.size _).grown hgrow hbs (fun k hk => (HT.out.lo hk).1)
          have HT9 : Hid (Pq w.heap.size w9 v' (rdK xs (k + 1)).1) := by
            show Pq _ _ _ _
            rw [HK1.out]
            exact hT9
          clear hgrow hT5 hT9 n0 hbs hp5 hB hB2
          go_wp2
          go_roundw
          case rel =>
            refine ⟨k + 1, by omega, by go_num, ?_, ?_, HT9.out, hB9⟩
            · rw [HK1.out]
              show Value.int IntKind.i64 _ = Value.int IntKind.i64 _
              congr 1
              dsimp only
              omega
            · rw [HK1.out]
              dsimp only
              rw [HOK.out, HOP.out]
              rfl
          case measure => simp [intOf]; omega
      · have hke : k = n := by omega
        have g1 : ¬ (k : Int) < (n : Int) := by omega
        have HRB3 : Hid (rdPB xs = (decide (P = xs.length) && frL M)) := by show _ = _; rw [HRB2.out, ← hke, HOK.out, HPM.out.1, HPM.out.2]; rfl
        have HRL3 : Hid (rdPB xs = true → rdPE xs = 0 ∧ rdPL xs = M) := by
          show rdPB xs = true → _
          intro e
          have := HRL.out e
          rw [← hke, HPM.out.2] at this
          exact this
        clear hke
        by_cases hpe : P = xs.length
        rotate_left
        · have HE : Hid (rdPE xs = 2 ∧ rdPL xs = []) := HBAD.out (by rw [HRB3.out, decide_eq_false hpe]; rfl)
          have g2 : ((P : Int) != (xs.length : Int)) = true := by simp; omega
          go_wp2
          go_ret2
          exact ⟨none, 0, by rw [HE.out.1, HE.out.2]; rfl, by rw [HE.out.2]; exact Pzz.nil _ _ _ (Nat.zero_le _), hB⟩
        have g2 : ((P : Int) != (xs.length : Int)) = false := by simp; omega
        have HRB4 : Hid (rdPB xs = frL M) := by show _ = _; rw [HRB3.out, decide_eq_true hpe]; rfl
        clear hpe
        have hcf := callF_any a2 c2 M wr HTS.out
        rw [HML.out] at hcf
        cases hfr : frL M with
        | false =>
          have HE : Hid (rdPE xs = 2 ∧ rdPL xs = []) := HBAD.out (by rw [HRB4.out, hfr])
          rw [hfr] at hcf
          clear hfr
          go_wp2_with fail
          refine hcf.mono ?_
          rintro e u3 ⟨rfl, hb3⟩
          replace hB := hB.trans (hb3.mono hB.size)
          clear hcf hb3
          go_wp2
          go_ret2
          exact ⟨none, 0, by rw [HE.out.1, HE.out.2]; rfl, by rw [HE.out.2]; exact Pzz.nil _ _ _ (Nat.zero_le _), hB⟩
        | true =>
          have HE : Hid (rdPE xs = 0 ∧ rdPL xs = M) := HRL3.out (by rw [HRB4.out, hfr])
          rw [hfr] at hcf
          clear hfr
          go_wp2_with fail
          refine hcf.mono ?_
          rintro e u3 ⟨rfl, hb3⟩
          have HT9 : Hid (Pzz u3 a2 c2 M) := HTS.out.below hb3
          replace hB := hB.trans (hb3.mono hB.size)
          clear hcf hb3
          go_wp2
          go_ret2
          exact ⟨a2, c2, by rw [HE.out.1, HE.out.2, HML.out]; rfl, by rw [HE.out.2]; exact HT9.out, hB⟩

end Go.Proofs.YtdholmnniccbcaaGreatDoor

namespace Go.Proofs.YtdholmnniccbcaaGreatDoor
open Go.RowKit Go.Maps
set_option linter.unusedSimpArgs false
set_option linter.unusedVariables false

theorem list_diff {xs ys : List Nat} (hl : xs.length = ys.length) (h : ∀ k, k < xs.length → xs.getD k 0 = ys.getD k 0) : xs = ys := by
  apply List.ext_getElem hl
  intro i h1 h2
  have := h i h1
  simpa [List.getD, h1, h2] using this

set_option maxHeartbeats 1000000 in
set_option maxRecDepth 100000 in
theorem same8g_any (a b : Option Addr) (ca cb : Nat) (xs ys : List Nat) (w : World) (ha : Rb w a ca xs) (hb : Rb w b cb ys) :
    Calls Tryz.prog 20 #[.slice a xs.length ca, .slice b ys.length cb] w fun e w' => e = .returned (.bool (decide (xs = ys))) ∧ Below w.heap.size w w' := by
  by_cases hl : xs.length = ys.length
  rotate_left
  · have hne : ((xs.length : Int) != (ys.length : Int)) = true := by simp; omega
    have hd : decide (xs = ys) = false := decide_eq_false (fun e => hl (by rw [e]))
    rw [hd]
    go_enter Tryz.func20, Tryz.ntmps20
    go_wp2
    go_ret
    exact ⟨rfl, Below.refl _ _⟩
  have k1 := ha.le
  have k2 := ha.cap
  unfold maxLen at k2
  have fa := ha.fm
  have fb := hb.fm
  clear ha hb
  have HL : Hid (xs.length = ys.length) := hl
  have hne : ((xs.length : Int) != (ys.length : Int)) = false := by simp; omega
  obtain ⟨ly, hly⟩ : ∃ ly, ys.length = ly := ⟨_, rfl⟩
  rw [hly] at hl hne ⊢
  have HLY : Hid (ys.length = ly) := hly
  subst hl
  clear hly
  have HD : Hid (∀ B : Bool, decide (xs = ys) = B → decide (xs = ys) = B) := fun _ h => h
  generalize hD : decide (xs = ys) = D at *
  have HDD : Hid (decide (xs = ys) = D) := hD
  clear hD HD
  go_enter Tryz.func20, Tryz.ntmps20
  go_wp2
  go_loopw [5] (fun i wr => ∃ k : Nat, k ≤ xs.length ∧ i = .int .i64 k ∧ (∀ j, j < k → xs.getD j 0 = ys.getD j 0) ∧ Below w.heap.size w wr) (fun i _ => xs.length - (intOf i).toNat)
  case atStart => exact ⟨0, Nat.zero_le _, rfl, fun j hj => by omega, Below.refl _ _⟩
  case round =>
    obtain ⟨k, hk, rfl, hall, hnx⟩ := hrel
    have HALL : Hid (∀ j, j < k → xs.getD j 0 = ys.getD j 0) := hall
    clear hall
    by_cases hkn : k < xs.length
    · obtain ⟨b1, o1, rfl, _, c1⟩ := fa.at hnx k hkn
      obtain ⟨b2, o2, rfl, _, c2⟩ := fb.at hnx k (by rw [HLY.out]; exact hkn)
      obtain ⟨x, hx⟩ : ∃ x, xs.getD k 0 = x := ⟨_, rfl⟩
      obtain ⟨y, hy⟩ : ∃ y, ys.getD k 0 = y := ⟨_, rfl⟩
      rw [hx] at c1
      rw [hy] at c2
      have HX : Hid (xs.getD k 0 = x) := hx
      have HY : Hid (ys.getD k 0 = y) := hy
      clear hx hy
      have i1 : (0 : Int) ≤ (k : Int) := by omega
      have i2 : (k : Int) < (xs.length : Int) := by omega
      by_cases hxy : x = y
      · subst hxy
        have hxx : ((x : Int) != (x : Int)) = false := by simp
        go_wp2_with fail
        go_quiet (fail)
        go_wp2
        go_roundw
        case rel =>
          refine ⟨k + 1, by omega, by go_num, fun j hj => ?_, below_drewN hnx _⟩
          rcases Nat.lt_or_ge j k with h1 | h1
          · exact HALL.out j h1
          · rw [show j = k by omega, HX.out, HY.out]
        case measure => simp [intOf]; omega
      · have hxx : ((x : Int) != (y : Int)) = true := by simp; omega
        have hDf : D = false := by
          rw [← HDD.out]
          refine decide_eq_false (fun e => ?_)
          have h1 := HX.out
          rw [e, HY.out] at h1
          exact hxy h1.symm
        clear hxy
        go_wp2_with fail
        go_quiet (fail)
        go_wp2
        go_ret
        exact ⟨rt_bool (by rw [hDf]), below_drewN hnx _⟩
    · obtain rfl : k = xs.length := by omega
      have hDt : D = true := by
        rw [← HDD.out]
        exact decide_eq_true (list_diff (by rw [HLY.out]) HALL.out)
      go_wp2
      go_ret
      exact ⟨rt_bool (by rw [hDt]), hnx⟩

end Go.Proofs.YtdholmnniccbcaaGreatDoor
