/-
  axes.Clamp, foundryref06.Clamp, foundryref06.SameInts, foundryref06.Same: the walks.
-/
import Derived.Test.YtdpafdeoepbhaaaZ19
import Derived.Test.YtdpafdeoepbhaaaZ15
import Derived.Test.YtdpafdeoepbhaaaZ22
import Derived.Laws.MakeOwn
namespace Go.Proofs.Ytdpafdeoepbhaaa
open Go.RowKit Go.Maps
set_option linter.unusedSimpArgs false
set_option linter.unusedVariables false

set_option maxHeartbeats 2000000 in
set_option maxRecDepth 100000 in
theorem cclampA_any (a : Option Addr) (cap : Nat) (l : List Ax) (pa : Option Addr) (pc : Nat) (ps : List Int) (w : World) (h : As w a cap l) (hp : Ri w pa pc ps) (hl : l.length ≤ 1000) (hlp : ps.length ≤ 1000) :
    Calls Try.prog 21 #[.slice a l.length cap, .slice pa ps.length pc] w fun e w' => ∃ a' cap', e = .returned (.slice a' (clK l ps l.length).length cap') ∧ Ri w' a' cap' (clK l ps l.length) ∧ Below w.heap.size w w' := by
  obtain ⟨i0, hi0, hz0, hz1, hz2⟩ := info_parts infoA_i64
  obtain ⟨w1, hmk, hown, hgrow⟩ := run_makeSlice_owned w w.heap.size 27 3 i0 _ 1 Try.underlying27 hi0 hz0 hz1 .i64 .i64 l.length (by omega) (by rw [hz2]; omega) (by unfold maxLen; omega) (Nat.le_refl _)
  have hI0 : Io w.heap.size w1 (.slice (some ⟨w.heap.size, 0, none⟩) 0 l.length) (clK l ps 0) := ⟨fun t ht => (by cases ht), hown⟩
  have hB1 : Below w.heap.size w w1 := (Below.refl _ _).grown hgrow (Nat.le_refl _) (fun k hk => by cases hk)
  clear hown hgrow hi0 hz0 hz1 hz2
  have HH : Hid (As w a cap l) := h
  have HP : Hid (Ri w pa pc ps) := hp
  clear h hp
  go_enter Try.func21, Try.ntmps21
  go_wp2
  go_loopw [5, 14] (fun v i wr => ∃ k : Nat, k ≤ l.length ∧ i = .int .i64 k ∧ Io w.heap.size wr v (clK l ps k) ∧ Below w.heap.size w wr) (fun _ i _ => l.length - (intOf i).toNat)
  case atStart => exact ⟨0, Nat.zero_le _, rfl, hI0, hB1⟩
  case round =>
    obtain ⟨k, hk, rfl, hT, hB⟩ := hrel
    obtain ⟨a2, c2, rfl, hts⟩ := hT.slice
    have hlen := clK_len l ps k
    rw [hlen] at hT ⊢
    have hll : (clK l ps k).length + 1 ≤ 1000000 := by omega
    have HT : Hid (Io w.heap.size wr (.slice a2 k c2) (clK l ps k)) := hT
    clear hT hlen hmk hI0 hB1
    by_cases hkn : k < l.length
    · clear hts
      obtain ⟨b, off, ea, hb, d0, d1, d2, d3⟩ := HH.out.at hB k hkn
      subst ea
      have hw := HH.out.w hkn
      have HVV : Hid (clV l ps k = if k < ps.length then clp (ps.getD k 0) (l.getD k Ax.none).lo (l.getD k Ax.none).hi else (l.getD k Ax.none).us) := rfl
      generalize l.getD k Ax.none = s at *
      obtain ⟨tx, lo, us, hi⟩ := s
      dsimp only at *
      have hwz := hB.size
      obtain ⟨W, hW, X1, hbR⟩ : ∃ W, W = wr.alloc (.cells #[.string tx, .int .i64 lo, .int .i64 us, .int .i64 hi] 33) ∧ BxA W wr.heap.size (.string tx) (.int .i64 lo) (.int .i64 us) (.int .i64 hi) ∧ Below wr.heap.size wr W := ⟨_, rfl, BxA.new wr _ _ _ _, bl1 _⟩
      by_cases hkp : k < ps.length
      · have gg : (k : Int) < (ps.length : Int) := by omega
        obtain ⟨pb, poff, ep, hpb, dz⟩ := HP.out.at hB k hkp
        subst ep
        have hz := HP.out.i64 hkp
        have HV : Hid (clp (ps.getD k 0) lo hi = clV l ps k) := by show _ = _; rw [HVV.out, if_pos hkp]
        have HI : Hid (I64 (clp (ps.getD k 0) lo hi)) := clp_i64 hz hw.2.1 hw.2.2.2
        generalize ps.getD k 0 = z at *
        obtain ⟨cz, hcz⟩ : ∃ x, clp z lo hi = x := ⟨_, rfl⟩
        rw [hcz] at HV HI
        have HC : Hid (clp z lo hi = cz) := hcz
        clear hcz hw
        obtain ⟨p0, p1, p2, p3, _⟩ := X1.cells
        go_wp2_with fail
        rw [← hW]
        clear hW
        have pz := (hbR.cell (p := ⟨pb, poff + k, none⟩) (Nat.lt_of_lt_of_le hpb hB.size)).trans dz
        go_region_held3 (fun u => u.cell? ⟨wr.heap.size, 1, none⟩ = some (.int .i64 lo) ∧ u.cell? ⟨wr.heap.size, 3, none⟩ = some (.int .i64 hi) ∧ u.cell? ⟨pb, poff + k, none⟩ = some (.int .i64 z)) (go_keep)
          (first
            | (go_at_call 40
               refine (clampB_any z lo hi _).mono ?_
               rintro e u2 ⟨rfl, hb2⟩
               rw [HC.out]
               replace hb2 : Below W.heap.size W u2 := Below.drew1.trans hb2
               have hT2 := (HT.out.below hbR).below hb2
               have hB2 : Below w.heap.size w u2 := (hB.trans (hbR.mono hB.size)).trans (hb2.mono (hB.trans (hbR.mono hB.size)).size)
               replace X1 := X1.below hb2
               clear p0 p1 p2 p3
               obtain ⟨p0, p1, p2, p3, _⟩ := X1.cells
               replace pz := (hb2.cell (p := ⟨pb, poff + k, none⟩) (Nat.lt_of_lt_of_le (Nat.lt_of_lt_of_le hpb hwz) hbR.size)).trans pz))
        have hT5 := hT2.below (bl1 (.cells #[.int .i64 cz] 3))
        have hN := heap_alloc_new u2 (.cells #[.int .i64 cz] 3)
        have n0 := cell_of_row _ u2.heap.size 0 _ _ (0, 0) hN
        have hbs : w.heap.size ≤ (u2.alloc (.cells #[.int .i64 cz] 3)).heap.size := by have := hB2.size; simp at this ⊢; omega
        clear hN
        go_wp2_with (at_builtin; refine wpList_append_int rfl _ _ rfl w.heap.size _ (clK l ps k) rfl hT5 u2.heap.size cz rfl n0 HI.out hll hbs ?_)
        intro v' w9 hT9 hgrow
        have hB9 : Below w.heap.size w w9 := (hB2.alloc hB2.size _).grown hgrow hbs (fun k hk => HT.out.lo hk)
        rw [HV.out] at hT9
        clear hgrow hT5 n0 hbs
        go_wp2
        go_roundw
        case rel => exact ⟨k + 1, by omega, by go_num, by rw [clK_succ]; exact hT9, hB9⟩
        case measure => simp [intOf]; omega
      · have gg : ¬ (k : Int) < (ps.length : Int) := by omega
        have HV : Hid (us = clV l ps k) := by show _ = _; rw [HVV.out, if_neg hkp]
        have HI : Hid (I64 us) := hw.2.2.1
        clear hw
        obtain ⟨p0, p1, p2, p3, _⟩ := X1.cells
        have hT2 := HT.out.below hbR
        have hB2 : Below w.heap.size w W := hB.trans (hbR.mono hB.size)
        subst hW
        have hT5 := hT2.below (bl1 (.cells #[.int .i64 us] 3))
        have hN := heap_alloc_new (wr.alloc (.cells #[.string tx, .int .i64 lo, .int .i64 us, .int .i64 hi] 33)) (.cells #[.int .i64 us] 3)
        rw [show (wr.alloc (.cells #[.string tx, .int .i64 lo, .int .i64 us, .int .i64 hi] 33)).heap.size = wr.heap.size + 1 by simp] at hN
        have n0 := cell_of_row _ (wr.heap.size + 1) 0 _ _ (0, 0) hN
        have hbs : w.heap.size ≤ ((wr.alloc (.cells #[.string tx, .int .i64 lo, .int .i64 us, .int .i64 hi] 33)).alloc (.cells #[.int .i64 us] 3)).heap.size := by have := hB2.size; simp at this ⊢; omega
        clear hN
        go_wp2_with (at_builtin; refine wpList_append_int rfl _ _ rfl w.heap.size _ (clK l ps k) rfl hT5 (wr.heap.size + 1) us rfl n0 HI.out hll hbs ?_)
        intro v' w9 hT9 hgrow
        have hB9 : Below w.heap.size w w9 := (hB2.alloc hB2.size _).grown hgrow hbs (fun k hk => HT.out.lo hk)
        rw [HV.out] at hT9
        clear hgrow hT5 n0 hbs
        go_wp2
        go_roundw
        case rel => exact ⟨k + 1, by omega, by go_num, by rw [clK_succ]; exact hT9, hB9⟩
        case measure => simp [intOf]; omega
    · obtain rfl : k = l.length := by omega
      go_wp2
      go_ret
      exact ⟨a2, c2, by rw [clK_len]; rfl, hts, hB⟩


end Go.Proofs.Ytdpafdeoepbhaaa
