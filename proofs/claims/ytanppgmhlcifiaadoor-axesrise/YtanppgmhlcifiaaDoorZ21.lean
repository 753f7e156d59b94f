/-
  foundryref03.Coordinate, Of14, Of16, Clamp, Field, To14, near, Between: the walks.
  axes.Clamp, foundryref06.Clamp, foundryref06.SameInts, foundryref06.Same: the walks.
  foundryref06.SameInts, foundryref06.Same: the walks.
  What a law is told of a slice of bytes, or of int32, that came in.
  What a law is told of an axis, of a list of axes, of a list of ints that came in.
-/
import Derived.Test.YtanppgmhlcifiaaDoorZ17
import Derived.Test.YtanppgmhlcifiaaDoorZ20
import Derived.Deep.RegionHeld3
import Derived.Test.YtanppgmhlcifiaaDoorZ16
import Derived.Laws.MakeOwn
import Derived.Test.YtanppgmhlcifiaaDoorZ6
import Derived.Test.YtanppgmhlcifiaaDoorZ2
import Derived.Test.YtanppgmhlcifiaaDoorZ1
import Derived.ProofKit
import Derived.Test.YtanppgmhlcifiaaDoorZ5
import Derived.Deep.Slices
import Derived.Lib.SmallJoins
import Derived.ChangeSame
namespace Go.Proofs.YtanppgmhlcifiaaDoor
open Go.RowKit Classical
set_option linter.unusedSimpArgs false
set_option linter.unusedVariables false
set_option maxHeartbeats 400000 in
set_option maxRecDepth 100000 in
theorem sclamp_any (n a b : Int) (w : World) : Calls Tryd.prog 29 #[.int .i64 n, .int .i64 a, .int .i64 b] w fun e w' => e = .returned (.int .i64 (clp n a b)) ∧ w = w' := by
  by_cases h1 : n < a
  · by_cases h2 : b < a
    · go_enter Tryd.func29, Tryd.ntmps29
      go_wp2
      go_ret
      exact ⟨ret_num (by unfold clp; simp [h1, h2]), rfl⟩
    · go_enter Tryd.func29, Tryd.ntmps29
      go_wp2
      go_ret
      exact ⟨ret_num (by unfold clp; simp [h1]; omega), rfl⟩
  · by_cases h2 : b < n
    · go_enter Tryd.func29, Tryd.ntmps29
      go_wp2
      go_ret
      exact ⟨ret_num (by have e : (if n < a then a else n) = n := if_neg (by omega)
                         unfold clp; rw [e, if_pos (by omega)]), rfl⟩
    · go_enter Tryd.func29, Tryd.ntmps29
      go_wp2
      go_ret
      exact ⟨ret_num (by have e : (if n < a then a else n) = n := if_neg (by omega)
                         unfold clp; rw [e, if_neg (by omega)]), rfl⟩

theorem sclampB_any (n a b : Int) (w : World) : Calls Tryd.prog 29 #[.int .i64 n, .int .i64 a, .int .i64 b] w fun e w' => e = .returned (.int .i64 (clp n a b)) ∧ Below w.heap.size w w' :=
  (sclamp_any n a b w).mono fun e w' h => ⟨h.1, h.2 ▸ Below.refl _ _⟩

theorem sgn_ge {q : Rat} : 0 ≤ sgnQ q ↔ 0 ≤ q := by
  unfold sgnQ
  split
  · simp; grind
  · split
    · simp; grind
    · simp; grind
theorem sgn_le {q : Rat} : sgnQ q ≤ 0 ↔ q ≤ 0 := by
  unfold sgnQ
  split
  · simp; grind
  · split
    · simp; grind
    · simp; grind

theorem to14_one {q : Rat} (h : 1 ≤ q) : to14 q = 16384 := by
  have f2 := Rat.lt_floor (x := q * 16384 + 1 / 2)
  unfold to14
  generalize (q * 16384 + 1 / 2).floor = z at f2
  have : ((16383 : Int) : Rat) < ((z : Int) : Rat) := by grind
  have := Rat.intCast_lt_intCast.1 this
  unfold c14
  rw [if_neg (by omega)]
  split <;> omega
theorem to14_mone {q : Rat} (h : q ≤ -1) : to14 q = -16384 := by
  have f1 := Rat.floor_le (q * 16384 + 1 / 2)
  unfold to14
  generalize (q * 16384 + 1 / 2).floor = z at f1
  have : ((z : Int) : Rat) < ((-16383 : Int) : Rat) := by grind
  have := Rat.intCast_lt_intCast.1 this
  unfold c14
  split
  · rfl
  · rw [if_neg (by omega)]; omega
theorem to14_mid {q : Rat} (h1 : -1 < q) (h2 : q < 1) : flN (q * 16384 + 1 / 2).floor = to14 q := by
  have f1 := Rat.floor_le (q * 16384 + 1 / 2)
  have f2 := Rat.lt_floor (x := q * 16384 + 1 / 2)
  unfold to14
  generalize (q * 16384 + 1 / 2).floor = z at f1 f2
  have g1 : ((-16385 : Int) : Rat) < ((z : Int) : Rat) := by grind
  have g2 : ((z : Int) : Rat) < ((16385 : Int) : Rat) := by grind
  have := Rat.intCast_lt_intCast.1 g1
  have := Rat.intCast_lt_intCast.1 g2
  unfold c14 flN flB
  rw [if_pos (by simp; omega), if_neg (by omega), if_neg (by omega)]

end Go.Proofs.YtanppgmhlcifiaaDoor

namespace Go.Proofs.YtanppgmhlcifiaaDoor
open Go.RowKit Go.Maps
set_option linter.unusedSimpArgs false
set_option linter.unusedVariables false

set_option maxHeartbeats 2000000 in
set_option maxRecDepth 100000 in
theorem cclampA_any (a : Option Addr) (cap : Nat) (l : List Ax) (pa : Option Addr) (pc : Nat) (ps : List Int) (w : World) (h : As w a cap l) (hp : Ri w pa pc ps) (hl : l.length ≤ 1000) (hlp : ps.length ≤ 1000) :
    Calls Tryd.prog 13 #[.slice a l.length cap, .slice pa ps.length pc] w fun e w' => ∃ a' cap', e = .returned (.slice a' (clK l ps l.length).length cap') ∧ Ri w' a' cap' (clK l ps l.length) ∧ Below w.heap.size w w' := by
  obtain ⟨i0, hi0, hz0, hz1, hz2⟩ := info_parts infoA_i64
  obtain ⟨w1, hmk, hown, hgrow⟩ := run_makeSlice_owned w w.heap.size 23 3 i0 _ 1 Tryd.underlying23 hi0 hz0 hz1 .i64 .i64 l.length (by omega) (by rw [hz2]; omega) (by unfold maxLen; omega) (Nat.le_refl _)
  have hI0 : Io w.heap.size w1 (.slice (some ⟨w.heap.size, 0, none⟩) 0 l.length) (clK l ps 0) := ⟨fun t ht => (by cases ht), hown⟩
  have hB1 : Below w.heap.size w w1 := (Below.refl _ _).grown hgrow (Nat.le_refl _) (fun k hk => by cases hk)
  clear hown hgrow hi0 hz0 hz1 hz2
  have HH : Hid (As w a cap l) := h
  have HP : Hid (Ri w pa pc ps) := hp
  clear h hp
  go_enter Tryd.func13, Tryd.ntmps13
  go_wp2
  go_loopw [5, 14] (fun v i wr => ∃ k : Nat, k ≤ l.length ∧ i = .int .i64 k ∧ Io w.heap.size wr v (clK l ps k) ∧ Below w.heap.size w wr) (fun _ i _ => l.length - (intOf i).toNat)
  case atStart => exact ⟨0, Nat.zero_le _, rfl, hI0, hB1⟩
  case round =>
    obtain ⟨k, hk, rfl, hT, hB⟩ := hrel
    obtain ⟨a2, c2, rfl, hts⟩ := hT.slice
    have hlen := clK_len l ps k
    rw [hlen] at hT ⊢
    have hll : (clK l ps k).length + 1 ≤ 1000000 := by omega
    have HT : Hid (Io w.heap.size wr (.slice a2 k c2) (clK l ps k)) := hT
    clear hT hlen hmk hI0 hB1
    by_cases hkn : k < l.length
    · clear hts
      obtain ⟨b, off, ea, hb, d0, d1, d2, d3⟩ := HH.out.at hB k hkn
      subst ea
      have hw := HH.out.w hkn
      have HVV : Hid (clV l ps k = if k < ps.length then clp (ps.getD k 0) (l.getD k Ax.none).lo (l.getD k Ax.none).hi else (l.getD k Ax.none).us) := rfl
      generalize l.getD k Ax.none = s at *
      obtain ⟨tx, lo, us, hi⟩ := s
      dsimp only at *
      have hwz := hB.size
      obtain ⟨W, hW, X1, hbR⟩ : ∃ W, W = wr.alloc (.cells #[.string tx, .int .i64 lo, .int .i64 us, .int .i64 hi] 40) ∧ BxA W wr.heap.size (.string tx) (.int .i64 lo) (.int .i64 us) (.int .i64 hi) ∧ Below wr.heap.size wr W := ⟨_, rfl, BxA.new wr _ _ _ _, bl1 _⟩
      by_cases hkp : k < ps.length
      · have gg : (k : Int) < (ps.length : Int) := by omega
        obtain ⟨pb, poff, ep, hpb, dz⟩ := HP.out.at hB k hkp
        subst ep
        have hz := HP.out.i64 hkp
        have HV : Hid (clp (ps.getD k 0) lo hi = clV l ps k) := by show _ = _; rw [HVV.out, if_pos hkp]
        have HI : Hid (I64 (clp (ps.getD k 0) lo hi)) := clp_i64 hz hw.2.1 hw.2.2.2
        generalize ps.getD k 0 = z at *
        obtain ⟨cz, hcz⟩ : ∃ x, clp z lo hi = x := ⟨_, rfl⟩
        rw [hcz] at HV HI
        have HC : Hid (clp z lo hi = cz) := hcz
        clear hcz hw
        obtain ⟨p0, p1, p2, p3, _⟩ := X1.cells
        go_wp2_with fail
        rw [← hW]
        clear hW
        have pz := (hbR.cell (p := ⟨pb, poff + k, none⟩) (Nat.lt_of_lt_of_le hpb hB.size)).trans dz
        go_region_held3 (fun u => u.cell? ⟨wr.heap.size, 1, none⟩ = some (.int .i64 lo) ∧ u.cell? ⟨wr.heap.size, 3, none⟩ = some (.int .i64 hi) ∧ u.cell? ⟨pb, poff + k, none⟩ = some (.int .i64 z)) (go_keep)
          (first
            | (go_at_call 28
               refine (clampB_any z lo hi _).mono ?_
               rintro e u2 ⟨rfl, hb2⟩
               rw [HC.out]
               replace hb2 : Below W.heap.size W u2 := Below.drew1.trans hb2
               have hT2 := (HT.out.below hbR).below hb2
               have hB2 : Below w.heap.size w u2 := (hB.trans (hbR.mono hB.size)).trans (hb2.mono (hB.trans (hbR.mono hB.size)).size)
               replace X1 := X1.below hb2
               clear p0 p1 p2 p3
               obtain ⟨p0, p1, p2, p3, _⟩ := X1.cells
               replace pz := (hb2.cell (p := ⟨pb, poff + k, none⟩) (Nat.lt_of_lt_of_le (Nat.lt_of_lt_of_le hpb hwz) hbR.size)).trans pz))
        have hT5 := hT2.below (bl1 (.cells #[.int .i64 cz] 3))
        have hN := heap_alloc_new u2 (.cells #[.int .i64 cz] 3)
        have n0 := cell_of_row _ u2.heap.size 0 _ _ (0, 0) hN
        have hbs : w.heap.size ≤ (u2.alloc (.cells #[.int .i64 cz] 3)).heap.size := by have := hB2.size; simp at this ⊢; omega
        clear hN
        go_wp2_with (at_builtin; refine wpList_append_int rfl _ _ rfl w.heap.size _ (clK l ps k) rfl hT5 u2.heap.size cz rfl n0 HI.out hll hbs ?_)
        intro v' w9 hT9 hgrow
        have hB9 : Below w.heap.size w w9 := (hB2.alloc hB2.size _).grown hgrow hbs (fun k hk => HT.out.lo hk)
        rw [HV.out] at hT9
        clear hgrow hT5 n0 hbs
        go_wp2
        go_roundw
        case rel => exact ⟨k + 1, by omega, by go_num, by rw [clK_succ]; exact hT9, hB9⟩
        case measure => simp [intOf]; omega
      · have gg : ¬ (k : Int) < (ps.length : Int) := by omega
        have HV : Hid (us = clV l ps k) := by show _ = _; rw [HVV.out, if_neg hkp]
        have HI : Hid (I64 us) := hw.2.2.1
        clear hw
        obtain ⟨p0, p1, p2, p3, _⟩ := X1.cells
        have hT2 := HT.out.below hbR
        have hB2 : Below w.heap.size w W := hB.trans (hbR.mono hB.size)
        subst hW
        have hT5 := hT2.below (bl1 (.cells #[.int .i64 us] 3))
        have hN := heap_alloc_new (wr.alloc (.cells #[.string tx, .int .i64 lo, .int .i64 us, .int .i64 hi] 40)) (.cells #[.int .i64 us] 3)
        rw [show (wr.alloc (.cells #[.string tx, .int .i64 lo, .int .i64 us, .int .i64 hi] 40)).heap.size = wr.heap.size + 1 by simp] at hN
        have n0 := cell_of_row _ (wr.heap.size + 1) 0 _ _ (0, 0) hN
        have hbs : w.heap.size ≤ ((wr.alloc (.cells #[.string tx, .int .i64 lo, .int .i64 us, .int .i64 hi] 40)).alloc (.cells #[.int .i64 us] 3)).heap.size := by have := hB2.size; simp at this ⊢; omega
        clear hN
        go_wp2_with (at_builtin; refine wpList_append_int rfl _ _ rfl w.heap.size _ (clK l ps k) rfl hT5 (wr.heap.size + 1) us rfl n0 HI.out hll hbs ?_)
        intro v' w9 hT9 hgrow
        have hB9 : Below w.heap.size w w9 := (hB2.alloc hB2.size _).grown hgrow hbs (fun k hk => HT.out.lo hk)
        rw [HV.out] at hT9
        clear hgrow hT5 n0 hbs
        go_wp2
        go_roundw
        case rel => exact ⟨k + 1, by omega, by go_num, by rw [clK_succ]; exact hT9, hB9⟩
        case measure => simp [intOf]; omega
    · obtain rfl : k = l.length := by omega
      go_wp2
      go_ret
      exact ⟨a2, c2, by rw [clK_len]; rfl, hts, hB⟩


set_option maxHeartbeats 2000000 in
set_option maxRecDepth 100000 in
theorem sclampA_any (a : Option Addr) (cap : Nat) (l : List Ax) (pa : Option Addr) (pc : Nat) (ps : List Int) (w : World) (h : As w a cap l) (hp : Ri w pa pc ps) (hl : l.length ≤ 1000) (hlp : ps.length ≤ 1000) :
    Calls Tryd.prog 14 #[.slice a l.length cap, .slice pa ps.length pc] w fun e w' => ∃ a' cap', e = .returned (.slice a' (clK l ps l.length).length cap') ∧ Ri w' a' cap' (clK l ps l.length) ∧ Below w.heap.size w w' := by
  have hI0 : Io w.heap.size w (.slice none 0 0) (clK l ps 0) := Io.nil _ _
  have hB1 : Below w.heap.size w w := Below.refl _ _
  have HH : Hid (As w a cap l) := h
  have HP : Hid (Ri w pa pc ps) := hp
  clear h hp
  go_enter Tryd.func14, Tryd.ntmps14
  go_wp2
  go_loopw [5, 6] (fun v i wr => ∃ k : Nat, k ≤ l.length ∧ i = .int .i64 k ∧ Io w.heap.size wr v (clK l ps k) ∧ Below w.heap.size w wr) (fun _ i _ => l.length - (intOf i).toNat)
  case atStart => exact ⟨0, Nat.zero_le _, rfl, hI0, hB1⟩
  case round =>
    obtain ⟨k, hk, rfl, hT, hB⟩ := hrel
    obtain ⟨a2, c2, rfl, hts⟩ := hT.slice
    have hlen := clK_len l ps k
    rw [hlen] at hT ⊢
    have hll : (clK l ps k).length + 1 ≤ 1000000 := by omega
    have HT : Hid (Io w.heap.size wr (.slice a2 k c2) (clK l ps k)) := hT
    clear hT hlen hI0 hB1
    by_cases hkn : k < l.length
    · clear hts
      obtain ⟨b, off, ea, hb, d0, d1, d2, d3⟩ := HH.out.at hB k hkn
      subst ea
      have hw := HH.out.w hkn
      have HVV : Hid (clV l ps k = if k < ps.length then clp (ps.getD k 0) (l.getD k Ax.none).lo (l.getD k Ax.none).hi else (l.getD k Ax.none).us) := rfl
      generalize l.getD k Ax.none = s at *
      obtain ⟨tx, lo, us, hi⟩ := s
      dsimp only at *
      have hwz := hB.size
      by_cases hkp : k < ps.length
      · have gg : (k : Int) < (ps.length : Int) := by omega
        obtain ⟨pb, poff, ep, hpb, dz⟩ := HP.out.at hB k hkp
        subst ep
        have hz := HP.out.i64 hkp
        have HV : Hid (clp (ps.getD k 0) lo hi = clV l ps k) := by show _ = _; rw [HVV.out, if_pos hkp]
        have HI : Hid (I64 (clp (ps.getD k 0) lo hi)) := clp_i64 hz hw.2.1 hw.2.2.2
        generalize ps.getD k 0 = z at *
        obtain ⟨cz, hcz⟩ : ∃ x, clp z lo hi = x := ⟨_, rfl⟩
        rw [hcz] at HV HI
        have HC : Hid (clp z lo hi = cz) := hcz
        clear hcz hw
        go_wp2_with fail
        have pz := dz
        go_region_held3 (fun u => u.cell? ⟨b, off + k * 4 + 1, none⟩ = some (.int .i64 lo) ∧ u.cell? ⟨b, off + k * 4 + 3, none⟩ = some (.int .i64 hi) ∧ u.cell? ⟨pb, poff + k, none⟩ = some (.int .i64 z)) (go_keep)
          (first
            | (go_at_call 29
               refine (sclampB_any z lo hi _).mono ?_
               rintro e u2 ⟨rfl, hb2⟩
               rw [HC.out]
               replace hb2 : Below wr.heap.size wr u2 := Below.drew1.trans hb2
               have hT2 := HT.out.below hb2
               have hB2 : Below w.heap.size w u2 := hB.trans (hb2.mono hB.size)
               replace d1 := (hb2.cell (p := ⟨b, off + k * 4 + 1, none⟩) (Nat.lt_of_lt_of_le hb hwz)).trans d1
               replace d3 := (hb2.cell (p := ⟨b, off + k * 4 + 3, none⟩) (Nat.lt_of_lt_of_le hb hwz)).trans d3
               replace pz := (hb2.cell (p := ⟨pb, poff + k, none⟩) (Nat.lt_of_lt_of_le hpb hwz)).trans pz))
        have hT5 := hT2.below (bl1 (.cells #[.int .i64 cz] 3))
        have hN := heap_alloc_new u2 (.cells #[.int .i64 cz] 3)
        have n0 := cell_of_row _ u2.heap.size 0 _ _ (0, 0) hN
        have hbs : w.heap.size ≤ (u2.alloc (.cells #[.int .i64 cz] 3)).heap.size := by have := hB2.size; simp at this ⊢; omega
        clear hN
        go_wp2_with (at_builtin; refine wpList_append_int rfl _ _ rfl w.heap.size _ (clK l ps k) rfl hT5 u2.heap.size cz rfl n0 HI.out hll hbs ?_)
        intro v' w9 hT9 hgrow
        have hB9 : Below w.heap.size w w9 := (hB2.alloc hB2.size _).grown hgrow hbs (fun k hk => HT.out.lo hk)
        rw [HV.out] at hT9
        clear hgrow hT5 n0 hbs
        go_wp2
        go_roundw
        case rel => exact ⟨k + 1, by omega, by go_num, by rw [clK_succ]; exact hT9, hB9⟩
        case measure => simp [intOf]; omega
      · have gg : ¬ (k : Int) < (ps.length : Int) := by omega
        have HV : Hid (us = clV l ps k) := by show _ = _; rw [HVV.out, if_neg hkp]
        have HI : Hid (I64 us) := hw.2.2.1
        clear hw
        skip
        have hT2 := HT.out
        have hB2 := hB
        skip
        have hT5 := hT2.below (bl1 (.cells #[.int .i64 us] 3))
        have hN := heap_alloc_new wr (.cells #[.int .i64 us] 3)
        have n0 := cell_of_row _ wr.heap.size 0 _ _ (0, 0) hN
        have hbs : w.heap.size ≤ (wr.alloc (.cells #[.int .i64 us] 3)).heap.size := by have := hB2.size; simp at this ⊢; omega
        clear hN
        go_wp2_with (at_builtin; refine wpList_append_int rfl _ _ rfl w.heap.size _ (clK l ps k) rfl hT5 wr.heap.size us rfl n0 HI.out hll hbs ?_)
        intro v' w9 hT9 hgrow
        have hB9 : Below w.heap.size w w9 := (hB2.alloc hB2.size _).grown hgrow hbs (fun k hk => HT.out.lo hk)
        rw [HV.out] at hT9
        clear hgrow hT5 n0 hbs
        go_wp2
        go_roundw
        case rel => exact ⟨k + 1, by omega, by go_num, by rw [clK_succ]; exact hT9, hB9⟩
        case measure => simp [intOf]; omega
    · obtain rfl : k = l.length := by omega
      go_wp2
      go_ret
      exact ⟨a2, c2, by rw [clK_len]; rfl, hts, hB⟩

end Go.Proofs.YtanppgmhlcifiaaDoor

namespace Go.Proofs.YtanppgmhlcifiaaDoor
open Go.RowKit Go.Maps
set_option linter.unusedSimpArgs false
set_option linter.unusedVariables false

set_option maxHeartbeats 1000000 in
set_option maxRecDepth 100000 in
theorem ssameI_any (a b : Option Addr) (ca cb : Nat) (zs : List Int) (w : World) (ha : Ri w a ca zs) (hb : Ri w b cb zs) :
    Calls Tryd.prog 12 #[.slice a zs.length ca, .slice b zs.length cb] w fun e w' => e = .returned (.bool true) ∧ Below w.heap.size w w' := by
  have k1 := ha.2.1
  have k2 := ha.2.2.1
  unfold maxLen at k2
  have hne : ((zs.length : Int) != (zs.length : Int)) = false := by simp
  have HA : Hid (Ri w a ca zs) := ha
  have HB : Hid (Ri w b cb zs) := hb
  clear ha hb
  go_enter Tryd.func12, Tryd.ntmps12
  go_wp2
  go_loopw [5] (fun i wr => ∃ k : Nat, k ≤ zs.length ∧ i = .int .i64 k ∧ Below w.heap.size w wr) (fun i _ => zs.length - (intOf i).toNat)
  case atStart => exact ⟨0, Nat.zero_le _, rfl, Below.refl _ _⟩
  case round =>
    obtain ⟨k, hk, rfl, hnx⟩ := hrel
    by_cases hkn : k < zs.length
    · obtain ⟨b1, o1, rfl, _, c1⟩ := HA.out.at hnx k hkn
      obtain ⟨b2, o2, rfl, _, c2⟩ := HB.out.at hnx k hkn
      obtain ⟨x, hx⟩ : ∃ x, zs.getD k 0 = x := ⟨_, rfl⟩
      rw [hx] at c1 c2
      have hxx : ((x : Int) != (x : Int)) = false := by simp
      clear hx
      have i1 : (0 : Int) ≤ (k : Int) := by omega
      have i2 : (k : Int) < (zs.length : Int) := by omega
      go_wp2_with fail
      go_quiet (fail)
      go_wp2
      go_roundw
      case rel => exact ⟨k + 1, by omega, by go_num, below_drewN hnx _⟩
      case measure => simp [intOf]; omega
    · go_wp2
      go_ret
      exact ⟨rfl, hnx⟩

set_option maxHeartbeats 1000000 in
set_option maxRecDepth 100000 in
theorem ssameA_any (a b : Option Addr) (ca cb : Nat) (l : List Ax) (w : World) (ha : As w a ca l) (hb : As w b cb l) :
    Calls Tryd.prog 17 #[.slice a l.length ca, .slice b l.length cb] w fun e w' => e = .returned (.bool true) ∧ Below w.heap.size w w' := by
  have k1 := ha.1
  have k2 := ha.2.1
  unfold maxLen at k2
  have hne : ((l.length : Int) != (l.length : Int)) = false := by simp
  have HA : Hid (As w a ca l) := ha
  have HB : Hid (As w b cb l) := hb
  clear ha hb
  go_enter Tryd.func17, Tryd.ntmps17
  go_wp2
  go_loopw [5] (fun i wr => ∃ k : Nat, k ≤ l.length ∧ i = .int .i64 k ∧ Below w.heap.size w wr) (fun i _ => l.length - (intOf i).toNat)
  case atStart => exact ⟨0, Nat.zero_le _, rfl, Below.refl _ _⟩
  case round =>
    obtain ⟨k, hk, rfl, hnx⟩ := hrel
    by_cases hkn : k < l.length
    · obtain ⟨b1, o1, rfl, _, c0, c1, c2, c3⟩ := HA.out.at hnx k hkn
      obtain ⟨b2, o2, rfl, _, d0, d1, d2, d3⟩ := HB.out.at hnx k hkn
      generalize l.getD k Ax.none = s at *
      obtain ⟨tx, lo, us, hi⟩ := s
      dsimp only at *
      have htt : (tx.toList == tx.toList) = true := by simp
      have i1 : (0 : Int) ≤ (k : Int) := by omega
      have i2 : (k : Int) < (l.length : Int) := by omega
      go_wp2_with fail
      go_quiet (fail)
      go_wp2
      go_roundw
      case rel => exact ⟨k + 1, by omega, by go_num, below_drewN hnx _⟩
      case measure => simp [intOf]; omega
    · go_wp2
      go_ret
      exact ⟨rfl, hnx⟩

end Go.Proofs.YtanppgmhlcifiaaDoor

namespace Go.Proofs.YtanppgmhlcifiaaDoor
open Go.RowKit
set_option linter.unusedSimpArgs false
set_option linter.unusedVariables false

/-- A slice of integers that came in: it is nil; or it leads to a row of 'cap' cells, the numbers 'zs' (the first 'len' are its elements), each fitting its kind. -/
def IsRowK (k : IntKind) (w : World) (a : Option Addr) (len cap : Nat) (zs : List Int) : Prop :=
  (a = none ∧ len = 0 ∧ cap = 0 ∧ zs = []) ∨
  ∃ x, a = some x ∧ len ≤ cap ∧ cap ≤ maxLen ∧ zs.length = cap ∧ (∀ i, i < zs.length → w.cell? (x.add i) = some (.int k (zs.getD i 0))) ∧ ∀ n ∈ zs, (Lit.int k n).wf = true

theorem wfo_u8_bounds {n : Int} (h : (Lit.int .u8 n).wf = true) : 0 ≤ n ∧ n < 256 := by
  simp [Lit.wf, IntKind.min, IntKind.max, IntKind.bits, IntKind.signed] at h
  omega
theorem wfo_i32_bounds {n : Int} (h : (Lit.int .i32 n).wf = true) : -2147483648 ≤ n ∧ n ≤ 2147483647 := by
  simp [Lit.wf, IntKind.min, IntKind.max, IntKind.bits, IntKind.signed] at h
  omega
theorem wfo_i64_bounds {n : Int} (h : (Lit.int .i64 n).wf = true) : -9223372036854775808 ≤ n ∧ n ≤ 9223372036854775807 := by
  simp [Lit.wf, IntKind.min, IntKind.max, IntKind.bits, IntKind.signed] at h
  omega

theorem IsRowK.cells {k : IntKind} {w : World} {a : Option Addr} {len cap : Nat} {zs : List Int} (h : IsRowK k w a len cap zs) :
    ∃ ys : List Int, len = ys.length ∧ (∀ y ∈ ys, (Lit.int k y).wf = true) ∧ ys.length ≤ cap ∧ cap ≤ maxLen ∧ (a = none → cap = 0) ∧
      (ys = [] ∨ ∃ b off, a = some ⟨b, off, none⟩ ∧ b < w.heap.size ∧ ∀ i, i < ys.length → w.cell? ⟨b, off + i, none⟩ = some (.int k (ys.getD i 0))) := by
  rcases h with ⟨rfl, rfl, rfl, rfl⟩ | ⟨x, rfl, h1, h2, h3, hc, hw⟩
  · exact ⟨[], rfl, (fun y hy => by cases hy), Nat.le_refl _, Nat.zero_le _, fun _ => rfl, .inl rfl⟩
  · refine ⟨zs.take len, by simp; omega, fun y hy => hw y (List.mem_of_mem_take hy), by simp; omega, h2, (by simp), ?_⟩
    by_cases h0 : len = 0
    · exact .inl (by simp [h0])
    · obtain ⟨b, off, spot⟩ := x
      have c0 := hc 0 (by omega)
      have hspot : spot = none := by simpa [Addr.add] using World.cell?_spot c0
      subst hspot
      refine .inr ⟨b, off, rfl, ?_, fun i hi => ?_⟩
      · have := World.block_lt_of_cell? w _ c0
        simpa [Addr.add] using this
      · simp at hi
        have hadd : (⟨b, off, none⟩ : Addr).add i = ⟨b, off + i, none⟩ := by unfold Addr.add; split <;> simp_all
        have hci := hc i (by omega)
        rw [hadd] at hci
        rw [hci]
        simp [List.getD, show i < len by omega]

theorem IsRowK.rb {w : World} {a : Option Addr} {len cap : Nat} {zs : List Int} (h : IsRowK .u8 w a len cap zs) : ∃ xs : List Nat, len = xs.length ∧ Rb w a cap xs := by
  obtain ⟨ys, h1, h2, h3, h4, h5, h6⟩ := h.cells
  have hb : ∀ y ∈ ys, 0 ≤ y ∧ y < 256 := fun y hy => wfo_u8_bounds (h2 y hy)
  refine ⟨ys.map Int.toNat, by simp [h1], ?_, by simpa using h3, h4, h5, ?_⟩
  · intro x hx
    obtain ⟨y, hy, rfl⟩ := List.mem_map.1 hx
    have := hb y hy
    omega
  · rcases h6 with rfl | ⟨b, off, e, hlt, hc⟩
    · exact .inl rfl
    · refine .inr ⟨b, off, e, hlt, fun i hi => ?_⟩
      simp at hi
      rw [hc i hi]
      have h0 : ys.getD i 0 = ys[i] := by simp [List.getD, hi]
      have hy := hb ys[i] (List.getElem_mem hi)
      rw [h0]
      simp [List.getD, hi]
      omega

end Go.Proofs.YtanppgmhlcifiaaDoor

namespace Go.Proofs.YtanppgmhlcifiaaDoor
open Go.RowKit
open Go.ChangeShapes Go.WideShapes Go.Joins Go.Deep
set_option linter.unusedSimpArgs false
set_option linter.unusedVariables false

theorem list_of_ltA {α : Type} {d : α} {p : Nat → α → Prop} : ∀ n, (∀ i, i < n → ∃ o, p i o) → ∃ os : List α, os.length = n ∧ ∀ i, i < n → p i (os.getD i d) := by
  intro n
  induction n with
  | zero => exact fun _ => ⟨[], rfl, fun i hi => by omega⟩
  | succ n ih =>
    intro h
    obtain ⟨os, hl, ho⟩ := ih (fun i hi => h i (by omega))
    obtain ⟨o, h1⟩ := h n (by omega)
    refine ⟨os ++ [o], by simp [hl], fun i hi => ?_⟩
    by_cases hi' : i < n
    · have e : (os ++ [o]).getD i d = os.getD i d := by simp [List.getD, List.getElem?_append_left (show i < os.length by omega)]
      rw [e]
      exact ho i hi'
    · have e : i = n := by omega
      subst e
      have e : (os ++ [o]).getD i d = o := by simp [List.getD, ← hl]
      rw [e]
      exact h1
theorem add0A (y : Addr) : y.add 0 = y := by
  obtain ⟨b, off, spot⟩ := y
  cases spot <;> simp [Addr.add]

theorem cellsAx : Tryd.prog.cellsOf 40 = 4 := by kernel_rfl
theorem cellsAi : Tryd.prog.cellsOf 3 = 1 := by kernel_rfl
theorem cellsAs : Tryd.prog.cellsOf 9 = 1 := by kernel_rfl

set_option maxRecDepth 100000 in
/-- An axis by value. -/
theorem open_axis {H : Type} {enc : TypeId × Value → H} {W : World} {sp : Nat → Bool} {held : Bool} {r : Reach} {b0 : Nat} {v : Value} {d : DataW H} {p : List MemPlace}
    (hv : Value.okWide Tryd.prog W r b0 40 v) (h : DataW.Trod enc Tryd.prog W 0 sp held 40 v d p) :
    ∃ t : Ax, v = .agg (axC t) ∧ Axw t := by
  obtain ⟨v0, v1, v2, v3, y0, y1, y2, y3, n, rfl, _, _, t0, t1, t2, t3⟩ := open_agg4 Tryd.underlying40 (by kernel_rfl) cellsAx hv h
  obtain ⟨tx, e0, _, w0⟩ := DataW.trod_string Tryd.underlying9 t0
  obtain ⟨z1, e1, _, w1⟩ := DataW.trod_int Tryd.underlying3 t1
  obtain ⟨z2, e2, _, w2⟩ := DataW.trod_int Tryd.underlying3 t2
  obtain ⟨z3, e3, _, w3⟩ := DataW.trod_int Tryd.underlying3 t3
  simp at e0 e1 e2 e3
  subst e0 e1 e2 e3
  exact ⟨⟨tx, z1, z2, z3⟩, rfl, w0, wfo_i64_bounds w1, wfo_i64_bounds w2, wfo_i64_bounds w3⟩

set_option maxRecDepth 100000 in
/-- A list of axes. -/
theorem open_axes {H : Type} {enc : TypeId × Value → H} {W : World} {sp : Nat → Bool} {held : Bool} {d : DataW H} {p : List MemPlace} {a : Option Addr} {len cap : Nat} (h : DataW.Trod enc Tryd.prog W 0 sp held 22 (.slice a len cap) d p) :
    ∃ l : List Ax, len = l.length ∧ As W a cap l := by
  obtain ⟨fuel, hf⟩ := h
  rcases open_slice Tryd.underlying22 hf with ⟨hcs, _⟩ | ⟨x, l, c, m, n, D, Pl, hcs, _, hl, hm, hmm, _, hel⟩
  · simp [Value.cells] at hcs
    obtain ⟨rfl, rfl, rfl⟩ := hcs
    exact ⟨[], rfl, As.nil _ _ _ (Nat.zero_le _)⟩
  · simp [Value.cells] at hcs
    obtain ⟨rfl, rfl, rfl⟩ := hcs
    have hle : len ≤ m := by rw [hmm]; split <;> omega
    have hone : ∀ i, i < len → ∃ o : Ax, Axw o ∧ W.cell? (x.add (i * 4)) = some (.string o.tx) ∧ W.cell? ((x.add (i * 4)).add 1) = some (.int .i64 o.lo) ∧ W.cell? ((x.add (i * 4)).add 2) = some (.int .i64 o.us) ∧ W.cell? ((x.add (i * 4)).add 3) = some (.int .i64 o.hi) := by
      intro i hi
      obtain ⟨cs', hc, ht⟩ := hel i (by omega)
      rw [cellsAx] at hc
      obtain ⟨y0, y1, y2, y3, n', hx, hlen, t0, t1, t2, t3⟩ := trod_struct4 Tryd.underlying40 ht
      rw [cellsAx] at hlen
      match cs', hlen with
      | [v0, v1, v2, v3], _ =>
        dsimp only at t0 t1 t2 t3
        rw [cellsAi] at t1 t2 t3
        rw [cellsAs] at t0
        obtain ⟨tx, e0, _, w0⟩ := DataW.trod_string Tryd.underlying9 t0
        obtain ⟨z1, e1, _, w1⟩ := DataW.trod_int Tryd.underlying3 t1
        obtain ⟨z2, e2, _, w2⟩ := DataW.trod_int Tryd.underlying3 t2
        obtain ⟨z3, e3, _, w3⟩ := DataW.trod_int Tryd.underlying3 t3
        simp at e0 e1 e2 e3
        subst e0 e1 e2 e3
        obtain ⟨_, _, hcell⟩ := World.cells?_some hc
        refine ⟨⟨tx, z1, z2, z3⟩, ⟨w0, wfo_i64_bounds w1, wfo_i64_bounds w2, wfo_i64_bounds w3⟩, ?_, hcell 1 (by omega), hcell 2 (by omega), hcell 3 (by omega)⟩
        have := hcell 0 (by omega)
        rw [add0A] at this
        exact this
    obtain ⟨os, hol, ho⟩ := list_of_ltA (d := Ax.none) len hone
    refine ⟨os, hol.symm, by omega, hm, fun o hm => ?_, fun i hi => ?_⟩
    · obtain ⟨i, hi, e⟩ := List.getElem_of_mem hm
      have := (ho i (by omega)).1
      rw [List.getD_eq_getElem?_getD, List.getElem?_eq_getElem hi] at this
      rw [← e]
      exact this
    · obtain ⟨_, c1, c2, c3, c4⟩ := ho i (by omega)
      obtain ⟨b, off, spot⟩ := x
      have hspot : spot = none := by
        have := World.cell?_spot (ho 0 (by omega)).2.1
        simpa [Addr.add] using this
      subst hspot
      have hadd : ∀ i, (⟨b, off, none⟩ : Addr).add i = ⟨b, off + i, none⟩ := by intro i; unfold Addr.add; split <;> simp_all
      have hadd2 : ∀ i j, ((⟨b, off, none⟩ : Addr).add i).add j = ⟨b, off + i + j, none⟩ := by intro i j; rw [hadd]; unfold Addr.add; split <;> simp_all
      have hlt := World.block_lt_of_cell? W _ c1
      rw [hadd] at c1 hlt
      rw [hadd2] at c2 c3 c4
      exact ⟨b, off, rfl, hlt, c1, c2, c3, c4⟩

theorem IsRowK.ri {w : World} {a : Option Addr} {len cap : Nat} {zs : List Int} (h : IsRowK .i64 w a len cap zs) : ∃ xs : List Int, len = xs.length ∧ Ri w a cap xs := by
  obtain ⟨ys, h1, h2, h3, h4, h5, h6⟩ := h.cells
  exact ⟨ys, h1, fun y hy => wfo_i64_bounds (h2 y hy), h3, h4, h6⟩

end Go.Proofs.YtanppgmhlcifiaaDoor
