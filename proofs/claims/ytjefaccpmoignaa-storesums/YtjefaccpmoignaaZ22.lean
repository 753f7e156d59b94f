/-
  store.fieldsAt: the walk.
  store.tentsAt: the walk.
  Stores: the bytes that are just those of a formed one, as the code tells them (plain mathematics).
-/
import Derived.Test.YtjefaccpmoignaaZ18
import Derived.Test.YtjefaccpmoignaaZ21
import Derived.Test.YtjefaccpmoignaaZ16
import Derived.Laws.MakeOwn
import Derived.Test.YtjefaccpmoignaaZ13
import Derived.Test.YtjefaccpmoignaaZ12
import Derived.Test.YtjefaccpmoignaaZ6
import Derived.Deep.CutRange
namespace Go.Proofs.Ytjefaccpmoignaa
open Go.RowKit Go.Maps
set_option linter.unusedSimpArgs false
set_option linter.unusedVariables false

theorem sx16_i64S {xs : List Nat} (h : Byt xs) (p : Int) : I64 (sx16 (nmV xs p 2)) := by
  have := nmV_lt h p 2
  have h2 : nmV xs p 2 < 65536 := this
  unfold sx16 I64
  split <;> omega

set_option maxHeartbeats 2000000 in
set_option maxRecDepth 100000 in
theorem fieldsAt_any (a : Option Addr) (cap : Nat) (xs : List Nat) (p n : Nat) (w : World) (h : Rb w a cap xs) (hp : p ≤ 1000000000) (hn : n ≤ 1000) :
    Calls Try.prog 39 #[.slice a xs.length cap, .int .i64 (p : Int), .int .i64 (n : Int)] w fun e w' => ∃ a' cap', e = .returned (.slice a' n cap') ∧ Ri w' a' cap' (numAt xs p n) ∧ (∀ b o, a' = some ⟨b, o, none⟩ → w.heap.size ≤ b) ∧ Below w.heap.size w w' := by
  have k1 := h.le
  have k2 := h.cap
  unfold maxLen at k2
  have HH : Hid (Rb w a cap xs) := h
  have HBY : Hid (Byt xs) := h.lim
  obtain ⟨i0, hi0, hz0, hz1, hz2⟩ := info_parts infoA_i64
  obtain ⟨w1, hmk, hown, hgrow⟩ := run_makeSlice_owned w w.heap.size 54 3 i0 _ 1 Try.underlying54 hi0 hz0 hz1 .i64 .i64 n (by omega) (by rw [hz2]; omega) (by unfold maxLen; omega) (Nat.le_refl _)
  have hI0 : Io w.heap.size w1 (.slice (some ⟨w.heap.size, 0, none⟩) 0 n) (numAt xs p 0) := ⟨fun t ht => (by cases ht), hown⟩
  have hB1 : Below w.heap.size w w1 := (Below.refl _ _).grown hgrow (Nat.le_refl _) (fun k hk => by cases hk)
  clear hown hgrow hi0 hz0 hz1 hz2 h
  go_enter Try.func39, Try.ntmps39
  go_wp2
  go_loopw [7, 14] (fun v i wr => ∃ k : Nat, k ≤ n ∧ i = .int .i64 k ∧ Io w.heap.size wr v (numAt xs p k) ∧ Below w.heap.size w wr) (fun _ i _ => n - (intOf i).toNat)
  case atStart => exact ⟨0, Nat.zero_le _, rfl, hI0, hB1⟩
  case round =>
    obtain ⟨k, hk, rfl, hT, hB⟩ := hrel
    obtain ⟨a2, c2, rfl, hts, hlo⟩ := hT.sliceLo
    rw [numAt_len] at hT ⊢
    have HT : Hid (Io w.heap.size wr (.slice a2 k c2) (numAt xs p k)) := hT
    have HTS : Hid (Ri wr a2 c2 (numAt xs p k) ∧ ∀ b o, a2 = some ⟨b, o, none⟩ → w.heap.size ≤ b) := ⟨hts, hlo⟩
    clear hT hts hlo hmk hI0 hB1
    by_cases hkn : k < n
    · have HV : Hid (numAt xs p (k + 1) = numAt xs p k ++ [sx16 (nmV xs ((p : Int) + (k : Int) * 2) 2)]) := by
        show _ = _
        rw [numAt_succ, show ((p + 2 * k : Nat) : Int) = (p : Int) + (k : Int) * 2 by omega]
      have HZ1 : Hid (I64 (sx16 (nmV xs ((p : Int) + (k : Int) * 2) 2))) := sx16_i64S HBY.out _
      have hr := HH.out.below hB
      have hll : (numAt xs p k).length + 1 ≤ 1000000 := by rw [numAt_len]; omega
      go_wp2_with fail
      refine (i16_any a cap xs ((p : Int) + (k : Int) * 2) _ hr ⟨by omega, by omega⟩).mono ?_
      rintro e v1 ⟨rfl, rfl⟩
      generalize sx16 (nmV xs ((p : Int) + (k : Int) * 2) 2) = z1 at *
      generalize inB xs.length ((p : Int) + (k : Int) * 2) 2 = b1
      clear hr
      have hT5 := HT.out.below (bl1 (.cells #[.int .i64 z1] 3))
      have hN := heap_alloc_new wr (.cells #[.int .i64 z1] 3)
      have n0 := cell_of_row _ wr.heap.size 0 _ _ (0, 0) hN
      have hbs : w.heap.size ≤ (wr.alloc (.cells #[.int .i64 z1] 3)).heap.size := by have := hB.size; simp; omega
      clear hN
      go_wp2_with (at_builtin; refine wpList_append_int rfl _ _ rfl w.heap.size _ (numAt xs p k) rfl hT5 wr.heap.size z1 rfl n0 HZ1.out hll hbs ?_)
      intro v' w9 hT9 hgrow
      have hB9 : Below w.heap.size w w9 := (hB.alloc hB.size _).grown hgrow hbs (fun k hk => HT.out.lo hk)
      rw [← HV.out] at hT9
      clear hgrow hT5 n0 hbs hB
      go_wp2
      go_roundw
      case rel => exact ⟨k + 1, by omega, by go_num, hT9, hB9⟩
      case measure => simp [intOf]; omega
    · obtain rfl : k = n := by omega
      go_wp2
      go_ret
      exact ⟨a2, c2, rfl, HTS.out.1, HTS.out.2, hB⟩

end Go.Proofs.Ytjefaccpmoignaa

namespace Go.Proofs.Ytjefaccpmoignaa
open Go.RowKit Go.Maps
set_option linter.unusedSimpArgs false
set_option linter.unusedVariables false

set_option maxHeartbeats 4000000 in
set_option maxRecDepth 100000 in
theorem tentsAt_any (a : Option Addr) (cap : Nat) (xs : List Nat) (p n : Nat) (w : World) (h : Rb w a cap xs) (hp : p ≤ 100000000) (hn : n ≤ 1000) :
    Calls Try.prog 38 #[.slice a xs.length cap, .int .i64 (p : Int), .int .i64 (n : Int)] w fun e w' => ∃ a' cap', e = .returned (.slice a' n cap') ∧ Tz w' a' cap' (tesAt xs p n) ∧ (∀ b o, a' = some ⟨b, o, none⟩ → w.heap.size ≤ b) ∧ Below w.heap.size w w' := by
  have k1 := h.le
  have k2 := h.cap
  unfold maxLen at k2
  have HH : Hid (Rb w a cap xs) := h
  obtain ⟨i0, hi0, hz0, hz1, hz2⟩ := info_parts info_te
  obtain ⟨w1, hmk, hown, hgrow⟩ := run_makeSlice_owned w w.heap.size 42 73 i0 _ 3 Try.underlying42 hi0 hz0 hz1 .i64 .i64 n (by omega) (by rw [hz2]; omega) (by unfold maxLen; omega) (Nat.le_refl _)
  have hI0 : To w.heap.size w1 (.slice (some ⟨w.heap.size, 0, none⟩) 0 n) (tesAt xs p 0) := ⟨fun t ht => (by cases ht), hown⟩
  have hB1 : Below w.heap.size w w1 := (Below.refl _ _).grown hgrow (Nat.le_refl _) (fun k hk => by cases hk)
  clear hown hgrow hi0 hz0 hz1 hz2 h
  go_enter Try.func38, Try.ntmps38
  go_wp2
  go_loopw [7, 13] (fun v i wr => ∃ k : Nat, k ≤ n ∧ i = .int .i64 k ∧ To w.heap.size wr v (tesAt xs p k) ∧ Below w.heap.size w wr) (fun _ i _ => n - (intOf i).toNat)
  case atStart => exact ⟨0, Nat.zero_le _, rfl, hI0, hB1⟩
  case round =>
    obtain ⟨k, hk, rfl, hT, hB⟩ := hrel
    obtain ⟨a2, c2, rfl, hts, hlo⟩ := hT.sliceLo
    rw [tesAt_len] at hT ⊢
    have HT : Hid (To w.heap.size wr (.slice a2 k c2) (tesAt xs p k)) := hT
    have HTS : Hid (Tz wr a2 c2 (tesAt xs p k) ∧ ∀ b o, a2 = some ⟨b, o, none⟩ → w.heap.size ≤ b) := ⟨hts, hlo⟩
    clear hT hts hlo hmk hI0 hB1
    by_cases hkn : k < n
    · have HV : Hid (tesAt xs p (k + 1) = tesAt xs p k ++ [teAt xs (p + 6 * k)]) := tesAt_succ _ _ _
      have hll : (tesAt xs p k).length + 1 ≤ 1000000 := by rw [tesAt_len]; omega
      have hfa := fieldsAt_any a cap xs (p + 6 * k) 3 wr (HH.out.below hB) (by omega) (by decide)
      rw [show ((p + 6 * k : Nat) : Int) = (p : Int) + (k : Int) * 6 by omega] at hfa
      go_wp2_with fail
      refine hfa.mono ?_
      rintro e u1 ⟨av, cv, rfl, hv, hvlo, hb1⟩
      have hbW : Below w.heap.size w u1 := hB.trans (hb1.mono hB.size)
      have hbR := hb1
      clear hb1 hfa hB
      obtain ⟨b0, o0, ea, hb0, d0⟩ := hv.at (Below.refl _ _) 0 (by rw [numAt_len]; decide)
      obtain ⟨b0', o0', ea1, _, d1⟩ := hv.at (Below.refl _ _) 1 (by rw [numAt_len]; decide)
      obtain ⟨b0'', o0'', ea2, _, d2⟩ := hv.at (Below.refl _ _) 2 (by rw [numAt_len]; decide)
      rw [ea] at ea1 ea2
      cases ea1
      cases ea2
      have hi0 := hv.i64 (k := 0) (by rw [numAt_len]; decide)
      have hi1 := hv.i64 (k := 1) (by rw [numAt_len]; decide)
      have hi2 := hv.i64 (k := 2) (by rw [numAt_len]; decide)
      have HTE : Hid (teAt xs (p + 6 * k) = ⟨(numAt xs (p + 6 * k) 3).getD 0 0, (numAt xs (p + 6 * k) 3).getD 1 0, (numAt xs (p + 6 * k) 3).getD 2 0⟩) := by
        show _ = _
        simp [teAt, numAt, List.range_succ]
      generalize (numAt xs (p + 6 * k) 3).getD 0 0 = z0 at *
      generalize (numAt xs (p + 6 * k) 3).getD 1 0 = z1 at *
      generalize (numAt xs (p + 6 * k) 3).getD 2 0 = z2 at *
      have hlo := hvlo b0 o0 ea
      subst ea
      simp only [Nat.add_zero] at d0
      have A0 : Cl u1 b0 o0 (.int .i64 z0) := ⟨hb0, d0⟩
      have A1 : Cl u1 b0 (o0 + 1) (.int .i64 z1) := ⟨hb0, d1⟩
      have A2 : Cl u1 b0 (o0 + 2) (.int .i64 z2) := ⟨hb0, d2⟩
      have HTW : Hid (Tw ⟨z0, z1, z2⟩) := ⟨hi0, hi1, hi2⟩
      clear hi0 hi1 hi2 hv hvlo
      go_upto_region 6 with fail
      have q0 := A0.2
      have q1 := A1.2
      have q2 := A2.2
      refine wp_region_held_drew (S := (fun u => u.cell? ⟨b0, o0, none⟩ = some (.int .i64 z0) ∧ u.cell? ⟨b0, o0 + 1, none⟩ = some (.int .i64 z1) ∧ u.cell? ⟨b0, o0 + 2, none⟩ = some (.int .i64 z2))) (by kernel_rfl) ?_ (fun hHeld => ?_)
      · (try dsimp only)
        go_keep
      have hdr : Below u1.heap.size u1 u1.drew := Below.drew1
      generalize u1.drew = ud1 at hdr hHeld ⊢
      replace A0 := A0.below hdr
      replace A1 := A1.below hdr
      replace A2 := A2.below hdr
      replace hbW : Below w.heap.size w ud1 := hbW.trans (hdr.mono hbW.size)
      replace hbR : Below wr.heap.size wr ud1 := hbR.trans (hdr.mono hbR.size)
      clear hdr
      refine hT 0 hHeld ?_
      refine hT 1 hHeld ?_
      refine hT 2 hHeld ?_
      refine hT 3 hHeld ?_
      refine hT 4 hHeld ?_
      refine hT 5 hHeld ?_
      refine hT 6 hHeld ?_
      refine hT 7 hHeld ?_
      refine hT 8 hHeld ?_
      refine hT 9 hHeld ?_
      refine hT 10 hHeld ?_
      refine hCall (i := 11) rfl (by kernel_rfl) (by rfl) (fun K hK => ?_)
      go_simp
      obtain ⟨u61, hU4, B4, hb4⟩ : ∃ U4, U4 = ud1.alloc (.cells #[.int .i64 z0, .int .i64 z1, .int .i64 z2] 73) ∧ Box 73 U4 ud1.heap.size (.int .i64 z0) (.int .i64 z1) (.int .i64 z2) ∧ Below ud1.heap.size ud1 U4 := ⟨_, rfl, Box.new _ _ _ _ _, bl1 _⟩
      rw [← hU4]
      clear hU4
      replace A0 := A0.below hb4
      replace A1 := A1.below hb4
      replace A2 := A2.below hb4
      replace hbW : Below w.heap.size w u61 := hbW.trans (hb4.mono hbW.size)
      replace hbR : Below wr.heap.size wr u61 := hbR.trans (hb4.mono hbR.size)
      have q0 := A0.2
      have q1 := A1.2
      have q2 := A2.2
      refine hK.out _ _ ?_ (fun hHeld => ?_)
      · (try dsimp only)
        first | exact ⟨q0, q1, q2⟩ | exact ⟨A0.2, A1.2, A2.2⟩
      clear hK K
      try simp only [Act.put, List.setIfInBounds_toArray, List.set_cons_zero, List.set_cons_succ]
      refine hCall (i := 12) rfl (by kernel_rfl) (by rfl) (fun K hK => ?_)
      obtain ⟨r0, r1, r2, _⟩ := B4.cells
      have hT4 := HT.out.below hbR
      have hbs : w.heap.size ≤ u61.heap.size := hbW.size
      refine wp_append_te _ _ rfl w.heap.size _ (tesAt xs p k) rfl hT4 ud1.heap.size ⟨z0, z1, z2⟩ rfl r0 r1 r2 HTW.out hll hbs ?_
      intro v' w9 hT9 hgrow
      have hB9 : Below w.heap.size w w9 := hbW.grown hgrow hbs (fun k hk => HT.out.lo hk)
      have hne : some b0 ≠ Value.ownBlock (.slice a2 k c2) := fun e => absurd (World.ownsRow.lt HT.out.2 b0 e.symm).2 (Nat.not_lt.2 hlo)
      replace q0 := hgrow.cell q0 hne
      replace q1 := hgrow.cell q1 hne
      replace q2 := hgrow.cell q2 hne
      refine hK.out _ _ ?_ (fun hHeld => ?_)
      · (try dsimp only)
        first | exact ⟨q0, q1, q2⟩ | exact ⟨A0.2, A1.2, A2.2⟩
      clear hK K
      try simp only [Act.put, List.setIfInBounds_toArray, List.set_cons_zero, List.set_cons_succ]
      refine hT 13 hHeld ?_
      refine wpAnyH_done (by kernel_rfl) ?_ _
      rw [← HTE.out, ← HV.out] at hT9
      clear hHeld
      go_wp2
      go_roundw
      case rel => exact ⟨k + 1, by omega, by go_num, hT9, hB9⟩
      case measure => simp [intOf]; omega
    · obtain rfl : k = n := by omega
      go_wp2
      go_ret
      exact ⟨a2, c2, rfl, HTS.out.1, HTS.out.2, hB⟩

end Go.Proofs.Ytjefaccpmoignaa

namespace Go.Proofs.Ytjefaccpmoignaa
set_option linter.unusedSimpArgs false
set_option linter.unusedVariables false

theorem byt_cut {b : List Nat} (hb : Byt b) (p n : Nat) : Byt ((b.drop p).take n) := fun x hx => hb x (List.mem_of_mem_drop (List.mem_of_mem_take hx))
theorem sxS_at {b : List Nat} (hb : Byt b) {p : Nat} (h : p + 2 ≤ b.length) : be2 (sx16 (nmV b (p : Int) 2)) = (b.drop p).take 2 := by
  have e : inB b.length (p : Int) 2 = true := by simp only [inB, decide_eq_true_iff]; omega
  rw [nmV, if_pos (by exact e), Int.toNat_natCast]
  exact be_sx2 (byt_cut hb _ _) (by simp; omega)
theorem n2S_at {b : List Nat} (hb : Byt b) {p : Nat} (h : p + 2 ≤ b.length) : be2 ((nmV b (p : Int) 2 : Nat) : Int) = (b.drop p).take 2 := by
  have e : inB b.length (p : Int) 2 = true := by simp only [inB, decide_eq_true_iff]; omega
  rw [nmV, if_pos (by exact e), Int.toNat_natCast]
  exact be_V8 (byt_cut hb _ _) (by simp; omega)
theorem teE_read {b : List Nat} (hb : Byt b) {p : Nat} (h : p + 6 ≤ b.length) : teE (teAt b p) = (b.drop p).take 6 := by
  rw [teE, teAt]
  dsimp only
  rw [sxS_at hb (by omega), sxS_at hb (by omega), sxS_at hb (by omega), show b.drop (p + 4) = (b.drop (p + 2)).drop 2 by rw [List.drop_drop], show b.drop (p + 2) = (b.drop p).drop 2 by rw [List.drop_drop]]
  rw [← List.take_add, ← List.take_add]
theorem tesE_read {b : List Nat} (hb : Byt b) {p : Nat} : ∀ n, p + 6 * n ≤ b.length → tesE (tesAt b p n) = (b.drop p).take (6 * n) := by
  intro n
  induction n with
  | zero => intro _; rfl
  | succ n ih =>
    intro hl
    rw [tesAt_succ, tesE_append, ih (by omega), tesE, tesE, List.append_nil, teE_read hb (by omega), show 6 * (n + 1) = 6 * n + 6 by omega, List.take_add, List.drop_drop]
theorem rgsE_read {b : List Nat} (hb : Byt b) {p n : Nat} : ∀ k, p + 6 * n * k ≤ b.length → rgsE (rgsAt b p n k) = (b.drop p).take (6 * n * k) := by
  intro k
  induction k with
  | zero => intro _; rfl
  | succ k ih =>
    intro hl
    have e : 6 * n * (k + 1) = 6 * n * k + 6 * n := by rw [Nat.mul_add, Nat.mul_one]
    rw [e] at hl ⊢
    rw [rgsAt_succ, rgsE_append, ih (by omega), rgsE, rgsE, List.append_nil, tesE_read hb _ (by omega), List.take_add, List.drop_drop]
theorem numE_read {b : List Nat} (hb : Byt b) {p : Nat} : ∀ n, p + 2 * n ≤ b.length → numE (numAt b p n) = (b.drop p).take (2 * n) := by
  intro n
  induction n with
  | zero => intro _; rfl
  | succ n ih =>
    intro hl
    rw [numAt_succ, numE_append, ih (by omega), numE, numE, List.append_nil, sxS_at hb (by omega), show 2 * (n + 1) = 2 * n + 2 by omega, List.take_add, List.drop_drop]
theorem rowsE_read {b : List Nat} (hb : Byt b) {p n : Nat} : ∀ k, p + 2 * n * k ≤ b.length → rowsE (rowsAt b p n k) = (b.drop p).take (2 * n * k) := by
  intro k
  induction k with
  | zero => intro _; rfl
  | succ k ih =>
    intro hl
    have e : 2 * n * (k + 1) = 2 * n * k + 2 * n := by rw [Nat.mul_add, Nat.mul_one]
    rw [e] at hl ⊢
    rw [rowsAt_succ, rowsE_append, ih (by omega), rowsE, rowsE, List.append_nil, numE_read hb _ (by omega), List.take_add, List.drop_drop]

/-- How many regions, and rows, what is written tells. -/
theorem wr_nums {s : Sr} {n : Int} (h : stB s n = true) : rgN (stE s n) = s.rg.length ∧ rwN (stE s n) = s.rw.length := by
  have hs := stB_iff.1 h
  have hr := rd_wr h
  obtain ⟨b, hb⟩ : ∃ b, stE s n = b := ⟨_, rfl⟩
  rw [hb] at hr ⊢
  have b1 : b = be2 n ++ (be2 ((s.rg.length : Nat) : Int) ++ (rgsE s.rg ++ (be2 ((s.rw.length : Nat) : Int) ++ rowsE s.rw))) := by rw [← hb, stE]
  have b3 : b = (be2 n ++ be2 ((s.rg.length : Nat) : Int) ++ rgsE s.rg) ++ (be2 ((s.rw.length : Nat) : Int) ++ rowsE s.rw) := by rw [b1]; simp only [List.append_assoc]
  have hl2 := rgsE_len (n := n.toNat) (g := s.rg) (fun l hl => by have := (rgB_all (hs.2.2.2.1 l hl)).2; omega)
  have e1 : rgN b = s.rg.length := by
    have v := nmV_at (q := 2) (n := 2) b1 (be2L _) rfl
    rw [V8_be2 (by omega)] at v
    exact v
  have e0 : axN b = n.toNat := by have := hr.2.1; omega
  have e2 : rdRg b = s.rg := congrArg Sr.rg hr.1
  have e3 : rwP b = 4 + 6 * n.toNat * s.rg.length := by rw [rwP, e0, e2]
  refine ⟨e1, ?_⟩
  have v := nmV_at (q := 4 + 6 * n.toNat * s.rg.length) (n := 2) b3 (by simp only [List.length_append, be2L, hl2]) rfl
  rw [V8_be2 (by omega)] at v
  rw [rwN, e3]
  exact v

/-- Where the code finds the number of rows. -/
def rwQ (b : List Nat) : Nat := 4 + 6 * axN b * rgN b
/-- What the code reads. -/
def cdS (b : List Nat) : Sr := ⟨rgsAt b 4 (axN b) (rgN b), rowsAt b (rwQ b + 2) (rgN b) (nmV b ((rwQ b : Nat) : Int) 2)⟩
def cdB (b : List Nat) : Prop := axN b ≤ 4 ∧ rgN b ≤ 40 ∧ rwQ b + 2 ≤ b.length ∧ nmV b ((rwQ b : Nat) : Int) 2 ≤ 400 ∧ b.length = rwQ b + 2 + 2 * rgN b * nmV b ((rwQ b : Nat) : Int) 2
theorem cd_same {b : List Nat} (h1 : axN b ≤ 4) (h2 : rgN b ≤ 40) (h3 : nmV b ((rwQ b : Nat) : Int) 2 ≤ 400) : rdS b = cdS b ∧ rwN b = nmV b ((rwQ b : Nat) : Int) 2 := by
  have e1 : rdRg b = rgsAt b 4 (axN b) (rgN b) := if_pos ⟨h1, h2⟩
  have e2 : rwP b = rwQ b := by rw [rwP, e1, rgsAt_len, rwQ]
  have e3 : rwN b = nmV b ((rwQ b : Nat) : Int) 2 := by rw [rwN, e2]
  refine ⟨?_, e3⟩
  rw [rdS, cdS, rdRw, e3, if_pos h3, e1, e2, rgsAt_len]
/-- The code's tests are just right. -/
theorem rd_code {b : List Nat} (hb : Byt b) : rdSB b = true ↔ cdB b ∧ stB (cdS b) (axN b : Int) = true := by
  constructor
  · intro h
    obtain ⟨hs, he⟩ := rdSB_iff.1 h
    have hi := stB_iff.1 hs
    obtain ⟨n1, n2⟩ := wr_nums hs
    rw [he] at n1 n2
    have a1 : axN b ≤ 4 := by omega
    have a2 : rgN b ≤ 40 := by rw [n1]; exact hi.2.1
    have a3 : rwN b ≤ 400 := by rw [n2]; exact hi.2.2.1
    have e1 : rdRg b = rgsAt b 4 (axN b) (rgN b) := if_pos ⟨a1, a2⟩
    have e2 : rwP b = rwQ b := by rw [rwP, e1, rgsAt_len, rwQ]
    have e3 : rwN b = nmV b ((rwQ b : Nat) : Int) 2 := by rw [rwN, e2]
    obtain ⟨e4, _⟩ := cd_same a1 a2 (by rw [← e3]; exact a3)
    have hl := stE_len hs
    rw [he, Int.toNat_natCast] at hl
    rw [← n1, ← n2, e3] at hl
    rw [e4] at hs
    refine ⟨⟨a1, a2, ?_, by rw [← e3]; exact a3, ?_⟩, hs⟩
    · rw [rwQ, hl]; omega
    · rw [hl]; rw [rwQ]; omega
  · rintro ⟨⟨a1, a2, a3, a4, a5⟩, hs⟩
    obtain ⟨e4, e3⟩ := cd_same a1 a2 a4
    refine rdSB_iff.2 ⟨by rw [e4]; exact hs, ?_⟩
    rw [e4, stE]
    rw [show (cdS b).rg = rgsAt b 4 (axN b) (rgN b) from rfl, show (cdS b).rw = rowsAt b (rwQ b + 2) (rgN b) (nmV b ((rwQ b : Nat) : Int) 2) from rfl, rgsAt_len, rowsAt_len]
    rw [rowsE_read hb _ (by rw [← a5]; exact Nat.le_refl _)]
    have hq : rwQ b = 4 + 6 * axN b * rgN b := rfl
    rw [rgsE_read hb _ (by rw [← hq]; omega)]
    have f0 := n2S_at hb (p := 0) (by omega)
    have f2 := n2S_at hb (p := 2) (by omega)
    have f4 := n2S_at hb (p := rwQ b) (by omega)
    have f0' : be2 ((axN b : Nat) : Int) = (b.drop 0).take 2 := f0
    have f2' : be2 ((rgN b : Nat) : Int) = (b.drop 2).take 2 := f2
    rw [f0', f2', f4]
    have g1 : (b.drop (rwQ b + 2)).take (2 * rgN b * nmV b ((rwQ b : Nat) : Int) 2) = b.drop (rwQ b + 2) := List.take_of_length_le (by simp; omega)
    rw [g1, ← List.drop_drop, List.take_append_drop, hq, ← List.drop_drop, List.take_append_drop, ← List.drop_drop (i := 2) (j := 2), List.take_append_drop, List.drop_zero, List.take_append_drop]
theorem rd_codeS {b : List Nat} (hb : Byt b) (h : rdSB b = true) : rdS b = cdS b := by
  obtain ⟨⟨a1, a2, _, a4, _⟩, _⟩ := (rd_code hb).1 h
  exact (cd_same a1 a2 a4).1

end Go.Proofs.Ytjefaccpmoignaa
