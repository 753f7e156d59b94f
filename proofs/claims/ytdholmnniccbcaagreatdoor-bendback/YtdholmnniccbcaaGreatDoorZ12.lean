/-
  bend.Formed: the walk.
  For foundrylaw02.RatioOnce: two sums in two new blocks; texts tell numbers apart.
-/
import Derived.Test.YtdholmnniccbcaaGreatDoorZ11
import Derived.Test.YtdholmnniccbcaaGreatDoorZ9
namespace Go.Proofs.YtdholmnniccbcaaGreatDoor
open Go.RowKit Go.Maps
set_option linter.unusedSimpArgs false
set_option linter.unusedVariables false

/-- The first and the last of pairs. -/
def EndP (w : World) (b off m : Nat) (x0 y0 x1 y1 : Int) : Prop :=
  b < w.heap.size ∧ w.cell? ⟨b, off, none⟩ = some (.int .i64 x0) ∧ w.cell? ⟨b, off + 1, none⟩ = some (.int .i64 y0) ∧ w.cell? ⟨b, off + m * 2, none⟩ = some (.int .i64 x1) ∧ w.cell? ⟨b, off + m * 2 + 1, none⟩ = some (.int .i64 y1)
theorem EndP.cells {w : World} {b off m : Nat} {x0 y0 x1 y1 : Int} (h : EndP w b off m x0 y0 x1 y1) : w.cell? ⟨b, off, none⟩ = some (.int .i64 x0) ∧ w.cell? ⟨b, off + 1, none⟩ = some (.int .i64 y0) ∧ w.cell? ⟨b, off + m * 2, none⟩ = some (.int .i64 x1) ∧ w.cell? ⟨b, off + m * 2 + 1, none⟩ = some (.int .i64 y1) := h.2
theorem EndP.below {w w' : World} {b off m : Nat} {x0 y0 x1 y1 : Int} (h : EndP w b off m x0 y0 x1 y1) (hb : Below w.heap.size w w') : EndP w' b off m x0 y0 x1 y1 := by
  obtain ⟨h0, h1, h2, h3, h4⟩ := h
  exact ⟨Nat.lt_of_lt_of_le h0 hb.size, (hb.cell (p := ⟨b, off, none⟩) h0).trans h1, (hb.cell (p := ⟨b, off + 1, none⟩) h0).trans h2, (hb.cell (p := ⟨b, off + m * 2, none⟩) h0).trans h3, (hb.cell (p := ⟨b, off + m * 2 + 1, none⟩) h0).trans h4⟩
theorem Pz.ends {w : World} {a : Option Addr} {cap : Nat} {l : List Pr} (h : Pz w a cap l) {m : Nat} (hm : m + 1 = l.length) : ∃ b off, a = some ⟨b, off, none⟩ ∧ EndP w b off m (l.getD 0 (0, 0)).1 (l.getD 0 (0, 0)).2 (l.getD m (0, 0)).1 (l.getD m (0, 0)).2 := by
  obtain ⟨b, off, ea, hb, d0, d1⟩ := h.2.2.2 0 (by omega)
  obtain ⟨_, _, ea2, _, c0, c1⟩ := h.2.2.2 m (by omega)
  rw [ea] at ea2
  cases ea2
  rw [Nat.zero_mul, Nat.add_zero] at d0 d1
  exact ⟨b, off, ea, hb, d0, d1, c0, c1⟩

set_option maxHeartbeats 4000000 in
set_option maxRecDepth 100000 in
theorem cformP_any (a : Option Addr) (cap : Nat) (l : List Pr) (w : World) (h : Pz w a cap l) :
    Calls Tryz.prog 8 #[.slice a l.length cap] w fun e w' => e = .returned (.bool (frP l)) ∧ Below w.heap.size w w' := by
  have k1 := h.1
  have k2 := h.2.1
  unfold maxLen at k2
  by_cases h0 : l.length = 0
  · have g0 : ((l.length : Int) == 0) = true := by simp [h0]
    have HFN : Hid (frP l = true) := frP_iff.2 (.inl h0)
    clear h0
    go_enter Tryz.func8, Tryz.ntmps8
    go_wp2
    go_ret
    exact ⟨rt_bool HFN.out.symm, Below.refl _ _⟩
  have g0 : ((l.length : Int) == 0) = false := by simp; intro e; exact h0 (by rw [e]; rfl)
  obtain ⟨m, hm⟩ : ∃ m, m + 1 = l.length := ⟨l.length - 1, by omega⟩
  obtain ⟨b, off, ea, E2⟩ := h.ends hm
  subst ea
  have HF : Hid (frP l = true ↔ l.length ≤ 16 ∧ l.getD 0 (0, 0) = (-16384, -16384) ∧ l.getD m (0, 0) = (16384, 16384) ∧ (0, 0) ∈ l ∧ RiP l) := by
    show _ ↔ _
    rw [frP_iff, FrP, FpP, show l.length - 1 = m by omega]
    constructor
    · rintro (h1 | h1)
      · exact absurd h1 h0
      · exact h1.2
    · intro h1
      exact .inr ⟨by omega, h1⟩
  have HNO : Hid (¬ (l.length ≤ 16 ∧ l.getD 0 (0, 0) = (-16384, -16384) ∧ l.getD m (0, 0) = (16384, 16384) ∧ (0, 0) ∈ l ∧ RiP l) → frP l = false) := fun hn => Bool.eq_false_iff.2 (fun e => hn (HF.out.1 e))
  obtain ⟨s, hs⟩ : ∃ s, l.getD 0 (0, 0) = s := ⟨_, rfl⟩
  obtain ⟨t, ht⟩ : ∃ s, l.getD m (0, 0) = s := ⟨_, rfl⟩
  rw [hs, ht] at E2 HF HNO
  have HST : Hid (l.getD 0 (0, 0) = s ∧ l.getD m (0, 0) = t) := ⟨hs, ht⟩
  obtain ⟨x0, y0⟩ := s
  obtain ⟨x1, y1⟩ := t
  dsimp only at E2
  have hP := h
  have HH : Hid (Pz w (some ⟨b, off, none⟩) cap l) := h
  have HM : Hid (m + 1 = l.length) := hm
  have m1 : (0 : Int) ≤ (m : Int) := by omega
  have m2 : (m : Int) < (l.length : Int) := by omega
  have m3 : m < l.length := by omega
  have m4 : 0 < l.length := by omega
  have m5 : IntKind.i64.wrap ((l.length : Int) - 1) = (m : Int) := by rw [wrapi64 (by omega) (by omega)]; omega
  clear hs ht h0 hm h
  by_cases hn : 16 < l.length
  · have g1 : (16 : Int) < (l.length : Int) := by omega
    have HFN : Hid (frP l = false) := HNO.out (fun h => by have := h.1; omega)
    go_enter Tryz.func8, Tryz.ntmps8
    go_wp2_with fail
    refine (ends_any _).mono ?_
    rintro e u0 ⟨rfl, hbu⟩
    replace E2 := E2.below hbu
    replace hP := hP.below hbu
    go_wp2_with fail
    obtain ⟨W, hW, X1, X2, hb9⟩ : ∃ W, W = (u0.alloc (.cells #[.int .i64 (-16384), .int .i64 (-16384)] 49)).alloc (.cells #[.int .i64 16384, .int .i64 16384] 49) ∧ BxP W u0.heap.size (.int .i64 (-16384)) (.int .i64 (-16384)) ∧ BxP W (u0.heap.size + 1) (.int .i64 16384) (.int .i64 16384) ∧ Below u0.heap.size u0 W := ⟨_, rfl, (BxP.new u0 _ _).below (bl1 _), BxP.new1 u0 _ _ _, bl2 _ _⟩
    rw [← hW]
    clear hW
    replace E2 := E2.below hb9
    replace hP := hP.below hb9
    have hbW : Below w.heap.size w W := hbu.trans (hb9.mono hbu.size)
    clear hb9
    obtain ⟨p00, p01, p02, p03⟩ := E2.cells
    obtain ⟨p10, p11, _⟩ := X1.cells
    obtain ⟨p20, p21, _⟩ := X2.cells
    refine wp_region_held_drew (S := (fun u => u.cell? ⟨b, off, none⟩ = some (.int .i64 x0) ∧ u.cell? ⟨b, (off + 1), none⟩ = some (.int .i64 y0) ∧ u.cell? ⟨b, (off + m * 2), none⟩ = some (.int .i64 x1) ∧ u.cell? ⟨b, (off + m * 2 + 1), none⟩ = some (.int .i64 y1) ∧ u.cell? ⟨u0.heap.size, 0, none⟩ = some (.int .i64 (-16384)) ∧ u.cell? ⟨u0.heap.size, 1, none⟩ = some (.int .i64 (-16384)) ∧ u.cell? ⟨(u0.heap.size + 1), 0, none⟩ = some (.int .i64 16384) ∧ u.cell? ⟨(u0.heap.size + 1), 1, none⟩ = some (.int .i64 16384))) (by kernel_rfl) ?_ (fun hHeld => ?_)
    · (try dsimp only)
      go_keep
    have hdr : Below W.heap.size W W.drew := Below.drew1
    generalize W.drew = ud2 at hdr hHeld ⊢
    replace hP := hP.below hdr
    replace E2 := E2.below hdr
    replace X1 := X1.below hdr
    replace X2 := X2.below hdr
    replace hbW : Below w.heap.size w ud2 := hbW.trans (hdr.mono hbW.size)
    clear hdr
    clear p00 p01 p02 p03 p10 p11 p20 p21
    obtain ⟨p00, p01, p02, p03⟩ := E2.cells
    obtain ⟨p10, p11, _⟩ := X1.cells
    obtain ⟨p20, p21, _⟩ := X2.cells
    refine hT 0 hHeld ?_
    refine hT 1 hHeld ?_
    refine hT 2 hHeld ?_
    refine hT 3 hHeld ?_
    refine hN 4 hHeld ?_
    refine hN 5 hHeld ?_
    refine hN 6 hHeld ?_
    refine hN 7 hHeld ?_
    refine hN 8 hHeld ?_
    refine hT 9 hHeld ?_
    refine hT 10 hHeld ?_
    refine hN 11 hHeld ?_
    refine hN 12 hHeld ?_
    refine hN 13 hHeld ?_
    refine hN 14 hHeld ?_
    refine hN 15 hHeld ?_
    refine hN 16 hHeld ?_
    refine hN 17 hHeld ?_
    refine hN 18 hHeld ?_
    refine hT 19 hHeld ?_
    refine hT 20 hHeld ?_
    refine hN 21 hHeld ?_
    refine hN 22 hHeld ?_
    refine hN 23 hHeld ?_
    refine hN 24 hHeld ?_
    refine hT 25 hHeld ?_
    refine wpAnyH_done (by kernel_rfl) ?_ _
    go_wp2
    go_ret
    exact ⟨rt_bool HFN.out.symm, hbW⟩
  have g1 : ¬ (16 : Int) < (l.length : Int) := by omega
  have gd : decide ((16 : Int) < (l.length : Int)) = false := decide_eq_false g1
  by_cases hx0 : x0 = -16384
  rotate_left
  · have HFN : Hid (frP l = false) := HNO.out (fun h => hx0 (by have := h.2.1; cases this; rfl))
    go_enter Tryz.func8, Tryz.ntmps8
    go_wp2_with fail
    refine (ends_any _).mono ?_
    rintro e u0 ⟨rfl, hbu⟩
    replace E2 := E2.below hbu
    replace hP := hP.below hbu
    go_wp2_with fail
    obtain ⟨W, hW, X1, X2, hb9⟩ : ∃ W, W = (u0.alloc (.cells #[.int .i64 (-16384), .int .i64 (-16384)] 49)).alloc (.cells #[.int .i64 16384, .int .i64 16384] 49) ∧ BxP W u0.heap.size (.int .i64 (-16384)) (.int .i64 (-16384)) ∧ BxP W (u0.heap.size + 1) (.int .i64 16384) (.int .i64 16384) ∧ Below u0.heap.size u0 W := ⟨_, rfl, (BxP.new u0 _ _).below (bl1 _), BxP.new1 u0 _ _ _, bl2 _ _⟩
    rw [← hW]
    clear hW
    replace E2 := E2.below hb9
    replace hP := hP.below hb9
    have hbW : Below w.heap.size w W := hbu.trans (hb9.mono hbu.size)
    clear hb9
    obtain ⟨p00, p01, p02, p03⟩ := E2.cells
    obtain ⟨p10, p11, _⟩ := X1.cells
    obtain ⟨p20, p21, _⟩ := X2.cells
    refine wp_region_held_drew (S := (fun u => u.cell? ⟨b, off, none⟩ = some (.int .i64 x0) ∧ u.cell? ⟨b, (off + 1), none⟩ = some (.int .i64 y0) ∧ u.cell? ⟨b, (off + m * 2), none⟩ = some (.int .i64 x1) ∧ u.cell? ⟨b, (off + m * 2 + 1), none⟩ = some (.int .i64 y1) ∧ u.cell? ⟨u0.heap.size, 0, none⟩ = some (.int .i64 (-16384)) ∧ u.cell? ⟨u0.heap.size, 1, none⟩ = some (.int .i64 (-16384)) ∧ u.cell? ⟨(u0.heap.size + 1), 0, none⟩ = some (.int .i64 16384) ∧ u.cell? ⟨(u0.heap.size + 1), 1, none⟩ = some (.int .i64 16384))) (by kernel_rfl) ?_ (fun hHeld => ?_)
    · (try dsimp only)
      go_keep
    have hdr : Below W.heap.size W W.drew := Below.drew1
    generalize W.drew = ud3 at hdr hHeld ⊢
    replace hP := hP.below hdr
    replace E2 := E2.below hdr
    replace X1 := X1.below hdr
    replace X2 := X2.below hdr
    replace hbW : Below w.heap.size w ud3 := hbW.trans (hdr.mono hbW.size)
    clear hdr
    clear p00 p01 p02 p03 p10 p11 p20 p21
    obtain ⟨p00, p01, p02, p03⟩ := E2.cells
    obtain ⟨p10, p11, _⟩ := X1.cells
    obtain ⟨p20, p21, _⟩ := X2.cells
    refine hT 0 hHeld ?_
    refine hT 1 hHeld ?_
    refine hT 2 hHeld ?_
    refine hT 3 hHeld ?_
    refine hT 4 hHeld ?_
    refine hT 5 hHeld ?_
    refine hT 6 hHeld ?_
    refine hT 7 hHeld ?_
    refine hT 8 hHeld ?_
    refine hT 9 hHeld ?_
    refine hT 10 hHeld ?_
    refine hN 11 hHeld ?_
    refine hN 12 hHeld ?_
    refine hN 13 hHeld ?_
    refine hN 14 hHeld ?_
    refine hN 15 hHeld ?_
    refine hN 16 hHeld ?_
    refine hN 17 hHeld ?_
    refine hN 18 hHeld ?_
    refine hT 19 hHeld ?_
    refine hT 20 hHeld ?_
    refine hN 21 hHeld ?_
    refine hN 22 hHeld ?_
    refine hN 23 hHeld ?_
    refine hN 24 hHeld ?_
    refine hT 25 hHeld ?_
    refine wpAnyH_done (by kernel_rfl) ?_ _
    go_wp2
    go_ret
    exact ⟨rt_bool HFN.out.symm, hbW⟩
  subst hx0
  by_cases hy0 : y0 = -16384
  rotate_left
  · have HFN : Hid (frP l = false) := HNO.out (fun h => hy0 (by have := h.2.1; cases this; rfl))
    go_enter Tryz.func8, Tryz.ntmps8
    go_wp2_with fail
    refine (ends_any _).mono ?_
    rintro e u0 ⟨rfl, hbu⟩
    replace E2 := E2.below hbu
    replace hP := hP.below hbu
    go_wp2_with fail
    obtain ⟨W, hW, X1, X2, hb9⟩ : ∃ W, W = (u0.alloc (.cells #[.int .i64 (-16384), .int .i64 (-16384)] 49)).alloc (.cells #[.int .i64 16384, .int .i64 16384] 49) ∧ BxP W u0.heap.size (.int .i64 (-16384)) (.int .i64 (-16384)) ∧ BxP W (u0.heap.size + 1) (.int .i64 16384) (.int .i64 16384) ∧ Below u0.heap.size u0 W := ⟨_, rfl, (BxP.new u0 _ _).below (bl1 _), BxP.new1 u0 _ _ _, bl2 _ _⟩
    rw [← hW]
    clear hW
    replace E2 := E2.below hb9
    replace hP := hP.below hb9
    have hbW : Below w.heap.size w W := hbu.trans (hb9.mono hbu.size)
    clear hb9
    obtain ⟨p00, p01, p02, p03⟩ := E2.cells
    obtain ⟨p10, p11, _⟩ := X1.cells
    obtain ⟨p20, p21, _⟩ := X2.cells
    refine wp_region_held_drew (S := (fun u => u.cell? ⟨b, off, none⟩ = some (.int .i64 (-16384)) ∧ u.cell? ⟨b, (off + 1), none⟩ = some (.int .i64 y0) ∧ u.cell? ⟨b, (off + m * 2), none⟩ = some (.int .i64 x1) ∧ u.cell? ⟨b, (off + m * 2 + 1), none⟩ = some (.int .i64 y1) ∧ u.cell? ⟨u0.heap.size, 0, none⟩ = some (.int .i64 (-16384)) ∧ u.cell? ⟨u0.heap.size, 1, none⟩ = some (.int .i64 (-16384)) ∧ u.cell? ⟨(u0.heap.size + 1), 0, none⟩ = some (.int .i64 16384) ∧ u.cell? ⟨(u0.heap.size + 1), 1, none⟩ = some (.int .i64 16384))) (by kernel_rfl) ?_ (fun hHeld => ?_)
    · (try dsimp only)
      go_keep
    have hdr : Below W.heap.size W W.drew := Below.drew1
    generalize W.drew = ud4 at hdr hHeld ⊢
    replace hP := hP.below hdr
    replace E2 := E2.below hdr
    replace X1 := X1.below hdr
    replace X2 := X2.below hdr
    replace hbW : Below w.heap.size w ud4 := hbW.trans (hdr.mono hbW.size)
    clear hdr
    clear p00 p01 p02 p03 p10 p11 p20 p21
    obtain ⟨p00, p01, p02, p03⟩ := E2.cells
    obtain ⟨p10, p11, _⟩ := X1.cells
    obtain ⟨p20, p21, _⟩ := X2.cells
    refine hT 0 hHeld ?_
    refine hT 1 hHeld ?_
    refine hT 2 hHeld ?_
    refine hT 3 hHeld ?_
    refine hT 4 hHeld ?_
    refine hT 5 hHeld ?_
    refine hT 6 hHeld ?_
    refine hT 7 hHeld ?_
    refine hT 8 hHeld ?_
    refine hT 9 hHeld ?_
    refine hT 10 hHeld ?_
    refine hN 11 hHeld ?_
    refine hN 12 hHeld ?_
    refine hN 13 hHeld ?_
    refine hN 14 hHeld ?_
    refine hN 15 hHeld ?_
    refine hN 16 hHeld ?_
    refine hN 17 hHeld ?_
    refine hN 18 hHeld ?_
    refine hT 19 hHeld ?_
    refine hT 20 hHeld ?_
    refine hN 21 hHeld ?_
    refine hN 22 hHeld ?_
    refine hN 23 hHeld ?_
    refine hN 24 hHeld ?_
    refine hT 25 hHeld ?_
    refine wpAnyH_done (by kernel_rfl) ?_ _
    go_wp2
    go_ret
    exact ⟨rt_bool HFN.out.symm, hbW⟩
  subst hy0
  by_cases hx1 : x1 = 16384
  rotate_left
  · have HFN : Hid (frP l = false) := HNO.out (fun h => hx1 (by have := h.2.2.1; cases this; rfl))
    go_enter Tryz.func8, Tryz.ntmps8
    go_wp2_with fail
    refine (ends_any _).mono ?_
    rintro e u0 ⟨rfl, hbu⟩
    replace E2 := E2.below hbu
    replace hP := hP.below hbu
    go_wp2_with fail
    obtain ⟨W, hW, X1, X2, hb9⟩ : ∃ W, W = (u0.alloc (.cells #[.int .i64 (-16384), .int .i64 (-16384)] 49)).alloc (.cells #[.int .i64 16384, .int .i64 16384] 49) ∧ BxP W u0.heap.size (.int .i64 (-16384)) (.int .i64 (-16384)) ∧ BxP W (u0.heap.size + 1) (.int .i64 16384) (.int .i64 16384) ∧ Below u0.heap.size u0 W := ⟨_, rfl, (BxP.new u0 _ _).below (bl1 _), BxP.new1 u0 _ _ _, bl2 _ _⟩
    rw [← hW]
    clear hW
    replace E2 := E2.below hb9
    replace hP := hP.below hb9
    have hbW : Below w.heap.size w W := hbu.trans (hb9.mono hbu.size)
    clear hb9
    obtain ⟨p00, p01, p02, p03⟩ := E2.cells
    obtain ⟨p10, p11, _⟩ := X1.cells
    obtain ⟨p20, p21, _⟩ := X2.cells
    refine wp_region_held_drew (S := (fun u => u.cell? ⟨b, off, none⟩ = some (.int .i64 (-16384)) ∧ u.cell? ⟨b, (off + 1), none⟩ = some (.int .i64 (-16384)) ∧ u.cell? ⟨b, (off + m * 2), none⟩ = some (.int .i64 x1) ∧ u.cell? ⟨b, (off + m * 2 + 1), none⟩ = some (.int .i64 y1) ∧ u.cell? ⟨u0.heap.size, 0, none⟩ = some (.int .i64 (-16384)) ∧ u.cell? ⟨u0.heap.size, 1, none⟩ = some (.int .i64 (-16384)) ∧ u.cell? ⟨(u0.heap.size + 1), 0, none⟩ = some (.int .i64 16384) ∧ u.cell? ⟨(u0.heap.size + 1), 1, none⟩ = some (.int .i64 16384))) (by kernel_rfl) ?_ (fun hHeld => ?_)
    · (try dsimp only)
      go_keep
    have hdr : Below W.heap.size W W.drew := Below.drew1
    generalize W.drew = ud5 at hdr hHeld ⊢
    replace hP := hP.below hdr
    replace E2 := E2.below hdr
    replace X1 := X1.below hdr
    replace X2 := X2.below hdr
    replace hbW : Below w.heap.size w ud5 := hbW.trans (hdr.mono hbW.size)
    clear hdr
    clear p00 p01 p02 p03 p10 p11 p20 p21
    obtain ⟨p00, p01, p02, p03⟩ := E2.cells
    obtain ⟨p10, p11, _⟩ := X1.cells
    obtain ⟨p20, p21, _⟩ := X2.cells
    refine hT 0 hHeld ?_
    refine hT 1 hHeld ?_
    refine hT 2 hHeld ?_
    refine hT 3 hHeld ?_
    refine hT 4 hHeld ?_
    refine hT 5 hHeld ?_
    refine hT 6 hHeld ?_
    refine hT 7 hHeld ?_
    refine hT 8 hHeld ?_
    refine hT 9 hHeld ?_
    refine hT 10 hHeld ?_
    refine hT 11 hHeld ?_
    refine hT 12 hHeld ?_
    refine hT 13 hHeld ?_
    refine hT 14 hHeld ?_
    refine hT 15 hHeld ?_
    refine hT 16 hHeld ?_
    refine hT 17 hHeld ?_
    refine hT 18 hHeld ?_
    refine hT 19 hHeld ?_
    refine hT 20 hHeld ?_
    refine hN 21 hHeld ?_
    refine hN 22 hHeld ?_
    refine hN 23 hHeld ?_
    refine hN 24 hHeld ?_
    refine hT 25 hHeld ?_
    refine wpAnyH_done (by kernel_rfl) ?_ _
    go_wp2
    go_ret
    exact ⟨rt_bool HFN.out.symm, hbW⟩
  subst hx1
  by_cases hy1 : y1 = 16384
  rotate_left
  · have HFN : Hid (frP l = false) := HNO.out (fun h => hy1 (by have := h.2.2.1; cases this; rfl))
    go_enter Tryz.func8, Tryz.ntmps8
    go_wp2_with fail
    refine (ends_any _).mono ?_
    rintro e u0 ⟨rfl, hbu⟩
    replace E2 := E2.below hbu
    replace hP := hP.below hbu
    go_wp2_with fail
    obtain ⟨W, hW, X1, X2, hb9⟩ : ∃ W, W = (u0.alloc (.cells #[.int .i64 (-16384), .int .i64 (-16384)] 49)).alloc (.cells #[.int .i64 16384, .int .i64 16384] 49) ∧ BxP W u0.heap.size (.int .i64 (-16384)) (.int .i64 (-16384)) ∧ BxP W (u0.heap.size + 1) (.int .i64 16384) (.int .i64 16384) ∧ Below u0.heap.size u0 W := ⟨_, rfl, (BxP.new u0 _ _).below (bl1 _), BxP.new1 u0 _ _ _, bl2 _ _⟩
    rw [← hW]
    clear hW
    replace E2 := E2.below hb9
    replace hP := hP.below hb9
    have hbW : Below w.heap.size w W := hbu.trans (hb9.mono hbu.size)
    clear hb9
    obtain ⟨p00, p01, p02, p03⟩ := E2.cells
    obtain ⟨p10, p11, _⟩ := X1.cells
    obtain ⟨p20, p21, _⟩ := X2.cells
    refine wp_region_held_drew (S := (fun u => u.cell? ⟨b, off, none⟩ = some (.int .i64 (-16384)) ∧ u.cell? ⟨b, (off + 1), none⟩ = some (.int .i64 (-16384)) ∧ u.cell? ⟨b, (off + m * 2), none⟩ = some (.int .i64 16384) ∧ u.cell? ⟨b, (off + m * 2 + 1), none⟩ = some (.int .i64 y1) ∧ u.cell? ⟨u0.heap.size, 0, none⟩ = some (.int .i64 (-16384)) ∧ u.cell? ⟨u0.heap.size, 1, none⟩ = some (.int .i64 (-16384)) ∧ u.cell? ⟨(u0.heap.size + 1), 0, none⟩ = some (.int .i64 16384) ∧ u.cell? ⟨(u0.heap.size + 1), 1, none⟩ = some (.int .i64 16384))) (by kernel_rfl) ?_ (fun hHeld => ?_)
    · (try dsimp only)
      go_keep
    have hdr : Below W.heap.size W W.drew := Below.drew1
    generalize W.drew = ud6 at hdr hHeld ⊢
    replace hP := hP.below hdr
    replace E2 := E2.below hdr
    replace X1 := X1.below hdr
    replace X2 := X2.below hdr
    replace hbW : Below w.heap.size w ud6 := hbW.trans (hdr.mono hbW.size)
    clear hdr
    clear p00 p01 p02 p03 p10 p11 p20 p21
    obtain ⟨p00, p01, p02, p03⟩ := E2.cells
    obtain ⟨p10, p11, _⟩ := X1.cells
    obtain ⟨p20, p21, _⟩ := X2.cells
    refine hT 0 hHeld ?_
    refine hT 1 hHeld ?_
    refine hT 2 hHeld ?_
    refine hT 3 hHeld ?_
    refine hT 4 hHeld ?_
    refine hT 5 hHeld ?_
    refine hT 6 hHeld ?_
    refine hT 7 hHeld ?_
    refine hT 8 hHeld ?_
    refine hT 9 hHeld ?_
    refine hT 10 hHeld ?_
    refine hT 11 hHeld ?_
    refine hT 12 hHeld ?_
    refine hT 13 hHeld ?_
    refine hT 14 hHeld ?_
    refine hT 15 hHeld ?_
    refine hT 16 hHeld ?_
    refine hT 17 hHeld ?_
    refine hT 18 hHeld ?_
    refine hT 19 hHeld ?_
    refine hT 20 hHeld ?_
    refine hN 21 hHeld ?_
    refine hN 22 hHeld ?_
    refine hN 23 hHeld ?_
    refine hN 24 hHeld ?_
    refine hT 25 hHeld ?_
    refine wpAnyH_done (by kernel_rfl) ?_ _
    go_wp2
    go_ret
    exact ⟨rt_bool HFN.out.symm, hbW⟩
  subst hy1
  have hct := fun W hW => contains_any (some ⟨b, off, none⟩) cap l (0, 0) W hW
  unfold prC at hct
  dsimp only at hct
  cases hq : decide ((0, 0) ∈ l) with
  | false =>
    have HFN : Hid (frP l = false) := HNO.out (fun h => of_decide_eq_false hq h.2.2.2.1)
    rw [hq] at hct
    clear hq
    go_enter Tryz.func8, Tryz.ntmps8
    go_wp2_with fail
    refine (ends_any _).mono ?_
    rintro e u0 ⟨rfl, hbu⟩
    replace E2 := E2.below hbu
    replace hP := hP.below hbu
    go_wp2_with fail
    obtain ⟨W, hW, X1, X2, hb9⟩ : ∃ W, W = (u0.alloc (.cells #[.int .i64 (-16384), .int .i64 (-16384)] 49)).alloc (.cells #[.int .i64 16384, .int .i64 16384] 49) ∧ BxP W u0.heap.size (.int .i64 (-16384)) (.int .i64 (-16384)) ∧ BxP W (u0.heap.size + 1) (.int .i64 16384) (.int .i64 16384) ∧ Below u0.heap.size u0 W := ⟨_, rfl, (BxP.new u0 _ _).below (bl1 _), BxP.new1 u0 _ _ _, bl2 _ _⟩
    rw [← hW]
    clear hW
    replace E2 := E2.below hb9
    replace hP := hP.below hb9
    have hbW : Below w.heap.size w W := hbu.trans (hb9.mono hbu.size)
    clear hb9
    obtain ⟨p00, p01, p02, p03⟩ := E2.cells
    obtain ⟨p10, p11, _⟩ := X1.cells
    obtain ⟨p20, p21, _⟩ := X2.cells
    refine wp_region_held_drew (S := (fun u => u.cell? ⟨b, off, none⟩ = some (.int .i64 (-16384)) ∧ u.cell? ⟨b, (off + 1), none⟩ = some (.int .i64 (-16384)) ∧ u.cell? ⟨b, (off + m * 2), none⟩ = some (.int .i64 16384) ∧ u.cell? ⟨b, (off + m * 2 + 1), none⟩ = some (.int .i64 16384) ∧ u.cell? ⟨u0.heap.size, 0, none⟩ = some (.int .i64 (-16384)) ∧ u.cell? ⟨u0.heap.size, 1, none⟩ = some (.int .i64 (-16384)) ∧ u.cell? ⟨(u0.heap.size + 1), 0, none⟩ = some (.int .i64 16384) ∧ u.cell? ⟨(u0.heap.size + 1), 1, none⟩ = some (.int .i64 16384))) (by kernel_rfl) ?_ (fun hHeld => ?_)
    · (try dsimp only)
      go_keep
    have hdr : Below W.heap.size W W.drew := Below.drew1
    generalize W.drew = ud7 at hdr hHeld ⊢
    replace hP := hP.below hdr
    replace E2 := E2.below hdr
    replace X1 := X1.below hdr
    replace X2 := X2.below hdr
    replace hbW : Below w.heap.size w ud7 := hbW.trans (hdr.mono hbW.size)
    clear hdr
    clear p00 p01 p02 p03 p10 p11 p20 p21
    obtain ⟨p00, p01, p02, p03⟩ := E2.cells
    obtain ⟨p10, p11, _⟩ := X1.cells
    obtain ⟨p20, p21, _⟩ := X2.cells
    refine hT 0 hHeld ?_
    refine hT 1 hHeld ?_
    refine hT 2 hHeld ?_
    refine hT 3 hHeld ?_
    refine hT 4 hHeld ?_
    refine hT 5 hHeld ?_
    refine hT 6 hHeld ?_
    refine hT 7 hHeld ?_
    refine hT 8 hHeld ?_
    refine hT 9 hHeld ?_
    refine hT 10 hHeld ?_
    refine hT 11 hHeld ?_
    refine hT 12 hHeld ?_
    refine hT 13 hHeld ?_
    refine hT 14 hHeld ?_
    refine hT 15 hHeld ?_
    refine hT 16 hHeld ?_
    refine hT 17 hHeld ?_
    refine hT 18 hHeld ?_
    refine hT 19 hHeld ?_
    refine hT 20 hHeld ?_
    refine hT 21 hHeld ?_
    refine hT 22 hHeld ?_
    refine hCall (i := 23) rfl (by kernel_rfl) (by rfl) (fun K hK => ?_)
    go_simp
    refine (hct _ hP).mono ?_
    rintro e u1 ⟨rfl, hb1⟩
    replace hP := hP.below hb1
    replace E2 := E2.below hb1
    replace X1 := X1.below hb1
    replace X2 := X2.below hb1
    replace hbW : Below w.heap.size w u1 := hbW.trans (hb1.mono hbW.size)
    clear hb1
    clear p00 p01 p02 p03 p10 p11 p20 p21
    obtain ⟨p00, p01, p02, p03⟩ := E2.cells
    obtain ⟨p10, p11, _⟩ := X1.cells
    obtain ⟨p20, p21, _⟩ := X2.cells
    go_wp2_with fail
    refine hK.out _ _ ?_ (fun hHeld => ?_)
    · (try dsimp only)
      exact ⟨p00, p01, p02, p03, p10, p11, p20, p21⟩
    clear hK K
    try simp only [Act.put, List.setIfInBounds_toArray, List.set_cons_zero, List.set_cons_succ]
    refine hT 24 hHeld ?_
    refine hT 25 hHeld ?_
    refine wpAnyH_done (by kernel_rfl) ?_ _
    go_wp2
    go_ret
    exact ⟨rt_bool HFN.out.symm, hbW⟩
  | true =>
    have HMEM : Hid ((0, 0) ∈ l) := by show (0, 0) ∈ l; exact of_decide_eq_true hq
    rw [hq] at hct
    clear hq
    go_enter Tryz.func8, Tryz.ntmps8
    go_wp2_with fail
    refine (ends_any _).mono ?_
    rintro e u0 ⟨rfl, hbu⟩
    replace E2 := E2.below hbu
    replace hP := hP.below hbu
    go_wp2_with fail
    obtain ⟨W, hW, X1, X2, hb9⟩ : ∃ W, W = (u0.alloc (.cells #[.int .i64 (-16384), .int .i64 (-16384)] 49)).alloc (.cells #[.int .i64 16384, .int .i64 16384] 49) ∧ BxP W u0.heap.size (.int .i64 (-16384)) (.int .i64 (-16384)) ∧ BxP W (u0.heap.size + 1) (.int .i64 16384) (.int .i64 16384) ∧ Below u0.heap.size u0 W := ⟨_, rfl, (BxP.new u0 _ _).below (bl1 _), BxP.new1 u0 _ _ _, bl2 _ _⟩
    rw [← hW]
    clear hW
    replace E2 := E2.below hb9
    replace hP := hP.below hb9
    have hbW : Below w.heap.size w W := hbu.trans (hb9.mono hbu.size)
    clear hb9
    obtain ⟨p00, p01, p02, p03⟩ := E2.cells
    obtain ⟨p10, p11, _⟩ := X1.cells
    obtain ⟨p20, p21, _⟩ := X2.cells
    refine wp_region_held_drew (S := (fun u => u.cell? ⟨b, off, none⟩ = some (.int .i64 (-16384)) ∧ u.cell? ⟨b, (off + 1), none⟩ = some (.int .i64 (-16384)) ∧ u.cell? ⟨b, (off + m * 2), none⟩ = some (.int .i64 16384) ∧ u.cell? ⟨b, (off + m * 2 + 1), none⟩ = some (.int .i64 16384) ∧ u.cell? ⟨u0.heap.size, 0, none⟩ = some (.int .i64 (-16384)) ∧ u.cell? ⟨u0.heap.size, 1, none⟩ = some (.int .i64 (-16384)) ∧ u.cell? ⟨(u0.heap.size + 1), 0, none⟩ = some (.int .i64 16384) ∧ u.cell? ⟨(u0.heap.size + 1), 1, none⟩ = some (.int .i64 16384))) (by kernel_rfl) ?_ (fun hHeld => ?_)
    · (try dsimp only)
      go_keep
    have hdr : Below W.heap.size W W.drew := Below.drew1
    generalize W.drew = ud8 at hdr hHeld ⊢
    replace hP := hP.below hdr
    replace E2 := E2.below hdr
    replace X1 := X1.below hdr
    replace X2 := X2.below hdr
    replace hbW : Below w.heap.size w ud8 := hbW.trans (hdr.mono hbW.size)
    clear hdr
    clear p00 p01 p02 p03 p10 p11 p20 p21
    obtain ⟨p00, p01, p02, p03⟩ := E2.cells
    obtain ⟨p10, p11, _⟩ := X1.cells
    obtain ⟨p20, p21, _⟩ := X2.cells
    refine hT 0 hHeld ?_
    refine hT 1 hHeld ?_
    refine hT 2 hHeld ?_
    refine hT 3 hHeld ?_
    refine hT 4 hHeld ?_
    refine hT 5 hHeld ?_
    refine hT 6 hHeld ?_
    refine hT 7 hHeld ?_
    refine hT 8 hHeld ?_
    refine hT 9 hHeld ?_
    refine hT 10 hHeld ?_
    refine hT 11 hHeld ?_
    refine hT 12 hHeld ?_
    refine hT 13 hHeld ?_
    refine hT 14 hHeld ?_
    refine hT 15 hHeld ?_
    refine hT 16 hHeld ?_
    refine hT 17 hHeld ?_
    refine hT 18 hHeld ?_
    refine hT 19 hHeld ?_
    refine hT 20 hHeld ?_
    refine hT 21 hHeld ?_
    refine hT 22 hHeld ?_
    refine hCall (i := 23) rfl (by kernel_rfl) (by rfl) (fun K hK => ?_)
    go_simp
    refine (hct _ hP).mono ?_
    rintro e u1 ⟨rfl, hb1⟩
    replace hP := hP.below hb1
    replace E2 := E2.below hb1
    replace X1 := X1.below hb1
    replace X2 := X2.below hb1
    replace hbW : Below w.heap.size w u1 := hbW.trans (hb1.mono hbW.size)
    clear hb1
    clear p00 p01 p02 p03 p10 p11 p20 p21
    obtain ⟨p00, p01, p02, p03⟩ := E2.cells
    obtain ⟨p10, p11, _⟩ := X1.cells
    obtain ⟨p20, p21, _⟩ := X2.cells
    go_wp2_with fail
    refine hK.out _ _ ?_ (fun hHeld => ?_)
    · (try dsimp only)
      exact ⟨p00, p01, p02, p03, p10, p11, p20, p21⟩
    clear hK K
    try simp only [Act.put, List.setIfInBounds_toArray, List.set_cons_zero, List.set_cons_succ]
    refine hT 24 hHeld ?_
    refine hT 25 hHeld ?_
    refine wpAnyH_done (by kernel_rfl) ?_ _
    clear p00 p01 p02 p03 p10 p11 p20 p21 E2 X1 X2 hP hct
    go_wp2
    go_loopw [5] (fun i wr => ∃ j : Nat, j < l.length ∧ i = .int .i64 ((j : Int) + 1) ∧ (∀ i, i < j → i + 1 < l.length → (l.getD i (0, 0)).1 < (l.getD (i + 1) (0, 0)).1 ∧ (l.getD i (0, 0)).2 ≤ (l.getD (i + 1) (0, 0)).2) ∧ Below w.heap.size w wr) (fun i _ => l.length + 1 - (intOf i).toNat)
    case atStart => exact ⟨0, m4, rfl, (fun j hj => by omega), hbW⟩
    case round =>
      obtain ⟨j, hj, rfl, hno, hB⟩ := hrel
      by_cases hkn : j + 1 < l.length
      · obtain ⟨_, _, ea, hb, hT⟩ := HH.out.two hkn
        cases ea
        have T2 := hT.below hB
        have HNO2 : Hid (∀ i, i < j → i + 1 < l.length → (l.getD i (0, 0)).1 < (l.getD (i + 1) (0, 0)).1 ∧ (l.getD i (0, 0)).2 ≤ (l.getD (i + 1) (0, 0)).2) := hno
        have HRI : Hid (RiP l → (l.getD j (0, 0)).1 < (l.getD (j + 1) (0, 0)).1 ∧ (l.getD j (0, 0)).2 ≤ (l.getD (j + 1) (0, 0)).2) := fun hr => hr j hkn
        obtain ⟨s, hs⟩ : ∃ s, l.getD j (0, 0) = s := ⟨_, rfl⟩
        obtain ⟨t, ht⟩ : ∃ s, l.getD (j + 1) (0, 0) = s := ⟨_, rfl⟩
        rw [hs, ht] at T2 HRI
        have HST2 : Hid (l.getD j (0, 0) = s ∧ l.getD (j + 1) (0, 0) = t) := ⟨hs, ht⟩
        clear hs ht hno hT
        obtain ⟨x0, y0⟩ := s
        obtain ⟨x1, y1⟩ := t
        dsimp only at T2 HRI
        obtain ⟨d0, d1, d2, d3⟩ := T2.cells
        have hwr : IntKind.i64.wrap (j : Int) = j := wrapi64 (by omega) (by omega)
        have hj0 : (0 : Int) ≤ (j : Int) := by omega
        have hj1 : (0 : Int) ≤ (j : Int) + 1 := by omega
        have hj2 : (j : Int) < (l.length : Int) := by omega
        have hj3 : (j : Int) + 1 < (l.length : Int) := by omega
        clear T2
        by_cases hx : x1 ≤ x0
        · have HFN : Hid (frP l = false) := HNO.out (fun h => by have := (HRI.out h.2.2.2.2).1; omega)
          have gx : decide (x1 ≤ x0) = true := decide_eq_true hx
          go_wp2_with fail
          go_quiet (fail)
          go_wp2
          go_ret
          exact ⟨rt_bool HFN.out.symm, below_drewN hB _⟩
        have gx : decide (x1 ≤ x0) = false := decide_eq_false hx
        by_cases hy : y1 < y0
        · have HFN : Hid (frP l = false) := HNO.out (fun h => by have := (HRI.out h.2.2.2.2).2; omega)
          have gy : decide (y1 < y0) = true := decide_eq_true hy
          go_wp2_with fail
          go_quiet (fail)
          go_wp2
          go_ret
          exact ⟨rt_bool HFN.out.symm, below_drewN hB _⟩
        have gy : decide (y1 < y0) = false := decide_eq_false hy
        go_wp2_with fail
        go_quiet (fail)
        go_wp2
        go_roundw
        case rel =>
          refine ⟨j + 1, by omega, by go_num, fun i hi hi2 => ?_, below_drewN hB _⟩
          rcases Nat.lt_or_ge i j with h1 | h1
          · exact HNO2.out i h1 hi2
          · have : i = j := by omega
            rw [this, HST2.out.1, HST2.out.2]
            exact ⟨by omega, by omega⟩
        case measure => simp [intOf]; omega
      · have HFN : Hid (frP l = true) := HF.out.2 ⟨by omega, by simp, by simp, HMEM.out, fun i hi => hno i (by omega) hi⟩
        have g9 : ¬ (j : Int) + 1 < (l.length : Int) := by omega
        clear hno
        go_wp2
        go_ret
        exact ⟨rt_bool HFN.out.symm, hB⟩

end Go.Proofs.YtdholmnniccbcaaGreatDoor

namespace Go.Proofs.YtdholmnniccbcaaGreatDoor
open Go.RowKit Go.Lib Classical
set_option linter.unusedSimpArgs false
set_option linter.unusedVariables false

theorem cell_alloc1 {u : World} {o : Obj} {k i : Nat} (hk : k < u.heap.size) : (u.alloc o).cell? ⟨k, i, none⟩ = u.cell? ⟨k, i, none⟩ :=
  World.cell?_of_block (w := u) (a := ⟨k, i, none⟩) (Below.heap_alloc _ _ _ hk)
theorem cell_alloc2 {u : World} {o o' : Obj} {k i : Nat} (hk : k < u.heap.size) : ((u.alloc o).alloc o').cell? ⟨k, i, none⟩ = u.cell? ⟨k, i, none⟩ :=
  (cell_alloc1 (by simp; omega)).trans (cell_alloc1 hk)
theorem cell_s2 {u : World} {b b' : Nat} {x y z x' y' z' : Value} {k i : Nat} (hk : k ≠ b) (hk' : k ≠ b') :
    ((((((u.setCell ⟨b, 0, none⟩ x).setCell ⟨b, 1, none⟩ y).setCell ⟨b, 2, none⟩ z).setCell ⟨b', 0, none⟩ x').setCell ⟨b', 1, none⟩ y').setCell ⟨b', 2, none⟩ z').cell? ⟨k, i, none⟩ = u.cell? ⟨k, i, none⟩ :=
  (cell_set3 hk').trans (cell_set3 hk)
theorem cell_sa {u : World} {b : Nat} {x y z : Value} {o : Obj} {k i : Nat} (hk : k ≠ b) (hk' : k < u.heap.size) :
    ((((u.setCell ⟨b, 0, none⟩ x).setCell ⟨b, 1, none⟩ y).setCell ⟨b, 2, none⟩ z).alloc o).cell? ⟨k, i, none⟩ = u.cell? ⟨k, i, none⟩ :=
  (cell_alloc1 (by simpa [World.setCell] using hk')).trans (cell_set3 hk)
theorem sto_new' (t : TypeId) (u : World) (x y z : Value) {k : Nat} (h : u.heap.size = k) : Sto t u (u.alloc (.cells #[x, y, z] t)) k x y z := h ▸ sto_new t u x y z
/-- Two blocks, one behind the other. -/
theorem Sto.two {t : TypeId} {u U V : World} {b b' : Nat} {x y z x' y' z' : Value} (s : Sto t u U b x y z) (r : Sto t U V b' x' y' z') (h : b ≠ b') :
    ∃ W, W = V ∧ Box t W b x y z ∧ Box t W b' x' y' z' ∧ (∀ B w, Below B w u → B ≤ b → B ≤ b' → Below B w W) ∧ (∀ a c xs, Rd u a c xs → Rd W a c xs) ∧ (∀ t' k x y z, k ≠ b → k ≠ b' → Box t' u k x y z → Box t' W k x y z) :=
  ⟨V, rfl, r.2.2.2 _ _ _ _ _ h s.1, r.1, fun _ _ hb h1 h2 => r.2.1 _ _ (s.2.1 _ _ hb h1) h2, fun _ _ _ hr => r.2.2.1 _ _ _ (s.2.2.1 _ _ _ hr), fun _ _ _ _ _ h1 h2 hB => r.2.2.2 _ _ _ _ _ h2 (s.2.2.2 _ _ _ _ _ h1 hB)⟩
theorem Ct.keep {u U : World} {v : Value} {k : Nat} {q : Rat} (h : Ct u v k q) (hK : ∀ a c xs, Rd u a c xs → Rd U a c xs) : Ct U v k q := by
  obtain ⟨n0, x0, y0, ⟨e1, e2, e3, e4, e5, e6, e7⟩, e8⟩ := h
  exact ⟨n0, x0, y0, ⟨e1, e2, e3, e4, e5, hK _ _ _ e6, hK _ _ _ e7⟩, e8⟩
theorem after2d {t s : TypeId} {w u : World} {x y z x' y' z' : Value} (hb : Below ((w.alloc (.cells #[x, y, z] t)).alloc (.cells #[x', y', z'] s)).drew.heap.size ((w.alloc (.cells #[x, y, z] t)).alloc (.cells #[x', y', z'] s)).drew u) :
    Box t u w.heap.size x y z ∧ Box s u (w.heap.size + 1) x' y' z' ∧ Below w.heap.size w u := after2 (Below.drew1.trans hb)

theorem formedF_any (k : Nat) (q : Rat) (v : Value) (w : World) (h : Fr w v k q) (hk : k ≤ 400000000) :
    Calls Tryz.prog 86 #[v] w fun e w' => e = .returned (.bool true) ∧ Below w.heap.size w w' := by
  obtain ⟨n, xs, ys, ⟨a, c, a', c', rfl, hx, hy⟩, hf, lx, ly, _⟩ := h
  refine (formed_any _ _ _ _ _ _ _ _ hx hy (by omega) (by omega)).mono ?_
  rintro e u ⟨rfl, hb⟩
  exact ⟨ret_bool (decide_eq_true hf), hb⟩

/-- Two formed writings of one number. -/
def Two (w : World) (n : Bool) (a : Option Addr) (c : Nat) (xs : List Nat) (a' : Option Addr) (c' : Nat) (ys : List Nat) (m : Bool) (b : Option Addr) (d : Nat) (ps : List Nat) (b' : Option Addr) (d' : Nat) (qs : List Nat) (q : Rat) : Prop :=
  Rd w a c xs ∧ Rd w a' c' ys ∧ Rd w b d ps ∧ Rd w b' d' qs ∧ Fmd n xs ys ∧ xs.length ≤ 9 ∧ ys.length ≤ 9 ∧ qv n xs ys = q ∧ Fmd m ps qs ∧ ps.length ≤ 9 ∧ qs.length ≤ 9 ∧ qv m ps qs = q

end Go.Proofs.YtdholmnniccbcaaGreatDoor
