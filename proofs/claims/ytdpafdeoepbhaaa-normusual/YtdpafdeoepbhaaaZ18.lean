/-
  bend.Formed: the walk.
  norm.Fit, norm.bendOf, norm.Usual: the walks.
-/
import Derived.Test.YtdpafdeoepbhaaaZ17
import Derived.Test.YtdpafdeoepbhaaaZ16
namespace Go.Proofs.Ytdpafdeoepbhaaa
open Go.RowKit Go.Maps
set_option linter.unusedSimpArgs false
set_option linter.unusedVariables false

/-- The first and the last of pairs. -/
def EndP (w : World) (b off m : Nat) (x0 y0 x1 y1 : Int) : Prop :=
  b < w.heap.size ∧ w.cell? ⟨b, off, none⟩ = some (.int .i64 x0) ∧ w.cell? ⟨b, off + 1, none⟩ = some (.int .i64 y0) ∧ w.cell? ⟨b, off + m * 2, none⟩ = some (.int .i64 x1) ∧ w.cell? ⟨b, off + m * 2 + 1, none⟩ = some (.int .i64 y1)
theorem EndP.cells {w : World} {b off m : Nat} {x0 y0 x1 y1 : Int} (h : EndP w b off m x0 y0 x1 y1) : w.cell? ⟨b, off, none⟩ = some (.int .i64 x0) ∧ w.cell? ⟨b, off + 1, none⟩ = some (.int .i64 y0) ∧ w.cell? ⟨b, off + m * 2, none⟩ = some (.int .i64 x1) ∧ w.cell? ⟨b, off + m * 2 + 1, none⟩ = some (.int .i64 y1) := h.2
theorem EndP.below {w w' : World} {b off m : Nat} {x0 y0 x1 y1 : Int} (h : EndP w b off m x0 y0 x1 y1) (hb : Below w.heap.size w w') : EndP w' b off m x0 y0 x1 y1 := by
  obtain ⟨h0, h1, h2, h3, h4⟩ := h
  exact ⟨Nat.lt_of_lt_of_le h0 hb.size, (hb.cell (p := ⟨b, off, none⟩) h0).trans h1, (hb.cell (p := ⟨b, off + 1, none⟩) h0).trans h2, (hb.cell (p := ⟨b, off + m * 2, none⟩) h0).trans h3, (hb.cell (p := ⟨b, off + m * 2 + 1, none⟩) h0).trans h4⟩
theorem Pz.ends {w : World} {a : Option Addr} {cap : Nat} {l : List Pr} (h : Pz w a cap l) {m : Nat} (hm : m + 1 = l.length) : ∃ b off, a = some ⟨b, off, none⟩ ∧ EndP w b off m (l.getD 0 (0, 0)).1 (l.getD 0 (0, 0)).2 (l.getD m (0, 0)).1 (l.getD m (0, 0)).2 := by
  obtain ⟨b, off, ea, hb, d0, d1⟩ := h.2.2.2 0 (by omega)
  obtain ⟨_, _, ea2, _, c0, c1⟩ := h.2.2.2 m (by omega)
  rw [ea] at ea2
  cases ea2
  rw [Nat.zero_mul, Nat.add_zero] at d0 d1
  exact ⟨b, off, ea, hb, d0, d1, c0, c1⟩

set_option maxHeartbeats 4000000 in
set_option maxRecDepth 100000 in
theorem cformP_any (a : Option Addr) (cap : Nat) (l : List Pr) (w : World) (h : Pz w a cap l) :
    Calls Try.prog 19 #[.slice a l.length cap] w fun e w' => e = .returned (.bool (frP l)) ∧ Below w.heap.size w w' := by
  have k1 := h.1
  have k2 := h.2.1
  unfold maxLen at k2
  by_cases h0 : l.length = 0
  · have g0 : ((l.length : Int) == 0) = true := by simp [h0]
    have HFN : Hid (frP l = true) := frP_iff.2 (.inl h0)
    clear h0
    go_enter Try.func19, Try.ntmps19
    go_wp2
    go_ret
    exact ⟨rt_bool HFN.out.symm, Below.refl _ _⟩
  have g0 : ((l.length : Int) == 0) = false := by simp; intro e; exact h0 (by rw [e]; rfl)
  obtain ⟨m, hm⟩ : ∃ m, m + 1 = l.length := ⟨l.length - 1, by omega⟩
  obtain ⟨b, off, ea, E2⟩ := h.ends hm
  subst ea
  have HF : Hid (frP l = true ↔ l.length ≤ 16 ∧ l.getD 0 (0, 0) = (-16384, -16384) ∧ l.getD m (0, 0) = (16384, 16384) ∧ (0, 0) ∈ l ∧ RiP l) := by
    show _ ↔ _
    rw [frP_iff, FrP, FpP, show l.length - 1 = m by omega]
    constructor
    · rintro (h1 | h1)
      · exact absurd h1 h0
      · exact h1.2
    · intro h1
      exact .inr ⟨by omega, h1⟩
  have HNO : Hid (¬ (l.length ≤ 16 ∧ l.getD 0 (0, 0) = (-16384, -16384) ∧ l.getD m (0, 0) = (16384, 16384) ∧ (0, 0) ∈ l ∧ RiP l) → frP l = false) := fun hn => Bool.eq_false_iff.2 (fun e => hn (HF.out.1 e))
  obtain ⟨s, hs⟩ : ∃ s, l.getD 0 (0, 0) = s := ⟨_, rfl⟩
  obtain ⟨t, ht⟩ : ∃ s, l.getD m (0, 0) = s := ⟨_, rfl⟩
  rw [hs, ht] at E2 HF HNO
  have HST : Hid (l.getD 0 (0, 0) = s ∧ l.getD m (0, 0) = t) := ⟨hs, ht⟩
  obtain ⟨x0, y0⟩ := s
  obtain ⟨x1, y1⟩ := t
  dsimp only at E2
  have hP := h
  have HH : Hid (Pz w (some ⟨b, off, none⟩) cap l) := h
  have HM : Hid (m + 1 = l.length) := hm
  have m1 : (0 : Int) ≤ (m : Int) := by omega
  have m2 : (m : Int) < (l.length : Int) := by omega
  have m3 : m < l.length := by omega
  have m4 : 0 < l.length := by omega
  have m5 : IntKind.i64.wrap ((l.length : Int) - 1) = (m : Int) := by rw [wrapi64 (by omega) (by omega)]; omega
  clear hs ht h0 hm h
  by_cases hn : 16 < l.length
  · have g1 : (16 : Int) < (l.length : Int) := by omega
    have HFN : Hid (frP l = false) := HNO.out (fun h => by have := h.1; omega)
    go_enter Try.func19, Try.ntmps19
    go_wp2_with fail
    refine (ends_any _).mono ?_
    rintro e u0 ⟨rfl, hbu⟩
    replace E2 := E2.below hbu
    replace hP := hP.below hbu
    go_wp2_with fail
    obtain ⟨W, hW, X1, X2, hb9⟩ : ∃ W, W = (u0.alloc (.cells #[.int .i64 (-16384), .int .i64 (-16384)] 68)).alloc (.cells #[.int .i64 16384, .int .i64 16384] 68) ∧ BxP W u0.heap.size (.int .i64 (-16384)) (.int .i64 (-16384)) ∧ BxP W (u0.heap.size + 1) (.int .i64 16384) (.int .i64 16384) ∧ Below u0.heap.size u0 W := ⟨_, rfl, (BxP.new u0 _ _).below (bl1 _), BxP.new1 u0 _ _ _, bl2 _ _⟩
    rw [← hW]
    clear hW
    replace E2 := E2.below hb9
    replace hP := hP.below hb9
    have hbW : Below w.heap.size w W := hbu.trans (hb9.mono hbu.size)
    clear hb9
    obtain ⟨p00, p01, p02, p03⟩ := E2.cells
    obtain ⟨p10, p11, _⟩ := X1.cells
    obtain ⟨p20, p21, _⟩ := X2.cells
    refine wp_region_held_drew (S := (fun u => u.cell? ⟨b, off, none⟩ = some (.int .i64 x0) ∧ u.cell? ⟨b, (off + 1), none⟩ = some (.int .i64 y0) ∧ u.cell? ⟨b, (off + m * 2), none⟩ = some (.int .i64 x1) ∧ u.cell? ⟨b, (off + m * 2 + 1), none⟩ = some (.int .i64 y1) ∧ u.cell? ⟨u0.heap.size, 0, none⟩ = some (.int .i64 (-16384)) ∧ u.cell? ⟨u0.heap.size, 1, none⟩ = some (.int .i64 (-16384)) ∧ u.cell? ⟨(u0.heap.size + 1), 0, none⟩ = some (.int .i64 16384) ∧ u.cell? ⟨(u0.heap.size + 1), 1, none⟩ = some (.int .i64 16384))) (by kernel_rfl) ?_ (fun hHeld => ?_)
    · (try dsimp only)
      go_keep
    have hdr : Below W.heap.size W W.drew := Below.drew1
    generalize W.drew = ud2 at hdr hHeld ⊢
    replace hP := hP.below hdr
    replace E2 := E2.below hdr
    replace X1 := X1.below hdr
    replace X2 := X2.below hdr
    replace hbW : Below w.heap.size w ud2 := hbW.trans (hdr.mono hbW.size)
    clear hdr
    clear p00 p01 p02 p03 p10 p11 p20 p21
    obtain ⟨p00, p01, p02, p03⟩ := E2.cells
    obtain ⟨p10, p11, _⟩ := X1.cells
    obtain ⟨p20, p21, _⟩ := X2.cells
    refine hT 0 hHeld ?_
    refine hT 1 hHeld ?_
    refine hT 2 hHeld ?_
    refine hT 3 hHeld ?_
    refine hN 4 hHeld ?_
    refine hN 5 hHeld ?_
    refine hN 6 hHeld ?_
    refine hN 7 hHeld ?_
    refine hN 8 hHeld ?_
    refine hT 9 hHeld ?_
    refine hT 10 hHeld ?_
    refine hN 11 hHeld ?_
    refine hN 12 hHeld ?_
    refine hN 13 hHeld ?_
    refine hN 14 hHeld ?_
    refine hN 15 hHeld ?_
    refine hN 16 hHeld ?_
    refine hN 17 hHeld ?_
    refine hN 18 hHeld ?_
    refine hT 19 hHeld ?_
    refine hT 20 hHeld ?_
    refine hN 21 hHeld ?_
    refine hN 22 hHeld ?_
    refine hN 23 hHeld ?_
    refine hN 24 hHeld ?_
    refine hT 25 hHeld ?_
    refine wpAnyH_done (by kernel_rfl) ?_ _
    go_wp2
    go_ret
    exact ⟨rt_bool HFN.out.symm, hbW⟩
  have g1 : ¬ (16 : Int) < (l.length : Int) := by omega
  have gd : decide ((16 : Int) < (l.length : Int)) = false := decide_eq_false g1
  by_cases hx0 : x0 = -16384
  rotate_left
  · have HFN : Hid (frP l = false) := HNO.out (fun h => hx0 (by have := h.2.1; cases this; rfl))
    go_enter Try.func19, Try.ntmps19
    go_wp2_with fail
    refine (ends_any _).mono ?_
    rintro e u0 ⟨rfl, hbu⟩
    replace E2 := E2.below hbu
    replace hP := hP.below hbu
    go_wp2_with fail
    obtain ⟨W, hW, X1, X2, hb9⟩ : ∃ W, W = (u0.alloc (.cells #[.int .i64 (-16384), .int .i64 (-16384)] 68)).alloc (.cells #[.int .i64 16384, .int .i64 16384] 68) ∧ BxP W u0.heap.size (.int .i64 (-16384)) (.int .i64 (-16384)) ∧ BxP W (u0.heap.size + 1) (.int .i64 16384) (.int .i64 16384) ∧ Below u0.heap.size u0 W := ⟨_, rfl, (BxP.new u0 _ _).below (bl1 _), BxP.new1 u0 _ _ _, bl2 _ _⟩
    rw [← hW]
    clear hW
    replace E2 := E2.below hb9
    replace hP := hP.below hb9
    have hbW : Below w.heap.size w W := hbu.trans (hb9.mono hbu.size)
    clear hb9
    obtain ⟨p00, p01, p02, p03⟩ := E2.cells
    obtain ⟨p10, p11, _⟩ := X1.cells
    obtain ⟨p20, p21, _⟩ := X2.cells
    refine wp_region_held_drew (S := (fun u => u.cell? ⟨b, off, none⟩ = some (.int .i64 x0) ∧ u.cell? ⟨b, (off + 1), none⟩ = some (.int .i64 y0) ∧ u.cell? ⟨b, (off + m * 2), none⟩ = some (.int .i64 x1) ∧ u.cell? ⟨b, (off + m * 2 + 1), none⟩ = some (.int .i64 y1) ∧ u.cell? ⟨u0.heap.size, 0, none⟩ = some (.int .i64 (-16384)) ∧ u.cell? ⟨u0.heap.size, 1, none⟩ = some (.int .i64 (-16384)) ∧ u.cell? ⟨(u0.heap.size + 1), 0, none⟩ = some (.int .i64 16384) ∧ u.cell? ⟨(u0.heap.size + 1), 1, none⟩ = some (.int .i64 16384))) (by kernel_rfl) ?_ (fun hHeld => ?_)
    · (try dsimp only)
      go_keep
    have hdr : Below W.heap.size W W.drew := Below.drew1
    generalize W.drew = ud3 at hdr hHeld ⊢
    replace hP := hP.below hdr
    replace E2 := E2.below hdr
    replace X1 := X1.below hdr
    replace X2 := X2.below hdr
    replace hbW : Below w.heap.size w ud3 := hbW.trans (hdr.mono hbW.size)
    clear hdr
    clear p00 p01 p02 p03 p10 p11 p20 p21
    obtain ⟨p00, p01, p02, p03⟩ := E2.cells
    obtain ⟨p10, p11, _⟩ := X1.cells
    obtain ⟨p20, p21, _⟩ := X2.cells
    refine hT 0 hHeld ?_
    refine hT 1 hHeld ?_
    refine hT 2 hHeld ?_
    refine hT 3 hHeld ?_
    refine hT 4 hHeld ?_
    refine hT 5 hHeld ?_
    refine hT 6 hHeld ?_
    refine hT 7 hHeld ?_
    refine hT 8 hHeld ?_
    refine hT 9 hHeld ?_
    refine hT 10 hHeld ?_
    refine hN 11 hHeld ?_
    refine hN 12 hHeld ?_
    refine hN 13 hHeld ?_
    refine hN 14 hHeld ?_
    refine hN 15 hHeld ?_
    refine hN 16 hHeld ?_
    refine hN 17 hHeld ?_
    refine hN 18 hHeld ?_
    refine hT 19 hHeld ?_
    refine hT 20 hHeld ?_
    refine hN 21 hHeld ?_
    refine hN 22 hHeld ?_
    refine hN 23 hHeld ?_
    refine hN 24 hHeld ?_
    refine hT 25 hHeld ?_
    refine wpAnyH_done (by kernel_rfl) ?_ _
    go_wp2
    go_ret
    exact ⟨rt_bool HFN.out.symm, hbW⟩
  subst hx0
  by_cases hy0 : y0 = -16384
  rotate_left
  · have HFN : Hid (frP l = false) := HNO.out (fun h => hy0 (by have := h.2.1; cases this; rfl))
    go_enter Try.func19, Try.ntmps19
    go_wp2_with fail
    refine (ends_any _).mono ?_
    rintro e u0 ⟨rfl, hbu⟩
    replace E2 := E2.below hbu
    replace hP := hP.below hbu
    go_wp2_with fail
    obtain ⟨W, hW, X1, X2, hb9⟩ : ∃ W, W = (u0.alloc (.cells #[.int .i64 (-16384), .int .i64 (-16384)] 68)).alloc (.cells #[.int .i64 16384, .int .i64 16384] 68) ∧ BxP W u0.heap.size (.int .i64 (-16384)) (.int .i64 (-16384)) ∧ BxP W (u0.heap.size + 1) (.int .i64 16384) (.int .i64 16384) ∧ Below u0.heap.size u0 W := ⟨_, rfl, (BxP.new u0 _ _).below (bl1 _), BxP.new1 u0 _ _ _, bl2 _ _⟩
    rw [← hW]
    clear hW
    replace E2 := E2.below hb9
    replace hP := hP.below hb9
    have hbW : Below w.heap.size w W := hbu.trans (hb9.mono hbu.size)
    clear hb9
    obtain ⟨p00, p01, p02, p03⟩ := E2.cells
    obtain ⟨p10, p11, _⟩ := X1.cells
    obtain ⟨p20, p21, _⟩ := X2.cells
    refine wp_region_held_drew (S := (fun u => u.cell? ⟨b, off, none⟩ = some (.int .i64 (-16384)) ∧ u.cell? ⟨b, (off + 1), none⟩ = some (.int .i64 y0) ∧ u.cell? ⟨b, (off + m * 2), none⟩ = some (.int .i64 x1) ∧ u.cell? ⟨b, (off + m * 2 + 1), none⟩ = some (.int .i64 y1) ∧ u.cell? ⟨u0.heap.size, 0, none⟩ = some (.int .i64 (-16384)) ∧ u.cell? ⟨u0.heap.size, 1, none⟩ = some (.int .i64 (-16384)) ∧ u.cell? ⟨(u0.heap.size + 1), 0, none⟩ = some (.int .i64 16384) ∧ u.cell? ⟨(u0.heap.size + 1), 1, none⟩ = some (.int .i64 16384))) (by kernel_rfl) ?_ (fun hHeld => ?_)
    · (try dsimp only)
      go_keep
    have hdr : Below W.heap.size W W.drew := Below.drew1
    generalize W.drew = ud4 at hdr hHeld ⊢
    replace hP := hP.below hdr
    replace E2 := E2.below hdr
    replace X1 := X1.below hdr
    replace X2 := X2.below hdr
    replace hbW : Below w.heap.size w ud4 := hbW.trans (hdr.mono hbW.size)
    clear hdr
    clear p00 p01 p02 p03 p10 p11 p20 p21
    obtain ⟨p00, p01, p02, p03⟩ := E2.cells
    obtain ⟨p10, p11, _⟩ := X1.cells
    obtain ⟨p20, p21, _⟩ := X2.cells
    refine hT 0 hHeld ?_
    refine hT 1 hHeld ?_
    refine hT 2 hHeld ?_
    refine hT 3 hHeld ?_
    refine hT 4 hHeld ?_
    refine hT 5 hHeld ?_
    refine hT 6 hHeld ?_
    refine hT 7 hHeld ?_
    refine hT 8 hHeld ?_
    refine hT 9 hHeld ?_
    refine hT 10 hHeld ?_
    refine hN 11 hHeld ?_
    refine hN 12 hHeld ?_
    refine hN 13 hHeld ?_
    refine hN 14 hHeld ?_
    refine hN 15 hHeld ?_
    refine hN 16 hHeld ?_
    refine hN 17 hHeld ?_
    refine hN 18 hHeld ?_
    refine hT 19 hHeld ?_
    refine hT 20 hHeld ?_
    refine hN 21 hHeld ?_
    refine hN 22 hHeld ?_
    refine hN 23 hHeld ?_
    refine hN 24 hHeld ?_
    refine hT 25 hHeld ?_
    refine wpAnyH_done (by kernel_rfl) ?_ _
    go_wp2
    go_ret
    exact ⟨rt_bool HFN.out.symm, hbW⟩
  subst hy0
  by_cases hx1 : x1 = 16384
  rotate_left
  · have HFN : Hid (frP l = false) := HNO.out (fun h => hx1 (by have := h.2.2.1; cases this; rfl))
    go_enter Try.func19, Try.ntmps19
    go_wp2_with fail
    refine (ends_any _).mono ?_
    rintro e u0 ⟨rfl, hbu⟩
    replace E2 := E2.below hbu
    replace hP := hP.below hbu
    go_wp2_with fail
    obtain ⟨W, hW, X1, X2, hb9⟩ : ∃ W, W = (u0.alloc (.cells #[.int .i64 (-16384), .int .i64 (-16384)] 68)).alloc (.cells #[.int .i64 16384, .int .i64 16384] 68) ∧ BxP W u0.heap.size (.int .i64 (-16384)) (.int .i64 (-16384)) ∧ BxP W (u0.heap.size + 1) (.int .i64 16384) (.int .i64 16384) ∧ Below u0.heap.size u0 W := ⟨_, rfl, (BxP.new u0 _ _).below (bl1 _), BxP.new1 u0 _ _ _, bl2 _ _⟩
    rw [← hW]
    clear hW
    replace E2 := E2.below hb9
    replace hP := hP.below hb9
    have hbW : Below w.heap.size w W := hbu.trans (hb9.mono hbu.size)
    clear hb9
    obtain ⟨p00, p01, p02, p03⟩ := E2.cells
    obtain ⟨p10, p11, _⟩ := X1.cells
    obtain ⟨p20, p21, _⟩ := X2.cells
    refine wp_region_held_drew (S := (fun u => u.cell? ⟨b, off, none⟩ = some (.int .i64 (-16384)) ∧ u.cell? ⟨b, (off + 1), none⟩ = some (.int .i64 (-16384)) ∧ u.cell? ⟨b, (off + m * 2), none⟩ = some (.int .i64 x1) ∧ u.cell? ⟨b, (off + m * 2 + 1), none⟩ = some (.int .i64 y1) ∧ u.cell? ⟨u0.heap.size, 0, none⟩ = some (.int .i64 (-16384)) ∧ u.cell? ⟨u0.heap.size, 1, none⟩ = some (.int .i64 (-16384)) ∧ u.cell? ⟨(u0.heap.size + 1), 0, none⟩ = some (.int .i64 16384) ∧ u.cell? ⟨(u0.heap.size + 1), 1, none⟩ = some (.int .i64 16384))) (by kernel_rfl) ?_ (fun hHeld => ?_)
    · (try dsimp only)
      go_keep
    have hdr : Below W.heap.size W W.drew := Below.drew1
    generalize W.drew = ud5 at hdr hHeld ⊢
    replace hP := hP.below hdr
    replace E2 := E2.below hdr
    replace X1 := X1.below hdr
    replace X2 := X2.below hdr
    replace hbW : Below w.heap.size w ud5 := hbW.trans (hdr.mono hbW.size)
    clear hdr
    clear p00 p01 p02 p03 p10 p11 p20 p21
    obtain ⟨p00, p01, p02, p03⟩ := E2.cells
    obtain ⟨p10, p11, _⟩ := X1.cells
    obtain ⟨p20, p21, _⟩ := X2.cells
    refine hT 0 hHeld ?_
    refine hT 1 hHeld ?_
    refine hT 2 hHeld ?_
    refine hT 3 hHeld ?_
    refine hT 4 hHeld ?_
    refine hT 5 hHeld ?_
    refine hT 6 hHeld ?_
    refine hT 7 hHeld ?_
    refine hT 8 hHeld ?_
    refine hT 9 hHeld ?_
    refine hT 10 hHeld ?_
    refine hT 11 hHeld ?_
    refine hT 12 hHeld ?_
    refine hT 13 hHeld ?_
    refine hT 14 hHeld ?_
    refine hT 15 hHeld ?_
    refine hT 16 hHeld ?_
    refine hT 17 hHeld ?_
    refine hT 18 hHeld ?_
    refine hT 19 hHeld ?_
    refine hT 20 hHeld ?_
    refine hN 21 hHeld ?_
    refine hN 22 hHeld ?_
    refine hN 23 hHeld ?_
    refine hN 24 hHeld ?_
    refine hT 25 hHeld ?_
    refine wpAnyH_done (by kernel_rfl) ?_ _
    go_wp2
    go_ret
    exact ⟨rt_bool HFN.out.symm, hbW⟩
  subst hx1
  by_cases hy1 : y1 = 16384
  rotate_left
  · have HFN : Hid (frP l = false) := HNO.out (fun h => hy1 (by have := h.2.2.1; cases this; rfl))
    go_enter Try.func19, Try.ntmps19
    go_wp2_with fail
    refine (ends_any _).mono ?_
    rintro e u0 ⟨rfl, hbu⟩
    replace E2 := E2.below hbu
    replace hP := hP.below hbu
    go_wp2_with fail
    obtain ⟨W, hW, X1, X2, hb9⟩ : ∃ W, W = (u0.alloc (.cells #[.int .i64 (-16384), .int .i64 (-16384)] 68)).alloc (.cells #[.int .i64 16384, .int .i64 16384] 68) ∧ BxP W u0.heap.size (.int .i64 (-16384)) (.int .i64 (-16384)) ∧ BxP W (u0.heap.size + 1) (.int .i64 16384) (.int .i64 16384) ∧ Below u0.heap.size u0 W := ⟨_, rfl, (BxP.new u0 _ _).below (bl1 _), BxP.new1 u0 _ _ _, bl2 _ _⟩
    rw [← hW]
    clear hW
    replace E2 := E2.below hb9
    replace hP := hP.below hb9
    have hbW : Below w.heap.size w W := hbu.trans (hb9.mono hbu.size)
    clear hb9
    obtain ⟨p00, p01, p02, p03⟩ := E2.cells
    obtain ⟨p10, p11, _⟩ := X1.cells
    obtain ⟨p20, p21, _⟩ := X2.cells
    refine wp_region_held_drew (S := (fun u => u.cell? ⟨b, off, none⟩ = some (.int .i64 (-16384)) ∧ u.cell? ⟨b, (off + 1), none⟩ = some (.int .i64 (-16384)) ∧ u.cell? ⟨b, (off + m * 2), none⟩ = some (.int .i64 16384) ∧ u.cell? ⟨b, (off + m * 2 + 1), none⟩ = some (.int .i64 y1) ∧ u.cell? ⟨u0.heap.size, 0, none⟩ = some (.int .i64 (-16384)) ∧ u.cell? ⟨u0.heap.size, 1, none⟩ = some (.int .i64 (-16384)) ∧ u.cell? ⟨(u0.heap.size + 1), 0, none⟩ = some (.int .i64 16384) ∧ u.cell? ⟨(u0.heap.size + 1), 1, none⟩ = some (.int .i64 16384))) (by kernel_rfl) ?_ (fun hHeld => ?_)
    · (try dsimp only)
      go_keep
    have hdr : Below W.heap.size W W.drew := Below.drew1
    generalize W.drew = ud6 at hdr hHeld ⊢
    replace hP := hP.below hdr
    replace E2 := E2.below hdr
    replace X1 := X1.below hdr
    replace X2 := X2.below hdr
    replace hbW : Below w.heap.size w ud6 := hbW.trans (hdr.mono hbW.size)
    clear hdr
    clear p00 p01 p02 p03 p10 p11 p20 p21
    obtain ⟨p00, p01, p02, p03⟩ := E2.cells
    obtain ⟨p10, p11, _⟩ := X1.cells
    obtain ⟨p20, p21, _⟩ := X2.cells
    refine hT 0 hHeld ?_
    refine hT 1 hHeld ?_
    refine hT 2 hHeld ?_
    refine hT 3 hHeld ?_
    refine hT 4 hHeld ?_
    refine hT 5 hHeld ?_
    refine hT 6 hHeld ?_
    refine hT 7 hHeld ?_
    refine hT 8 hHeld ?_
    refine hT 9 hHeld ?_
    refine hT 10 hHeld ?_
    refine hT 11 hHeld ?_
    refine hT 12 hHeld ?_
    refine hT 13 hHeld ?_
    refine hT 14 hHeld ?_
    refine hT 15 hHeld ?_
    refine hT 16 hHeld ?_
    refine hT 17 hHeld ?_
    refine hT 18 hHeld ?_
    refine hT 19 hHeld ?_
    refine hT 20 hHeld ?_
    refine hN 21 hHeld ?_
    refine hN 22 hHeld ?_
    refine hN 23 hHeld ?_
    refine hN 24 hHeld ?_
    refine hT 25 hHeld ?_
    refine wpAnyH_done (by kernel_rfl) ?_ _
    go_wp2
    go_ret
    exact ⟨rt_bool HFN.out.symm, hbW⟩
  subst hy1
  have hct := fun W hW => contains_any (some ⟨b, off, none⟩) cap l (0, 0) W hW
  unfold prC at hct
  dsimp only at hct
  cases hq : decide ((0, 0) ∈ l) with
  | false =>
    have HFN : Hid (frP l = false) := HNO.out (fun h => of_decide_eq_false hq h.2.2.2.1)
    rw [hq] at hct
    clear hq
    go_enter Try.func19, Try.ntmps19
    go_wp2_with fail
    refine (ends_any _).mono ?_
    rintro e u0 ⟨rfl, hbu⟩
    replace E2 := E2.below hbu
    replace hP := hP.below hbu
    go_wp2_with fail
    obtain ⟨W, hW, X1, X2, hb9⟩ : ∃ W, W = (u0.alloc (.cells #[.int .i64 (-16384), .int .i64 (-16384)] 68)).alloc (.cells #[.int .i64 16384, .int .i64 16384] 68) ∧ BxP W u0.heap.size (.int .i64 (-16384)) (.int .i64 (-16384)) ∧ BxP W (u0.heap.size + 1) (.int .i64 16384) (.int .i64 16384) ∧ Below u0.heap.size u0 W := ⟨_, rfl, (BxP.new u0 _ _).below (bl1 _), BxP.new1 u0 _ _ _, bl2 _ _⟩
    rw [← hW]
    clear hW
    replace E2 := E2.below hb9
    replace hP := hP.below hb9
    have hbW : Below w.heap.size w W := hbu.trans (hb9.mono hbu.size)
    clear hb9
    obtain ⟨p00, p01, p02, p03⟩ := E2.cells
    obtain ⟨p10, p11, _⟩ := X1.cells
    obtain ⟨p20, p21, _⟩ := X2.cells
    refine wp_region_held_drew (S := (fun u => u.cell? ⟨b, off, none⟩ = some (.int .i64 (-16384)) ∧ u.cell? ⟨b, (off + 1), none⟩ = some (.int .i64 (-16384)) ∧ u.cell? ⟨b, (off + m * 2), none⟩ = some (.int .i64 16384) ∧ u.cell? ⟨b, (off + m * 2 + 1), none⟩ = some (.int .i64 16384) ∧ u.cell? ⟨u0.heap.size, 0, none⟩ = some (.int .i64 (-16384)) ∧ u.cell? ⟨u0.heap.size, 1, none⟩ = some (.int .i64 (-16384)) ∧ u.cell? ⟨(u0.heap.size + 1), 0, none⟩ = some (.int .i64 16384) ∧ u.cell? ⟨(u0.heap.size + 1), 1, none⟩ = some (.int .i64 16384))) (by kernel_rfl) ?_ (fun hHeld => ?_)
    · (try dsimp only)
      go_keep
    have hdr : Below W.heap.size W W.drew := Below.drew1
    generalize W.drew = ud7 at hdr hHeld ⊢
    replace hP := hP.below hdr
    replace E2 := E2.below hdr
    replace X1 := X1.below hdr
    replace X2 := X2.below hdr
    replace hbW : Below w.heap.size w ud7 := hbW.trans (hdr.mono hbW.size)
    clear hdr
    clear p00 p01 p02 p03 p10 p11 p20 p21
    obtain ⟨p00, p01, p02, p03⟩ := E2.cells
    obtain ⟨p10, p11, _⟩ := X1.cells
    obtain ⟨p20, p21, _⟩ := X2.cells
    refine hT 0 hHeld ?_
    refine hT 1 hHeld ?_
    refine hT 2 hHeld ?_
    refine hT 3 hHeld ?_
    refine hT 4 hHeld ?_
    refine hT 5 hHeld ?_
    refine hT 6 hHeld ?_
    refine hT 7 hHeld ?_
    refine hT 8 hHeld ?_
    refine hT 9 hHeld ?_
    refine hT 10 hHeld ?_
    refine hT 11 hHeld ?_
    refine hT 12 hHeld ?_
    refine hT 13 hHeld ?_
    refine hT 14 hHeld ?_
    refine hT 15 hHeld ?_
    refine hT 16 hHeld ?_
    refine hT 17 hHeld ?_
    refine hT 18 hHeld ?_
    refine hT 19 hHeld ?_
    refine hT 20 hHeld ?_
    refine hT 21 hHeld ?_
    refine hT 22 hHeld ?_
    refine hCall (i := 23) rfl (by kernel_rfl) (by rfl) (fun K hK => ?_)
    go_simp
    refine (hct _ hP).mono ?_
    rintro e u1 ⟨rfl, hb1⟩
    replace hP := hP.below hb1
    replace E2 := E2.below hb1
    replace X1 := X1.below hb1
    replace X2 := X2.below hb1
    replace hbW : Below w.heap.size w u1 := hbW.trans (hb1.mono hbW.size)
    clear hb1
    clear p00 p01 p02 p03 p10 p11 p20 p21
    obtain ⟨p00, p01, p02, p03⟩ := E2.cells
    obtain ⟨p10, p11, _⟩ := X1.cells
    obtain ⟨p20, p21, _⟩ := X2.cells
    go_wp2_with fail
    refine hK.out _ _ ?_ (fun hHeld => ?_)
    · (try dsimp only)
      exact ⟨p00, p01, p02, p03, p10, p11, p20, p21⟩
    clear hK K
    try simp only [Act.put, List.setIfInBounds_toArray, List.set_cons_zero, List.set_cons_succ]
    refine hT 24 hHeld ?_
    refine hT 25 hHeld ?_
    refine wpAnyH_done (by kernel_rfl) ?_ _
    go_wp2
    go_ret
    exact ⟨rt_bool HFN.out.symm, hbW⟩
  | true =>
    have HMEM : Hid ((0, 0) ∈ l) := by show (0, 0) ∈ l; exact of_decide_eq_true hq
    rw [hq] at hct
    clear hq
    go_enter Try.func19, Try.ntmps19
    go_wp2_with fail
    refine (ends_any _).mono ?_
    rintro e u0 ⟨rfl, hbu⟩
    replace E2 := E2.below hbu
    replace hP := hP.below hbu
    go_wp2_with fail
    obtain ⟨W, hW, X1, X2, hb9⟩ : ∃ W, W = (u0.alloc (.cells #[.int .i64 (-16384), .int .i64 (-16384)] 68)).alloc (.cells #[.int .i64 16384, .int .i64 16384] 68) ∧ BxP W u0.heap.size (.int .i64 (-16384)) (.int .i64 (-16384)) ∧ BxP W (u0.heap.size + 1) (.int .i64 16384) (.int .i64 16384) ∧ Below u0.heap.size u0 W := ⟨_, rfl, (BxP.new u0 _ _).below (bl1 _), BxP.new1 u0 _ _ _, bl2 _ _⟩
    rw [← hW]
    clear hW
    replace E2 := E2.below hb9
    replace hP := hP.below hb9
    have hbW : Below w.heap.size w W := hbu.trans (hb9.mono hbu.size)
    clear hb9
    obtain ⟨p00, p01, p02, p03⟩ := E2.cells
    obtain ⟨p10, p11, _⟩ := X1.cells
    obtain ⟨p20, p21, _⟩ := X2.cells
    refine wp_region_held_drew (S := (fun u => u.cell? ⟨b, off, none⟩ = some (.int .i64 (-16384)) ∧ u.cell? ⟨b, (off + 1), none⟩ = some (.int .i64 (-16384)) ∧ u.cell? ⟨b, (off + m * 2), none⟩ = some (.int .i64 16384) ∧ u.cell? ⟨b, (off + m * 2 + 1), none⟩ = some (.int .i64 16384) ∧ u.cell? ⟨u0.heap.size, 0, none⟩ = some (.int .i64 (-16384)) ∧ u.cell? ⟨u0.heap.size, 1, none⟩ = some (.int .i64 (-16384)) ∧ u.cell? ⟨(u0.heap.size + 1), 0, none⟩ = some (.int .i64 16384) ∧ u.cell? ⟨(u0.heap.size + 1), 1, none⟩ = some (.int .i64 16384))) (by kernel_rfl) ?_ (fun hHeld => ?_)
    · (try dsimp only)
      go_keep
    have hdr : Below W.heap.size W W.drew := Below.drew1
    generalize W.drew = ud8 at hdr hHeld ⊢
    replace hP := hP.below hdr
    replace E2 := E2.below hdr
    replace X1 := X1.below hdr
    replace X2 := X2.below hdr
    replace hbW : Below w.heap.size w ud8 := hbW.trans (hdr.mono hbW.size)
    clear hdr
    clear p00 p01 p02 p03 p10 p11 p20 p21
    obtain ⟨p00, p01, p02, p03⟩ := E2.cells
    obtain ⟨p10, p11, _⟩ := X1.cells
    obtain ⟨p20, p21, _⟩ := X2.cells
    refine hT 0 hHeld ?_
    refine hT 1 hHeld ?_
    refine hT 2 hHeld ?_
    refine hT 3 hHeld ?_
    refine hT 4 hHeld ?_
    refine hT 5 hHeld ?_
    refine hT 6 hHeld ?_
    refine hT 7 hHeld ?_
    refine hT 8 hHeld ?_
    refine hT 9 hHeld ?_
    refine hT 10 hHeld ?_
    refine hT 11 hHeld ?_
    refine hT 12 hHeld ?_
    refine hT 13 hHeld ?_
    refine hT 14 hHeld ?_
    refine hT 15 hHeld ?_
    refine hT 16 hHeld ?_
    refine hT 17 hHeld ?_
    refine hT 18 hHeld ?_
    refine hT 19 hHeld ?_
    refine hT 20 hHeld ?_
    refine hT 21 hHeld ?_
    refine hT 22 hHeld ?_
    refine hCall (i := 23) rfl (by kernel_rfl) (by rfl) (fun K hK => ?_)
    go_simp
    refine (hct _ hP).mono ?_
    rintro e u1 ⟨rfl, hb1⟩
    replace hP := hP.below hb1
    replace E2 := E2.below hb1
    replace X1 := X1.below hb1
    replace X2 := X2.below hb1
    replace hbW : Below w.heap.size w u1 := hbW.trans (hb1.mono hbW.size)
    clear hb1
    clear p00 p01 p02 p03 p10 p11 p20 p21
    obtain ⟨p00, p01, p02, p03⟩ := E2.cells
    obtain ⟨p10, p11, _⟩ := X1.cells
    obtain ⟨p20, p21, _⟩ := X2.cells
    go_wp2_with fail
    refine hK.out _ _ ?_ (fun hHeld => ?_)
    · (try dsimp only)
      exact ⟨p00, p01, p02, p03, p10, p11, p20, p21⟩
    clear hK K
    try simp only [Act.put, List.setIfInBounds_toArray, List.set_cons_zero, List.set_cons_succ]
    refine hT 24 hHeld ?_
    refine hT 25 hHeld ?_
    refine wpAnyH_done (by kernel_rfl) ?_ _
    clear p00 p01 p02 p03 p10 p11 p20 p21 E2 X1 X2 hP hct
    go_wp2
    go_loopw [5] (fun i wr => ∃ j : Nat, j < l.length ∧ i = .int .i64 ((j : Int) + 1) ∧ (∀ i, i < j → i + 1 < l.length → (l.getD i (0, 0)).1 < (l.getD (i + 1) (0, 0)).1 ∧ (l.getD i (0, 0)).2 ≤ (l.getD (i + 1) (0, 0)).2) ∧ Below w.heap.size w wr) (fun i _ => l.length + 1 - (intOf i).toNat)
    case atStart => exact ⟨0, m4, rfl, (fun j hj => by omega), hbW⟩
    case round =>
      obtain ⟨j, hj, rfl, hno, hB⟩ := hrel
      by_cases hkn : j + 1 < l.length
      · obtain ⟨_, _, ea, hb, hT⟩ := HH.out.two hkn
        cases ea
        have T2 := hT.below hB
        have HNO2 : Hid (∀ i, i < j → i + 1 < l.length → (l.getD i (0, 0)).1 < (l.getD (i + 1) (0, 0)).1 ∧ (l.getD i (0, 0)).2 ≤ (l.getD (i + 1) (0, 0)).2) := hno
        have HRI : Hid (RiP l → (l.getD j (0, 0)).1 < (l.getD (j + 1) (0, 0)).1 ∧ (l.getD j (0, 0)).2 ≤ (l.getD (j + 1) (0, 0)).2) := fun hr => hr j hkn
        obtain ⟨s, hs⟩ : ∃ s, l.getD j (0, 0) = s := ⟨_, rfl⟩
        obtain ⟨t, ht⟩ : ∃ s, l.getD (j + 1) (0, 0) = s := ⟨_, rfl⟩
        rw [hs, ht] at T2 HRI
        have HST2 : Hid (l.getD j (0, 0) = s ∧ l.getD (j + 1) (0, 0) = t) := ⟨hs, ht⟩
        clear hs ht hno hT
        obtain ⟨x0, y0⟩ := s
        obtain ⟨x1, y1⟩ := t
        dsimp only at T2 HRI
        obtain ⟨d0, d1, d2, d3⟩ := T2.cells
        have hwr : IntKind.i64.wrap (j : Int) = j := wrapi64 (by omega) (by omega)
        have hj0 : (0 : Int) ≤ (j : Int) := by omega
        have hj1 : (0 : Int) ≤ (j : Int) + 1 := by omega
        have hj2 : (j : Int) < (l.length : Int) := by omega
        have hj3 : (j : Int) + 1 < (l.length : Int) := by omega
        clear T2
        by_cases hx : x1 ≤ x0
        · have HFN : Hid (frP l = false) := HNO.out (fun h => by have := (HRI.out h.2.2.2.2).1; omega)
          have gx : decide (x1 ≤ x0) = true := decide_eq_true hx
          go_wp2_with fail
          go_quiet (fail)
          go_wp2
          go_ret
          exact ⟨rt_bool HFN.out.symm, below_drewN hB _⟩
        have gx : decide (x1 ≤ x0) = false := decide_eq_false hx
        by_cases hy : y1 < y0
        · have HFN : Hid (frP l = false) := HNO.out (fun h => by have := (HRI.out h.2.2.2.2).2; omega)
          have gy : decide (y1 < y0) = true := decide_eq_true hy
          go_wp2_with fail
          go_quiet (fail)
          go_wp2
          go_ret
          exact ⟨rt_bool HFN.out.symm, below_drewN hB _⟩
        have gy : decide (y1 < y0) = false := decide_eq_false hy
        go_wp2_with fail
        go_quiet (fail)
        go_wp2
        go_roundw
        case rel =>
          refine ⟨j + 1, by omega, by go_num, fun i hi hi2 => ?_, below_drewN hB _⟩
          rcases Nat.lt_or_ge i j with h1 | h1
          · exact HNO2.out i h1 hi2
          · have : i = j := by omega
            rw [this, HST2.out.1, HST2.out.2]
            exact ⟨by omega, by omega⟩
        case measure => simp [intOf]; omega
      · have HFN : Hid (frP l = true) := HF.out.2 ⟨by omega, by simp, by simp, HMEM.out, fun i hi => hno i (by omega) hi⟩
        have g9 : ¬ (j : Int) + 1 < (l.length : Int) := by omega
        clear hno
        go_wp2
        go_ret
        exact ⟨rt_bool HFN.out.symm, hB⟩

end Go.Proofs.Ytdpafdeoepbhaaa

namespace Go.Proofs.Ytdpafdeoepbhaaa
open Go.RowKit Go.Maps
set_option linter.unusedSimpArgs false
set_option linter.unusedVariables false

theorem Ri.lenB {w : World} {a : Option Addr} {cap : Nat} {zs : List Int} (h : Ri w a cap zs) : zs.length ≤ 9223372036854775807 := by
  have h1 := h.2.1
  have h2 := h.2.2.1
  unfold maxLen at h2
  omega
theorem As.lenB {w : World} {a : Option Addr} {cap : Nat} {l : List Ax} (h : As w a cap l) : l.length ≤ 9223372036854775807 := by
  have h1 := h.1
  have h2 := h.2.1
  unfold maxLen at h2
  omega

set_option maxHeartbeats 1000000 in
set_option maxRecDepth 100000 in
theorem cfit_any (a : Option Addr) (cap : Nat) (l : List Ax) (b : Option Addr) (bc : Nat) (m : List (List Pr)) (w : World) (h : As w a cap l) (hm : Pzz w b bc m) :
    Calls Try.prog 9 #[.slice a l.length cap, .slice b m.length bc] w fun e w' => e = .returned (.bool (fiB l m)) ∧ Below w.heap.size w w' := by
  have k1 := h.lenB
  have k2 := hm.lenB
  have HH : Hid (As w a cap l) := h
  have HM : Hid (Pzz w b bc m) := hm
  clear h hm
  have HF : Hid (fiB l m = true ↔ frA l = true ∧ (m.length = 0 ∨ m.length = l.length) ∧ ∀ j, j < m.length → frP (m.getD j []) = true) := fiB_iff
  by_cases hn : 0 < m.length ∧ m.length ≠ l.length
  · obtain ⟨h0, h1⟩ := hn
    have g0 : (0 : Int) < (m.length : Int) := by omega
    have g1 : ((m.length : Int) != (l.length : Int)) = true := by simp; omega
    have HR : Hid (fiB l m = false) := by show fiB l m = false; rw [Bool.eq_false_iff]; intro e; have := (HF.out.1 e).2.1; omega
    generalize m.length = x at *
    generalize l.length = y at *
    go_enter Try.func9, Try.ntmps9
    go_wp2
    go_ret
    exact ⟨rt_bool HR.out.symm, Below.refl _ _⟩
  have HL : Hid (m.length = 0 ∨ m.length = l.length) := by show _ ∨ _; omega
  by_cases h0 : 0 < m.length
  · have g0 : (0 : Int) < (m.length : Int) := by omega
    have g1 : ((m.length : Int) != (l.length : Int)) = false := by
      have : m.length = l.length := by rcases HL.out with e | e <;> omega
      simp [this]
    clear hn
    go_enter Try.func9, Try.ntmps9
    go_wp2
    go_loopw [19] (fun i wr => ∃ k : Nat, k ≤ m.length ∧ i = .int .i64 k ∧ (∀ j, j < k → frP (m.getD j []) = true) ∧ Below w.heap.size w wr) (fun i _ => m.length - (intOf i).toNat)
    case atStart => exact ⟨0, Nat.zero_le _, rfl, (fun j hj => by omega), Below.refl _ _⟩
    case round =>
      obtain ⟨k, hk, rfl, hok, hB⟩ := hrel
      have HOK : Hid (∀ j, j < k → frP (m.getD j []) = true) := hok
      clear hok
      by_cases hkn : k < m.length
      · obtain ⟨b1, off, a1, c1, ea, _, d0, hp⟩ := HM.out.at hB k hkn
        subst ea
        obtain ⟨y, hy⟩ : ∃ y, m.getD k [] = y := ⟨_, rfl⟩
        rw [hy] at d0 hp
        have HY : Hid (m.getD k [] = y) := hy
        clear hy
        have hfo := cformP_any a1 c1 y wr hp
        cases hf : frP y with
        | false =>
          have HR : Hid (fiB l m = false) := by show fiB l m = false; rw [Bool.eq_false_iff]; intro e; have := (HF.out.1 e).2.2 k hkn; rw [HY.out, hf] at this; cases this
          rw [hf] at hfo
          clear hf hp
          go_wp2_with fail
          refine hfo.mono ?_
          rintro e u1 ⟨rfl, hb1⟩
          have hbW := hB.trans (hb1.mono hB.size)
          clear hfo hb1
          go_wp2
          go_ret
          exact ⟨rt_bool HR.out.symm, hbW⟩
        | true =>
          have HOK' : Hid (∀ j, j < k + 1 → frP (m.getD j []) = true) := by
            show ∀ j, j < k + 1 → frP (m.getD j []) = true
            intro j hj
            rcases Nat.lt_or_ge j k with h1 | h1
            · exact HOK.out j h1
            · rw [show j = k by omega, HY.out]; exact hf
          rw [hf] at hfo
          clear hf hp
          go_wp2_with fail
          refine hfo.mono ?_
          rintro e u1 ⟨rfl, hb1⟩
          have hbW := hB.trans (hb1.mono hB.size)
          clear hfo hb1
          go_wp2
          go_roundw
          case rel => exact ⟨k + 1, by omega, by go_num, HOK'.out, hbW⟩
          case measure => simp [intOf]; omega
      · obtain rfl : k = m.length := by omega
        have HR : Hid (frA l = fiB l m) := by
          show frA l = fiB l m
          rw [Bool.eq_iff_iff, HF.out]
          exact ⟨fun e => ⟨e, HL.out, HOK.out⟩, fun e => e.1⟩
        go_wp2_with fail
        refine (cformed_any a cap l _ (HH.out.below hB)).mono ?_
        rintro e u1 ⟨rfl, hb1⟩
        have hbW := hB.trans (hb1.mono hB.size)
        clear hb1
        go_wp2
        go_ret
        exact ⟨rt_bool HR.out, hbW⟩
  · have hm0 : m.length = 0 := by omega
    have g0 : ¬ (0 : Int) < (m.length : Int) := by omega
    have HR : Hid (frA l = fiB l m) := by
      show frA l = fiB l m
      rw [Bool.eq_iff_iff, HF.out]
      exact ⟨fun e => ⟨e, .inl hm0, fun j hj => by omega⟩, fun e => e.1⟩
    clear HF HL
    rw [hm0] at g0 ⊢
    clear hm0 h0 hn k2
    go_enter Try.func9, Try.ntmps9
    go_wp2
    go_loopw [19] (fun i wr => i = .int .i64 0 ∧ wr = w) (fun i _ => 0)
    case atStart => exact ⟨rfl, rfl⟩
    case round =>
      obtain ⟨rfl, rfl⟩ := hrel
      go_wp2_with fail
      refine (cformed_any a cap l _ HH.out).mono ?_
      rintro e u1 ⟨rfl, hb1⟩
      go_wp2
      go_ret
      exact ⟨rt_bool HR.out, hb1⟩

set_option maxHeartbeats 400000 in
set_option maxRecDepth 100000 in
theorem bendOf_any (b : Option Addr) (bc : Nat) (m : List (List Pr)) (k n : Nat) (w : World) (hm : Pzz w b bc m) (hk : k < n) (hl : m.length = 0 ∨ m.length = n) :
    Calls Try.prog 23 #[.slice b m.length bc, .int .i64 k] w fun e w' => ∃ a' cap', e = .returned (.slice a' (m.getD k []).length cap') ∧ Pz w' a' cap' (m.getD k []) ∧ Below w.heap.size w w' := by
  by_cases h0 : m.length = 0
  · obtain rfl := List.length_eq_zero_iff.1 h0
    clear h0 hl
    have hz := Pz.nil w none 0 (Nat.zero_le _)
    simp only [List.length_nil, List.getD_nil]
    go_enter Try.func23, Try.ntmps23
    go_wp2
    go_ret
    exact ⟨none, 0, rfl, hz, Below.refl _ _⟩
  · have hkn : k < m.length := by omega
    have g0 : ((m.length : Int) == 0) = false := beq_eq_false_iff_ne.2 (by omega)
    have k2 := hm.lenB
    obtain ⟨b1, off, a1, c1, ea, _, d0, hp⟩ := hm.at (Below.refl _ _) k hkn
    subst ea
    clear hm hl h0
    generalize m.getD k [] = y at *
    go_enter Try.func23, Try.ntmps23
    go_wp2
    go_ret
    exact ⟨a1, c1, rfl, hp, Below.refl _ _⟩

set_option maxHeartbeats 1000000 in
set_option maxRecDepth 100000 in
theorem cusual_any (a : Option Addr) (cap : Nat) (l : List Ax) (w : World) (h : As w a cap l) (hl : l.length ≤ 1000) :
    Calls Try.prog 11 #[.slice a l.length cap] w fun e w' => ∃ a' cap', e = .returned (.slice a' (usK l l.length).length cap') ∧ Ri w' a' cap' (usK l l.length) ∧ Below w.heap.size w w' := by
  obtain ⟨i0, hi0, hz0, hz1, hz2⟩ := info_parts infoA_i64
  obtain ⟨w1, hmk, hown, hgrow⟩ := run_makeSlice_owned w w.heap.size 27 3 i0 _ 1 Try.underlying27 hi0 hz0 hz1 .i64 .i64 l.length (by omega) (by rw [hz2]; omega) (by unfold maxLen; omega) (Nat.le_refl _)
  have hI0 : Io w.heap.size w1 (.slice (some ⟨w.heap.size, 0, none⟩) 0 l.length) (usK l 0) := ⟨fun t ht => (by simp [usK] at ht), by simpa [usK] using hown⟩
  have hB1 : Below w.heap.size w w1 := (Below.refl _ _).grown hgrow (Nat.le_refl _) (fun k hk => by cases hk)
  clear hown hgrow hi0 hz0 hz1 hz2
  have HH : Hid (As w a cap l) := h
  clear h
  go_enter Try.func11, Try.ntmps11
  go_wp2
  go_loopw [3, 11] (fun v i wr => ∃ k : Nat, k ≤ l.length ∧ i = .int .i64 k ∧ Io w.heap.size wr v (usK l k) ∧ Below w.heap.size w wr) (fun _ i _ => l.length - (intOf i).toNat)
  case atStart => exact ⟨0, Nat.zero_le _, rfl, hI0, hB1⟩
  case round =>
    obtain ⟨k, hk, rfl, hT, hB⟩ := hrel
    obtain ⟨a2, c2, rfl, hts⟩ := hT.slice
    have hlen := usK_len hk
    rw [hlen] at hT ⊢
    have hll : (usK l k).length + 1 ≤ 1000000 := by omega
    have HT : Hid (Io w.heap.size wr (.slice a2 k c2) (usK l k)) := hT
    clear hT hlen hmk hI0 hB1
    by_cases hkn : k < l.length
    · clear hts
      obtain ⟨b, off, ea, hb, d0, d1, d2, d3⟩ := HH.out.at hB k hkn
      subst ea
      have hw := HH.out.w hkn
      have HS : Hid (usK l (k + 1) = usK l k ++ [(l.getD k Ax.none).us]) := usK_succ hkn
      generalize l.getD k Ax.none = s at *
      obtain ⟨tx, lo, us, hi⟩ := s
      dsimp only at *
      have HI : Hid (I64 us) := hw.2.2.1
      clear hw
      have hT2 := HT.out.below (bl1 (.cells #[.string tx, .int .i64 lo, .int .i64 us, .int .i64 hi] 33))
      have hB2 : Below w.heap.size w (wr.alloc (.cells #[.string tx, .int .i64 lo, .int .i64 us, .int .i64 hi] 33)) := hB.alloc hB.size _
      have hT5 := hT2.below (bl1 (.cells #[.int .i64 us] 3))
      have hN := heap_alloc_new (wr.alloc (.cells #[.string tx, .int .i64 lo, .int .i64 us, .int .i64 hi] 33)) (.cells #[.int .i64 us] 3)
      rw [show (wr.alloc (.cells #[.string tx, .int .i64 lo, .int .i64 us, .int .i64 hi] 33)).heap.size = wr.heap.size + 1 by simp] at hN
      have n0 := cell_of_row _ (wr.heap.size + 1) 0 _ _ (0, 0) hN
      have hbs : w.heap.size ≤ ((wr.alloc (.cells #[.string tx, .int .i64 lo, .int .i64 us, .int .i64 hi] 33)).alloc (.cells #[.int .i64 us] 3)).heap.size := by have := hB2.size; simp at this ⊢; omega
      clear hN
      go_wp2_with (at_builtin; refine wpList_append_int rfl _ _ rfl w.heap.size _ (usK l k) rfl hT5 (wr.heap.size + 1) us rfl n0 HI.out hll hbs ?_)
      intro v' w9 hT9 hgrow
      have hB9 : Below w.heap.size w w9 := (hB2.alloc hB2.size _).grown hgrow hbs (fun k hk => HT.out.lo hk)
      rw [← HS.out] at hT9
      clear hgrow hT5 n0 hbs
      go_wp2
      go_roundw
      case rel => exact ⟨k + 1, by omega, by go_num, hT9, hB9⟩
      case measure => simp [intOf]; omega
    · obtain rfl : k = l.length := by omega
      go_wp2
      go_ret
      exact ⟨a2, c2, by rw [usK_len (Nat.le_refl _)]; rfl, hts, hB⟩

end Go.Proofs.Ytdpafdeoepbhaaa
