/-
  bend.Formed: the walk.
-/
import Derived.Test.YtdholmnniccbcaaGreatDoorZ11
namespace Go.Proofs.YtdholmnniccbcaaGreatDoor
open Go.RowKit Go.Maps
set_option linter.unusedSimpArgs false
set_option linter.unusedVariables false

/-- The first and the last of pairs. -/
def EndP (w : World) (b off m : Nat) (x0 y0 x1 y1 : Int) : Prop :=
  b < w.heap.size ∧ w.cell? ⟨b, off, none⟩ = some (.int .i64 x0) ∧ w.cell? ⟨b, off + 1, none⟩ = some (.int .i64 y0) ∧ w.cell? ⟨b, off + m * 2, none⟩ = some (.int .i64 x1) ∧ w.cell? ⟨b, off + m * 2 + 1, none⟩ = some (.int .i64 y1)
theorem EndP.cells {w : World} {b off m : Nat} {x0 y0 x1 y1 : Int} (h : EndP w b off m x0 y0 x1 y1) : w.cell? ⟨b, off, none⟩ = some (.int .i64 x0) ∧ w.cell? ⟨b, off + 1, none⟩ = some (.int .i64 y0) ∧ w.cell? ⟨b, off + m * 2, none⟩ = some (.int .i64 x1) ∧ w.cell? ⟨b, off + m * 2 + 1, none⟩ = some (.int .i64 y1) := h.2
theorem EndP.below {w w' : World} {b off m : Nat} {x0 y0 x1 y1 : Int} (h : EndP w b off m x0 y0 x1 y1) (hb : Below w.heap.size w w') : EndP w' b off m x0 y0 x1 y1 := by
  obtain ⟨h0, h1, h2, h3, h4⟩ := h
  exact ⟨Nat.lt_of_lt_of_le h0 hb.size, (hb.cell (p := ⟨b, off, none⟩) h0).trans h1, (hb.cell (p := ⟨b, off + 1, none⟩) h0).trans h2, (hb.cell (p := ⟨b, off + m * 2, none⟩) h0).trans h3, (hb.cell (p := ⟨b, off + m * 2 + 1, none⟩) h0).trans h4⟩
theorem Pz.ends {w : World} {a : Option Addr} {cap : Nat} {l : List Pr} (h : Pz w a cap l) {m : Nat} (hm : m + 1 = l.length) : ∃ b off, a = some ⟨b, off, none⟩ ∧ EndP w b off m (l.getD 0 (0, 0)).1 (l.getD 0 (0, 0)).2 (l.getD m (0, 0)).1 (l.getD m (0, 0)).2 := by
  obtain ⟨b, off, ea, hb, d0, d1⟩ := h.2.2.2 0 (by omega)
  obtain ⟨_, _, ea2, _, c0, c1⟩ := h.2.2.2 m (by omega)
  rw [ea] at ea2
  cases ea2
  rw [Nat.zero_mul, Nat.add_zero] at d0 d1
  exact ⟨b, off, ea, hb, d0, d1, c0, c1⟩

set_option maxHeartbeats 4000000 in
set_option maxRecDepth 100000 in
theorem cformP_any (a : Option Addr) (cap : Nat) (l : List Pr) (w : World) (h : Pz w a cap l) :
    Calls Tryz.prog 8 #[.slice a l.length cap] w fun e w' => e = .returned (.bool (frP l)) ∧ Below w.heap.size w w' := by
  have k1 := h.1
  have k2 := h.2.1
  unfold maxLen at k2
  by_cases h0 : l.length = 0
  · have g0 : ((l.length : Int) == 0) = true := by simp [h0]
    have HFN : Hid (frP l = true) := frP_iff.2 (.inl h0)
    clear h0
    go_enter Tryz.func8, Tryz.ntmps8
    go_wp2
    go_ret
    exact ⟨rt_bool HFN.out.symm, Below.refl _ _⟩
  have g0 : ((l.length : Int) == 0) = false := by simp; intro e; exact h0 (by rw [e]; rfl)
  obtain ⟨m, hm⟩ : ∃ m, m + 1 = l.length := ⟨l.length - 1, by omega⟩
  obtain ⟨b, off, ea, E2⟩ := h.ends hm
  subst ea
  have HF : Hid (frP l = true ↔ l.length ≤ 16 ∧ l.getD 0 (0, 0) = (-16384, -16384) ∧ l.getD m (0, 0) = (16384, 16384) ∧ (0, 0) ∈ l ∧ RiP l) := by
    show _ ↔ _
    rw [frP_iff, FrP, FpP, show l.length - 1 = m by omega]
    constructor
    · rintro (h1 | h1)
      · exact absurd h1 h0
      · exact h1.2
    · intro h1
      exact .inr ⟨by omega, h1⟩
  have HNO : Hid (¬ (l.length ≤ 16 ∧ l.getD 0 (0, 0) = (-16384, -16384) ∧ l.getD m (0, 0) = (16384, 16384) ∧ (0, 0) ∈ l ∧ RiP l) → frP l = false) := fun hn => Bool.eq_false_iff.2 (fun e => hn (HF.out.1 e))
  obtain ⟨s, hs⟩ : ∃ s, l.getD 0 (0, 0) = s := ⟨_, rfl⟩
  obtain ⟨t, ht⟩ : ∃ s, l.getD m (0, 0) = s := ⟨_, rfl⟩
  rw [hs, ht] at E2 HF HNO
  have HST : Hid (l.getD 0 (0, 0) = s ∧ l.getD m (0, 0) = t) := ⟨hs, ht⟩
  obtain ⟨x0, y0⟩ := s
  obtain ⟨x1, y1⟩ := t
  dsimp only at E2
  have hP := h
  have HH : Hid (Pz w (some ⟨b, off, none⟩) cap l) := h
  have HM : Hid (m + 1 = l.length) := hm
  have m1 : (0 : Int) ≤ (m : Int) := by omega
  have m2 : (m : Int) < (l.length : Int) := by omega
  have m3 : m < l.length := by omega
  have m4 : 0 < l.length := by omega
  have m5 : IntKind.i64.wrap ((l.length : Int) - 1) = (m : Int) := by rw [wrapi64 (by omega) (by omega)]; omega
  clear hs ht h0 hm h
  by_cases hn : 16 < l.length
  · have g1 : (16 : Int) < (l.length : Int) := by omega
    have HFN : Hid (frP l = false) := HNO.out (fun h => by have := h.1; omega)
    go_enter Tryz.func8, Tryz.ntmps8
    go_wp2_with fail
    refine (ends_any _).mono ?_
    rintro e u0 ⟨rfl, hbu⟩
    replace E2 := E2.below hbu
    replace hP := hP.below hbu
    go_wp2_with fail
    obtain ⟨W, hW, X1, X2, hb9⟩ : ∃ W, W = (u0.alloc (.cells #[.int .i64 (-16384), .int .i64 (-16384)] 49)).alloc (.cells #[.int .i64 16384, .int .i64 16384] 49) ∧ BxP W u0.heap.size (.int .i64 (-16384)) (.int .i64 (-16384)) ∧ BxP W (u0.heap.size + 1) (.int .i64 16384) (.int .i64 16384) ∧ Below u0.heap.size u0 W := ⟨_, rfl, (BxP.new u0 _ _).below (bl1 _), BxP.new1 u0 _ _ _, bl2 _ _⟩
    rw [← hW]
    clear hW
    replace E2 := E2.below hb9
    replace hP := hP.below hb9
    have hbW : Below w.heap.size w W := hbu.trans (hb9.mono hbu.size)
    clear hb9
    obtain ⟨p00, p01, p02, p03⟩ := E2.cells
    obtain ⟨p10, p11, _⟩ := X1.cells
    obtain ⟨p20, p21, _⟩ := X2.cells
    refine wp_region_held_drew (S := (fun u => u.cell? ⟨b, off, none⟩ = some (.int .i64 x0) ∧ u.cell? ⟨b, (off + 1), none⟩ = some (.int .i64 y0) ∧ u.cell? ⟨b, (off + m * 2), none⟩ = some (.int .i64 x1) ∧ u.cell? ⟨b, (off + m * 2 + 1), none⟩ = some (.int .i64 y1) ∧ u.cell? ⟨u0.heap.size, 0, none⟩ = some (.int .i64 (-16384)) ∧ u.cell? ⟨u0.heap.size, 1, none⟩ = some (.int .i64 (-16384)) ∧ u.cell? ⟨(u0.heap.size + 1), 0, none⟩ = some (.int .i64 16384) ∧ u.cell? ⟨(u0.heap.size + 1), 1, none⟩ = some (.int .i64 16384))) (by kernel_rfl) ?_ (fun hHeld => ?_)
    · (try dsimp only)
      go_keep
    have hdr : Below W.heap.size W W.drew := Below.drew1
    generalize W.drew = ud11 at hdr hHeld ⊢
    replace hP := hP.below hdr
    replace E2 := E2.below hdr
    replace X1 := X1.below hdr
    replace X2 := X2.below hdr
    replace hbW : Below w.heap.size w ud11 := hbW.trans (hdr.mono hbW.size)
    clear hdr
    clear p00 p01 p02 p03 p10 p11 p20 p21
    obtain ⟨p00, p01, p02, p03⟩ := E2.cells
    obtain ⟨p10, p11, _⟩ := X1.cells
    obtain ⟨p20, p21, _⟩ := X2.cells
    refine hTake (i := 0) (v := ?v12) rfl (by kernel_rfl) (by kernel_rfl) (by kernel_rfl) (fun _ _ _ h => h) (Or.inl ⟨by rfl, ?y12⟩) hHeld ?r12
    case y12 =>
      intro w9 hSw
      (try dsimp only at hSw)
      go_simp
      try with_reducible rfl
    try simp only [Act.put, List.setIfInBounds_toArray, List.set_cons_zero, List.set_cons_succ]
    refine hTake (i := 1) (v := ?v13) rfl (by kernel_rfl) (by kernel_rfl) (by kernel_rfl) (fun _ _ _ h => h) (Or.inl ⟨by rfl, ?y13⟩) hHeld ?r13
    case y13 =>
      intro w9 hSw
      (try dsimp only at hSw)
      go_simp
      try with_reducible rfl
    try simp only [Act.put, List.setIfInBounds_toArray, List.set_cons_zero, List.set_cons_succ]
    refine hTake (i := 2) (v := ?v14) rfl (by kernel_rfl) (by kernel_rfl) (by kernel_rfl) (fun _ _ _ h => h) (Or.inl ⟨by rfl, ?y14⟩) hHeld ?r14
    case y14 =>
      intro w9 hSw
      (try dsimp only at hSw)
      go_simp
      try with_reducible rfl
    try simp only [Act.put, List.setIfInBounds_toArray, List.set_cons_zero, List.set_cons_succ]
    refine hTake (i := 3) (v := ?v15) rfl (by kernel_rfl) (by kernel_rfl) (by kernel_rfl) (fun _ _ _ h => h) (Or.inl ⟨by rfl, ?y15⟩) hHeld ?r15
    case y15 =>
      intro w9 hSw
      (try dsimp only at hSw)
      go_simp
      try with_reducible rfl
    try simp only [Act.put, List.setIfInBounds_toArray, List.set_cons_zero, List.set_cons_succ]
    refine hTake (i := 4) (v := undef) rfl (by kernel_rfl) (by kernel_rfl) (by kernel_rfl) (fun _ _ _ h => h) (Or.inr ⟨by rfl, rfl⟩) hHeld ?_
    try simp only [Act.put, List.setIfInBounds_toArray, List.set_cons_zero, List.set_cons_succ]
    refine hTake (i := 5) (v := undef) rfl (by kernel_rfl) (by kernel_rfl) (by kernel_rfl) (fun _ _ _ h => h) (Or.inr ⟨by rfl, rfl⟩) hHeld ?_
    try simp only [Act.put, List.setIfInBounds_toArray, List.set_cons_zero, List.set_cons_succ]
    refine hTake (i := 6) (v := undef) rfl (by kernel_rfl) (by kernel_rfl) (by kernel_rfl) (fun _ _ _ h => h) (Or.inr ⟨by rfl, rfl⟩) hHeld ?_
    try simp only [Act.put, List.setIfInBounds_toArray, List.set_cons_zero, List.set_cons_succ]
    refine hTake (i := 7) (v := undef) rfl (by kernel_rfl) (by kernel_rfl) (by kernel_rfl) (fun _ _ _ h => h) (Or.inr ⟨by rfl, rfl⟩) hHeld ?_
    try simp only [Act.put, List.setIfInBounds_toArray, List.set_cons_zero, List.set_cons_succ]
    refine hTake (i := 8) (v := undef) rfl (by kernel_rfl) (by kernel_rfl) (by kernel_rfl) (fun _ _ _ h => h) (Or.inr ⟨by rfl, rfl⟩) hHeld ?_
    try simp only [Act.put, List.setIfInBounds_toArray, List.set_cons_zero, List.set_cons_succ]
    refine hTake (i := 9) (v := ?v16) rfl (by kernel_rfl) (by kernel_rfl) (by kernel_rfl) (fun _ _ _ h => h) (Or.inl ⟨by rfl, ?y16⟩) hHeld ?r16
    case y16 =>
      intro w9 hSw
      (try dsimp only at hSw)
      go_simp
      try with_reducible rfl
    try simp only [Act.put, List.setIfInBounds_toArray, List.set_cons_zero, List.set_cons_succ]
    refine hTake (i := 10) (v := ?v17) rfl (by kernel_rfl) (by kernel_rfl) (by kernel_rfl) (fun _ _ _ h => h) (Or.inl ⟨by rfl, ?y17⟩) hHeld ?r17
    case y17 =>
      intro w9 hSw
      (try dsimp only at hSw)
      go_simp
      try with_reducible rfl
    try simp only [Act.put, List.setIfInBounds_toArray, List.set_cons_zero, List.set_cons_succ]
    refine hTake (i := 11) (v := undef) rfl (by kernel_rfl) (by kernel_rfl) (by kernel_rfl) (fun _ _ _ h => h) (Or.inr ⟨by rfl, rfl⟩) hHeld ?_
    try simp only [Act.put, List.setIfInBounds_toArray, List.set_cons_zero, List.set_cons_succ]
    refine hTake (i := 12) (v := undef) rfl (by kernel_rfl) (by kernel_rfl) (by kernel_rfl) (fun _ _ _ h => h) (Or.inr ⟨by rfl, rfl⟩) hHeld ?_
    try simp only [Act.put, List.setIfInBounds_toArray, List.set_cons_zero, List.set_cons_succ]
    refine hTake (i := 13) (v := undef) rfl (by kernel_rfl) (by kernel_rfl) (by kernel_rfl) (fun _ _ _ h => h) (Or.inr ⟨by rfl, rfl⟩) hHeld ?_
    try simp only [Act.put, List.setIfInBounds_toArray, List.set_cons_zero, List.set_cons_succ]
    refine hTake (i := 14) (v := undef) rfl (by kernel_rfl) (by kernel_rfl) (by kernel_rfl) (fun _ _ _ h => h) (Or.inr ⟨by rfl, rfl⟩) hHeld ?_
    try simp only [Act.put, List.setIfInBounds_toArray, List.set_cons_zero, List.set_cons_succ]
    refine hTake (i := 15) (v := undef) rfl (by kernel_rfl) (by kernel_rfl) (by kernel_rfl) (fun _ _ _ h => h) (Or.inr ⟨by rfl, rfl⟩) hHeld ?_
    try simp only [Act.put, List.setIfInBounds_toArray, List.set_cons_zero, List.set_cons_succ]
    refine hTake (i := 16) (v := undef) rfl (by kernel_rfl) (by kernel_rfl) (by kernel_rfl) (fun _ _ _ h => h) (Or.inr ⟨by rfl, rfl⟩) hHeld ?_
    try simp only [Act.put, List.setIfInBounds_toArray, List.set_cons_zero, List.set_cons_succ]
    refine hTake (i := 17) (v := undef) rfl (by kernel_rfl) (by kernel_rfl) (by kernel_rfl) (fun _ _ _ h => h) (Or.inr ⟨by rfl, rfl⟩) hHeld ?_
    try simp only [Act.put, List.setIfInBounds_toArray, List.set_cons_zero, List.set_cons_succ]
    refine hTake (i := 18) (v := undef) rfl (by kernel_rfl) (by kernel_rfl) (by kernel_rfl) (fun _ _ _ h => h) (Or.inr ⟨by rfl, rfl⟩) hHeld ?_
    try simp only [Act.put, List.setIfInBounds_toArray, List.set_cons_zero, List.set_cons_succ]
    refine hTake (i := 19) (v := ?v18) rfl (by kernel_rfl) (by kernel_rfl) (by kernel_rfl) (fun _ _ _ h => h) (Or.inl ⟨by rfl, ?y18⟩) hHeld ?r18
    case y18 =>
      intro w9 hSw
      (try dsimp only at hSw)
      go_simp
      try with_reducible rfl
    try simp only [Act.put, List.setIfInBounds_toArray, List.set_cons_zero, List.set_cons_succ]
    refine hTake (i := 20) (v := ?v19) rfl (by kernel_rfl) (by kernel_rfl) (by kernel_rfl) (fun _ _ _ h => h) (Or.inl ⟨by rfl, ?y19⟩) hHeld ?r19
    case y19 =>
      intro w9 hSw
      (try dsimp only at hSw)
      go_simp
      try with_reducible rfl
    try simp only [Act.put, List.setIfInBounds_toArray, List.set_cons_zero, List.set_cons_succ]
    refine hTake (i := 21) (v := undef) rfl (by kernel_rfl) (by kernel_rfl) (by kernel_rfl) (fun _ _ _ h => h) (Or.inr ⟨by rfl, rfl⟩) hHeld ?_
    try simp only [Act.put, List.setIfInBounds_toArray, List.set_cons_zero, List.set_cons_succ]
    refine hTake (i := 22) (v := undef) rfl (by kernel_rfl) (by kernel_rfl) (by kernel_rfl) (fun _ _ _ h => h) (Or.inr ⟨by rfl, rfl⟩) hHeld ?_
    try simp only [Act.put, List.setIfInBounds_toArray, List.set_cons_zero, List.set_cons_succ]
    refine hTake (i := 23) (v := undef) rfl (by kernel_rfl) (by kernel_rfl) (by kernel_rfl) (fun _ _ _ h => h) (Or.inr ⟨by rfl, rfl⟩) hHeld ?_
    try simp only [Act.put, List.setIfInBounds_toArray, List.set_cons_zero, List.set_cons_succ]
    refine hTake (i := 24) (v := undef) rfl (by kernel_rfl) (by kernel_rfl) (by kernel_rfl) (fun _ _ _ h => h) (Or.inr ⟨by rfl, rfl⟩) hHeld ?_
    try simp only [Act.put, List.setIfInBounds_toArray, List.set_cons_zero, List.set_cons_succ]
    refine hTake (i := 25) (v := ?v20) rfl (by kernel_rfl) (by kernel_rfl) (by kernel_rfl) (fun _ _ _ h => h) (Or.inl ⟨by rfl, ?y20⟩) hHeld ?r20
    case y20 =>
      intro w9 hSw
      (try dsimp only at hSw)
      go_simp
      try with_reducible rfl
    try simp only [Act.put, List.setIfInBounds_toArray, List.set_cons_zero, List.set_cons_succ]
    refine wpAnyH_done (by kernel_rfl) ?_ _
    go_wp2
    go_ret
    exact ⟨rt_bool HFN.out.symm, hbW⟩
  have g1 : ¬ (16 : Int) < (l.length : Int) := by omega
  have gd : decide ((16 : Int) < (l.length : Int)) = false := decide_eq_false g1
  by_cases hx0 : x0 = -16384
  rotate_left
  · have HFN : Hid (frP l = false) := HNO.out (fun h => hx0 (by have := h.2.1; cases this; rfl))
    go_enter Tryz.func8, Tryz.ntmps8
    go_wp2_with fail
    refine (ends_any _).mono ?_
    rintro e u0 ⟨rfl, hbu⟩
    replace E2 := E2.below hbu
    replace hP := hP.below hbu
    go_wp2_with fail
    obtain ⟨W, hW, X1, X2, hb9⟩ : ∃ W, W = (u0.alloc (.cells #[.int .i64 (-16384), .int .i64 (-16384)] 49)).alloc (.cells #[.int .i64 16384, .int .i64 16384] 49) ∧ BxP W u0.heap.size (.int .i64 (-16384)) (.int .i64 (-16384)) ∧ BxP W (u0.heap.size + 1) (.int .i64 16384) (.int .i64 16384) ∧ Below u0.heap.size u0 W := ⟨_, rfl, (BxP.new u0 _ _).below (bl1 _), BxP.new1 u0 _ _ _, bl2 _ _⟩
    rw [← hW]
    clear hW
    replace E2 := E2.below hb9
    replace hP := hP.below hb9
    have hbW : Below w.heap.size w W := hbu.trans (hb9.mono hbu.size)
    clear hb9
    obtain ⟨p00, p01, p02, p03⟩ := E2.cells
    obtain ⟨p10, p11, _⟩ := X1.cells
    obtain ⟨p20, p21, _⟩ := X2.cells
    refine wp_region_held_drew (S := (fun u => u.cell? ⟨b, off, none⟩ = some (.int .i64 x0) ∧ u.cell? ⟨b, (off + 1), none⟩ = some (.int .i64 y0) ∧ u.cell? ⟨b, (off + m * 2), none⟩ = some (.int .i64 x1) ∧ u.cell? ⟨b, (off + m * 2 + 1), none⟩ = some (.int .i64 y1) ∧ u.cell? ⟨u0.heap.size, 0, none⟩ = some (.int .i64 (-16384)) ∧ u.cell? ⟨u0.heap.size, 1, none⟩ = some (.int .i64 (-16384)) ∧ u.cell? ⟨(u0.heap.size + 1), 0, none⟩ = some (.int .i64 16384) ∧ u.cell? ⟨(u0.heap.size + 1), 1, none⟩ = some (.int .i64 16384))) (by kernel_rfl) ?_ (fun hHeld => ?_)
    · (try dsimp only)
      go_keep
    have hdr : Below W.heap.size W W.drew := Below.drew1
    generalize W.drew = ud21 at hdr hHeld ⊢
    replace hP := hP.below hdr
    replace E2 := E2.below hdr
    replace X1 := X1.below hdr
    replace X2 := X2.below hdr
    replace hbW : Below w.heap.size w ud21 := hbW.trans (hdr.mono hbW.size)
    clear hdr
    clear p00 p01 p02 p03 p10 p11 p20 p21
    obtain ⟨p00, p01, p02, p03⟩ := E2.cells
    obtain ⟨p10, p11, _⟩ := X1.cells
    obtain ⟨p20, p21, _⟩ := X2.cells
    refine hTake (i := 0) (v := ?v22) rfl (by kernel_rfl) (by kernel_rfl) (by kernel_rfl) (fun _ _ _ h => h) (Or.inl ⟨by rfl, ?y22⟩) hHeld ?r22
    case y22 =>
      intro w9 hSw
      (try dsimp only at hSw)
      go_simp
      try with_reducible rfl
    try simp only [Act.put, List.setIfInBounds_toArray, List.set_cons_zero, List.set_cons_succ]
    refine hTake (i := 1) (v := ?v23) rfl (by kernel_rfl) (by kernel_rfl) (by kernel_rfl) (fun _ _ _ h => h) (Or.inl ⟨by rfl, ?y23⟩) hHeld ?r23
    case y23 =>
      intro w9 hSw
      (try dsimp only at hSw)
      go_simp
      try with_reducible rfl
    try simp only [Act.put, List.setIfInBounds_toArray, List.set_cons_zero, List.set_cons_succ]
    refine hTake (i := 2) (v := ?v24) rfl (by kernel_rfl) (by kernel_rfl) (by kernel_rfl) (fun _ _ _ h => h) (Or.inl ⟨by rfl, ?y24⟩) hHeld ?r24
    case y24 =>
      intro w9 hSw
      (try dsimp only at hSw)
      go_simp
      try with_reducible rfl
    try simp only [Act.put, List.setIfInBounds_toArray, List.set_cons_zero, List.set_cons_succ]
    refine hTake (i := 3) (v := ?v25) rfl (by kernel_rfl) (by kernel_rfl) (by kernel_rfl) (fun _ _ _ h => h) (Or.inl ⟨by rfl, ?y25⟩) hHeld ?r25
    case y25 =>
      intro w9 hSw
      (try dsimp only at hSw)
      go_simp
      try with_reducible rfl
    try simp only [Act.put, List.setIfInBounds_toArray, List.set_cons_zero, List.set_cons_succ]
    refine hTake (i := 4) (v := ?v26) rfl (by kernel_rfl) (by kernel_rfl) (by kernel_rfl) (fun _ _ _ h => h) (Or.inl ⟨by rfl, ?y26⟩) hHeld ?r26
    case y26 =>
      intro w9 hSw
      (try dsimp only at hSw)
      go_simp
      try with_reducible rfl
    try simp only [Act.put, List.setIfInBounds_toArray, List.set_cons_zero, List.set_cons_succ]
    refine hTake (i := 5) (v := ?v27) rfl (by kernel_rfl) (by kernel_rfl) (by kernel_rfl) (fun _ _ _ h => h) (Or.inl ⟨by rfl, ?y27⟩) hHeld ?r27
    case y27 =>
      intro w9 hSw
      (try dsimp only at hSw)
      go_simp
      try with_reducible rfl
    try simp only [Act.put, List.setIfInBounds_toArray, List.set_cons_zero, List.set_cons_succ]
    refine hTake (i := 6) (v := ?v28) rfl (by kernel_rfl) (by kernel_rfl) (by kernel_rfl) (fun _ _ _ h => h) (Or.inl ⟨by rfl, ?y28⟩) hHeld ?r28
    case y28 =>
      intro w9 hSw
      (try dsimp only at hSw)
      go_simp
      try with_reducible rfl
    try simp only [Act.put, List.setIfInBounds_toArray, List.set_cons_zero, List.set_cons_succ]
    refine hTake (i := 7) (v := ?v29) rfl (by kernel_rfl) (by kernel_rfl) (by kernel_rfl) (fun _ _ _ h => h) (Or.inl ⟨by rfl, ?y29⟩) hHeld ?r29
    case y29 =>
      intro w9 hSw
      (try dsimp only at hSw)
      go_simp
      try with_reducible rfl
    try simp only [Act.put, List.setIfInBounds_toArray, List.set_cons_zero, List.set_cons_succ]
    refine hTake (i := 8) (v := ?v30) rfl (by kernel_rfl) (by kernel_rfl) (by kernel_rfl) (fun _ _ _ h => h) (Or.inl ⟨by rfl, ?y30⟩) hHeld ?r30
    case y30 =>
      intro w9 hSw
      (try dsimp only at hSw)
      go_simp
      try with_reducible rfl
    try simp only [Act.put, List.setIfInBounds_toArray, List.set_cons_zero, List.set_cons_succ]
    refine hTake (i := 9) (v := ?v31) rfl (by kernel_rfl) (by kernel_rfl) (by kernel_rfl) (fun _ _ _ h => h) (Or.inl ⟨by rfl, ?y31⟩) hHeld ?r31
    case y31 =>
      intro w9 hSw
      (try dsimp only at hSw)
      go_simp
      try with_reducible rfl
    try simp only [Act.put, List.setIfInBounds_toArray, List.set_cons_zero, List.set_cons_succ]
    refine hTake (i := 10) (v := ?v32) rfl (by kernel_rfl) (by kernel_rfl) (by kernel_rfl) (fun _ _ _ h => h) (Or.inl ⟨by rfl, ?y32⟩) hHeld ?r32
    case y32 =>
      intro w9 hSw
      (try dsimp only at hSw)
      go_simp
      try with_reducible rfl
    try simp only [Act.put, List.setIfInBounds_toArray, List.set_cons_zero, List.set_cons_succ]
    refine hTake (i := 11) (v := undef) rfl (by kernel_rfl) (by kernel_rfl) (by kernel_rfl) (fun _ _ _ h => h) (Or.inr ⟨by rfl, rfl⟩) hHeld ?_
    try simp only [Act.put, List.setIfInBounds_toArray, List.set_cons_zero, List.set_cons_succ]
    refine hTake (i := 12) (v := undef) rfl (by kernel_rfl) (by kernel_rfl) (by kernel_rfl) (fun _ _ _ h => h) (Or.inr ⟨by rfl, rfl⟩) hHeld ?_
    try simp only [Act.put, List.setIfInBounds_toArray, List.set_cons_zero, List.set_cons_succ]
    refine hTake (i := 13) (v := undef) rfl (by kernel_rfl) (by kernel_rfl) (by kernel_rfl) (fun _ _ _ h => h) (Or.inr ⟨by rfl, rfl⟩) hHeld ?_
    try simp only [Act.put, List.setIfInBounds_toArray, List.set_cons_zero, List.set_cons_succ]
    refine hTake (i := 14) (v := undef) rfl (by kernel_rfl) (by kernel_rfl) (by kernel_rfl) (fun _ _ _ h => h) (Or.inr ⟨by rfl, rfl⟩) hHeld ?_
    try simp only [Act.put, List.setIfInBounds_toArray, List.set_cons_zero, List.set_cons_succ]
    refine hTake (i := 15) (v := undef) rfl (by kernel_rfl) (by kernel_rfl) (by kernel_rfl) (fun _ _ _ h => h) (Or.inr ⟨by rfl, rfl⟩) hHeld ?_
    try simp only [Act.put, List.setIfInBounds_toArray, List.set_cons_zero, List.set_cons_succ]
    refine hTake (i := 16) (v := undef) rfl (by kernel_rfl) (by kernel_rfl) (by kernel_rfl) (fun _ _ _ h => h) (Or.inr ⟨by rfl, rfl⟩) hHeld ?_
    try simp only [Act.put, List.setIfInBounds_toArray, List.set_cons_zero, List.set_cons_succ]
    refine hTake (i := 17) (v := undef) rfl (by kernel_rfl) (by kernel_rfl) (by kernel_rfl) (fun _ _ _ h => h) (Or.inr ⟨by rfl, rfl⟩) hHeld ?_
    try simp only [Act.put, List.setIfInBounds_toArray, List.set_cons_zero, List.set_cons_succ]
    refine hTake (i := 18) (v := undef) rfl (by kernel_rfl) (by kernel_rfl) (by kernel_rfl) (fun _ _ _ h => h) (Or.inr ⟨by rfl, rfl⟩) hHeld ?_
    try simp only [Act.put, List.setIfInBounds_toArray, List.set_cons_zero, List.set_cons_succ]
    refine hTake (i := 19) (v := ?v33) rfl (by kernel_rfl) (by kernel_rfl) (by kernel_rfl) (fun _ _ _ h => h) (Or.inl ⟨by rfl, ?y33⟩) hHeld ?r33
    case y33 =>
      intro w9 hSw
      (try dsimp only at hSw)
      go_simp
      try with_reducible rfl
    try simp only [Act.put, List.setIfInBounds_toArray, List.set_cons_zero, List.set_cons_succ]
    refine hTake (i := 20) (v := ?v34) rfl (by kernel_rfl) (by kernel_rfl) (by kernel_rfl) (fun _ _ _ h => h) (Or.inl ⟨by rfl, ?y34⟩) hHeld ?r34
    case y34 =>
      intro w9 hSw
      (try dsimp only at hSw)
      go_simp
      try with_reducible rfl
    try simp only [Act.put, List.setIfInBounds_toArray, List.set_cons_zero, List.set_cons_succ]
    refine hTake (i := 21) (v := undef) rfl (by kernel_rfl) (by kernel_rfl) (by kernel_rfl) (fun _ _ _ h => h) (Or.inr ⟨by rfl, rfl⟩) hHeld ?_
    try simp only [Act.put, List.setIfInBounds_toArray, List.set_cons_zero, List.set_cons_succ]
    refine hTake (i := 22) (v := undef) rfl (by kernel_rfl) (by kernel_rfl) (by kernel_rfl) (fun _ _ _ h => h) (Or.inr ⟨by rfl, rfl⟩) hHeld ?_
    try simp only [Act.put, List.setIfInBounds_toArray, List.set_cons_zero, List.set_cons_succ]
    refine hTake (i := 23) (v := undef) rfl (by kernel_rfl) (by kernel_rfl) (by kernel_rfl) (fun _ _ _ h => h) (Or.inr ⟨by rfl, rfl⟩) hHeld ?_
    try simp only [Act.put, List.setIfInBounds_toArray, List.set_cons_zero, List.set_cons_succ]
    refine hTake (i := 24) (v := undef) rfl (by kernel_rfl) (by kernel_rfl) (by kernel_rfl) (fun _ _ _ h => h) (Or.inr ⟨by rfl, rfl⟩) hHeld ?_
    try simp only [Act.put, List.setIfInBounds_toArray, List.set_cons_zero, List.set_cons_succ]
    refine hTake (i := 25) (v := ?v35) rfl (by kernel_rfl) (by kernel_rfl) (by kernel_rfl) (fun _ _ _ h => h) (Or.inl ⟨by rfl, ?y35⟩) hHeld ?r35
    case y35 =>
      intro w9 hSw
      (try dsimp only at hSw)
      go_simp
      try with_reducible rfl
    try simp only [Act.put, List.setIfInBounds_toArray, List.set_cons_zero, List.set_cons_succ]
    refine wpAnyH_done (by kernel_rfl) ?_ _
    go_wp2
    go_ret
    exact ⟨rt_bool HFN.out.symm, hbW⟩
  subst hx0
  by_cases hy0 : y0 = -16384
  rotate_left
  · have HFN : Hid (frP l = false) := HNO.out (fun h => hy0 (by have := h.2.1; cases this; rfl))
    go_enter Tryz.func8, Tryz.ntmps8
    go_wp2_with fail
    refine (ends_any _).mono ?_
    rintro e u0 ⟨rfl, hbu⟩
    replace E2 := E2.below hbu
    replace hP := hP.below hbu
    go_wp2_with fail
    obtain ⟨W, hW, X1, X2, hb9⟩ : ∃ W, W = (u0.alloc (.cells #[.int .i64 (-16384), .int .i64 (-16384)] 49)).alloc (.cells #[.int .i64 16384, .int .i64 16384] 49) ∧ BxP W u0.heap.size (.int .i64 (-16384)) (.int .i64 (-16384)) ∧ BxP W (u0.heap.size + 1) (.int .i64 16384) (.int .i64 16384) ∧ Below u0.heap.size u0 W := ⟨_, rfl, (BxP.new u0 _ _).below (bl1 _), BxP.new1 u0 _ _ _, bl2 _ _⟩
    rw [← hW]
    clear hW
    replace E2 := E2.below hb9
    replace hP := hP.below hb9
    have hbW : Below w.heap.size w W := hbu.trans (hb9.mono hbu.size)
    clear hb9
    obtain ⟨p00, p01, p02, p03⟩ := E2.cells
    obtain ⟨p10, p11, _⟩ := X1.cells
    obtain ⟨p20, p21, _⟩ := X2.cells
    refine wp_region_held_drew (S := (fun u => u.cell? ⟨b, off, none⟩ = some (.int .i64 (-16384)) ∧ u.cell? ⟨b, (off + 1), none⟩ = some (.int .i64 y0) ∧ u.cell? ⟨b, (off + m * 2), none⟩ = some (.int .i64 x1) ∧ u.cell? ⟨b, (off + m * 2 + 1), none⟩ = some (.int .i64 y1) ∧ u.cell? ⟨u0.heap.size, 0, none⟩ = some (.int .i64 (-16384)) ∧ u.cell? ⟨u0.heap.size, 1, none⟩ = some (.int .i64 (-16384)) ∧ u.cell? ⟨(u0.heap.size + 1), 0, none⟩ = some (.int .i64 16384) ∧ u.cell? ⟨(u0.heap.size + 1), 1, none⟩ = some (.int .i64 16384))) (by kernel_rfl) ?_ (fun hHeld => ?_)
    · (try dsimp only)
      go_keep
    have hdr : Below W.heap.size W W.drew := Below.drew1
    generalize W.drew = ud36 at hdr hHeld ⊢
    replace hP := hP.below hdr
    replace E2 := E2.below hdr
    replace X1 := X1.below hdr
    replace X2 := X2.below hdr
    replace hbW : Below w.heap.size w ud36 := hbW.trans (hdr.mono hbW.size)
    clear hdr
    clear p00 p01 p02 p03 p10 p11 p20 p21
    obtain ⟨p00, p01, p02, p03⟩ := E2.cells
    obtain ⟨p10, p11, _⟩ := X1.cells
    obtain ⟨p20, p21, _⟩ := X2.cells
    refine hTake (i := 0) (v := ?v37) rfl (by kernel_rfl) (by kernel_rfl) (by kernel_rfl) (fun _ _ _ h => h) (Or.inl ⟨by rfl, ?y37⟩) hHeld ?r37
    case y37 =>
      intro w9 hSw
      (try dsimp only at hSw)
      go_simp
      try with_reducible rfl
    try simp only [Act.put, List.setIfInBounds_toArray, List.set_cons_zero, List.set_cons_succ]
    refine hTake (i := 1) (v := ?v38) rfl (by kernel_rfl) (by kernel_rfl) (by kernel_rfl) (fun _ _ _ h => h) (Or.inl ⟨by rfl, ?y38⟩) hHeld ?r38
    case y38 =>
      intro w9 hSw
      (try dsimp only at hSw)
      go_simp
      try with_reducible rfl
    try simp only [Act.put, List.setIfInBounds_toArray, List.set_cons_zero, List.set_cons_succ]
    refine hTake (i := 2) (v := ?v39) rfl (by kernel_rfl) (by kernel_rfl) (by kernel_rfl) (fun _ _ _ h => h) (Or.inl ⟨by rfl, ?y39⟩) hHeld ?r39
    case y39 =>
      intro w9 hSw
      (try dsimp only at hSw)
      go_simp
      try with_reducible rfl
    try simp only [Act.put, List.setIfInBounds_toArray, List.set_cons_zero, List.set_cons_succ]
    refine hTake (i := 3) (v := ?v40) rfl (by kernel_rfl) (by kernel_rfl) (by kernel_rfl) (fun _ _ _ h => h) (Or.inl ⟨by rfl, ?y40⟩) hHeld ?r40
    case y40 =>
      intro w9 hSw
      (try dsimp only at hSw)
      go_simp
      try with_reducible rfl
    try simp only [Act.put, List.setIfInBounds_toArray, List.set_cons_zero, List.set_cons_succ]
    refine hTake (i := 4) (v := ?v41) rfl (by kernel_rfl) (by kernel_rfl) (by kernel_rfl) (fun _ _ _ h => h) (Or.inl ⟨by rfl, ?y41⟩) hHeld ?r41
    case y41 =>
      intro w9 hSw
      (try dsimp only at hSw)
      go_simp
      try with_reducible rfl
    try simp only [Act.put, List.setIfInBounds_toArray, List.set_cons_zero, List.set_cons_succ]
    refine hTake (i := 5) (v := ?v42) rfl (by kernel_rfl) (by kernel_rfl) (by kernel_rfl) (fun _ _ _ h => h) (Or.inl ⟨by rfl, ?y42⟩) hHeld ?r42
    case y42 =>
      intro w9 hSw
      (try dsimp only at hSw)
      go_simp
      try with_reducible rfl
    try simp only [Act.put, List.setIfInBounds_toArray, List.set_cons_zero, List.set_cons_succ]
    refine hTake (i := 6) (v := ?v43) rfl (by kernel_rfl) (by kernel_rfl) (by kernel_rfl) (fun _ _ _ h => h) (Or.inl ⟨by rfl, ?y43⟩) hHeld ?r43
    case y43 =>
      intro w9 hSw
      (try dsimp only at hSw)
      go_simp
      try with_reducible rfl
    try simp only [Act.put, List.setIfInBounds_toArray, List.set_cons_zero, List.set_cons_succ]
    refine hTake (i := 7) (v := ?v44) rfl (by kernel_rfl) (by kernel_rfl) (by kernel_rfl) (fun _ _ _ h => h) (Or.inl ⟨by rfl, ?y44⟩) hHeld ?r44
    case y44 =>
      intro w9 hSw
      (try dsimp only at hSw)
      go_simp
      try with_reducible rfl
    try simp only [Act.put, List.setIfInBounds_toArray, List.set_cons_zero, List.set_cons_succ]
    refine hTake (i := 8) (v := ?v45) rfl (by kernel_rfl) (by kernel_rfl) (by kernel_rfl) (fun _ _ _ h => h) (Or.inl ⟨by rfl, ?y45⟩) hHeld ?r45
    case y45 =>
      intro w9 hSw
      (try dsimp only at hSw)
      go_simp
      try with_reducible rfl
    try simp only [Act.put, List.setIfInBounds_toArray, List.set_cons_zero, List.set_cons_succ]
    refine hTake (i := 9) (v := ?v46) rfl (by kernel_rfl) (by kernel_rfl) (by kernel_rfl) (fun _ _ _ h => h) (Or.inl ⟨by rfl, ?y46⟩) hHeld ?r46
    case y46 =>
      intro w9 hSw
      (try dsimp only at hSw)
      go_simp
      try with_reducible rfl
    try simp only [Act.put, List.setIfInBounds_toArray, List.set_cons_zero, List.set_cons_succ]
    refine hTake (i := 10) (v := ?v47) rfl (by kernel_rfl) (by kernel_rfl) (by kernel_rfl) (fun _ _ _ h => h) (Or.inl ⟨by rfl, ?y47⟩) hHeld ?r47
    case y47 =>
      intro w9 hSw
      (try dsimp only at hSw)
      go_simp
      try with_reducible rfl
    try simp only [Act.put, List.setIfInBounds_toArray, List.set_cons_zero, List.set_cons_succ]
    refine hTake (i := 11) (v := undef) rfl (by kernel_rfl) (by kernel_rfl) (by kernel_rfl) (fun _ _ _ h => h) (Or.inr ⟨by rfl, rfl⟩) hHeld ?_
    try simp only [Act.put, List.setIfInBounds_toArray, List.set_cons_zero, List.set_cons_succ]
    refine hTake (i := 12) (v := undef) rfl (by kernel_rfl) (by kernel_rfl) (by kernel_rfl) (fun _ _ _ h => h) (Or.inr ⟨by rfl, rfl⟩) hHeld ?_
    try simp only [Act.put, List.setIfInBounds_toArray, List.set_cons_zero, List.set_cons_succ]
    refine hTake (i := 13) (v := undef) rfl (by kernel_rfl) (by kernel_rfl) (by kernel_rfl) (fun _ _ _ h => h) (Or.inr ⟨by rfl, rfl⟩) hHeld ?_
    try simp only [Act.put, List.setIfInBounds_toArray, List.set_cons_zero, List.set_cons_succ]
    refine hTake (i := 14) (v := undef) rfl (by kernel_rfl) (by kernel_rfl) (by kernel_rfl) (fun _ _ _ h => h) (Or.inr ⟨by rfl, rfl⟩) hHeld ?_
    try simp only [Act.put, List.setIfInBounds_toArray, List.set_cons_zero, List.set_cons_succ]
    refine hTake (i := 15) (v := undef) rfl (by kernel_rfl) (by kernel_rfl) (by kernel_rfl) (fun _ _ _ h => h) (Or.inr ⟨by rfl, rfl⟩) hHeld ?_
    try simp only [Act.put, List.setIfInBounds_toArray, List.set_cons_zero, List.set_cons_succ]
    refine hTake (i := 16) (v := undef) rfl (by kernel_rfl) (by kernel_rfl) (by kernel_rfl) (fun _ _ _ h => h) (Or.inr ⟨by rfl, rfl⟩) hHeld ?_
    try simp only [Act.put, List.setIfInBounds_toArray, List.set_cons_zero, List.set_cons_succ]
    refine hTake (i := 17) (v := undef) rfl (by kernel_rfl) (by kernel_rfl) (by kernel_rfl) (fun _ _ _ h => h) (Or.inr ⟨by rfl, rfl⟩) hHeld ?_
    try simp only [Act.put, List.setIfInBounds_toArray, List.set_cons_zero, List.set_cons_succ]
    refine hTake (i := 18) (v := undef) rfl (by kernel_rfl) (by kernel_rfl) (by kernel_rfl) (fun _ _ _ h => h) (Or.inr ⟨by rfl, rfl⟩) hHeld ?_
    try simp only [Act.put, List.setIfInBounds_toArray, List.set_cons_zero, List.set_cons_succ]
    refine hTake (i := 19) (v := ?v48) rfl (by kernel_rfl) (by kernel_rfl) (by kernel_rfl) (fun _ _ _ h => h) (Or.inl ⟨by rfl, ?y48⟩) hHeld ?r48
    case y48 =>
      intro w9 hSw
      (try dsimp only at hSw)
      go_simp
      try with_reducible rfl
    try simp only [Act.put, List.setIfInBounds_toArray, List.set_cons_zero, List.set_cons_succ]
    refine hTake (i := 20) (v := ?v49) rfl (by kernel_rfl) (by kernel_rfl) (by kernel_rfl) (fun _ _ _ h => h) (Or.inl ⟨by rfl, ?y49⟩) hHeld ?r49
    case y49 =>
      intro w9 hSw
      (try dsimp only at hSw)
      go_simp
      try with_reducible rfl
    try simp only [Act.put, List.setIfInBounds_toArray, List.set_cons_zero, List.set_cons_succ]
    refine hTake (i := 21) (v := undef) rfl (by kernel_rfl) (by kernel_rfl) (by kernel_rfl) (fun _ _ _ h => h) (Or.inr ⟨by rfl, rfl⟩) hHeld ?_
    try simp only [Act.put, List.setIfInBounds_toArray, List.set_cons_zero, List.set_cons_succ]
    refine hTake (i := 22) (v := undef) rfl (by kernel_rfl) (by kernel_rfl) (by kernel_rfl) (fun _ _ _ h => h) (Or.inr ⟨by rfl, rfl⟩) hHeld ?_
    try simp only [Act.put, List.setIfInBounds_toArray, List.set_cons_zero, List.set_cons_succ]
    refine hTake (i := 23) (v := undef) rfl (by kernel_rfl) (by kernel_rfl) (by kernel_rfl) (fun _ _ _ h => h) (Or.inr ⟨by rfl, rfl⟩) hHeld ?_
    try simp only [Act.put, List.setIfInBounds_toArray, List.set_cons_zero, List.set_cons_succ]
    refine hTake (i := 24) (v := undef) rfl (by kernel_rfl) (by kernel_rfl) (by kernel_rfl) (fun _ _ _ h => h) (Or.inr ⟨by rfl, rfl⟩) hHeld ?_
    try simp only [Act.put, List.setIfInBounds_toArray, List.set_cons_zero, List.set_cons_succ]
    refine hTake (i := 25) (v := ?v50) rfl (by kernel_rfl) (by kernel_rfl) (by kernel_rfl) (fun _ _ _ h => h) (Or.inl ⟨by rfl, ?y50⟩) hHeld ?r50
    case y50 =>
      intro w9 hSw
      (try dsimp only at hSw)
      go_simp
      try with_reducible rfl
    try simp only [Act.put, List.setIfInBounds_toArray, List.set_cons_zero, List.set_cons_succ]
    refine wpAnyH_done (by kernel_rfl) ?_ _
    go_wp2
    go_ret
    exact ⟨rt_bool HFN.out.symm, hbW⟩
  subst hy0
  by_cases hx1 : x1 = 16384
  rotate_left
  · have HFN : Hid (frP l = false) := HNO.out (fun h => hx1 (by have := h.2.2.1; cases this; rfl))
    go_enter Tryz.func8, Tryz.ntmps8
    go_wp2_with fail
    refine (ends_any _).mono ?_
    rintro e u0 ⟨rfl, hbu⟩
    replace E2 := E2.below hbu
    replace hP := hP.below hbu
    go_wp2_with fail
    obtain ⟨W, hW, X1, X2, hb9⟩ : ∃ W, W = (u0.alloc (.cells #[.int .i64 (-16384), .int .i64 (-16384)] 49)).alloc (.cells #[.int .i64 16384, .int .i64 16384] 49) ∧ BxP W u0.heap.size (.int .i64 (-16384)) (.int .i64 (-16384)) ∧ BxP W (u0.heap.size + 1) (.int .i64 16384) (.int .i64 16384) ∧ Below u0.heap.size u0 W := ⟨_, rfl, (BxP.new u0 _ _).below (bl1 _), BxP.new1 u0 _ _ _, bl2 _ _⟩
    rw [← hW]
    clear hW
    replace E2 := E2.below hb9
    replace hP := hP.below hb9
    have hbW : Below w.heap.size w W := hbu.trans (hb9.mono hbu.size)
    clear hb9
    obtain ⟨p00, p01, p02, p03⟩ := E2.cells
    obtain ⟨p10, p11, _⟩ := X1.cells
    obtain ⟨p20, p21, _⟩ := X2.cells
    refine wp_region_held_drew (S := (fun u => u.cell? ⟨b, off, none⟩ = some (.int .i64 (-16384)) ∧ u.cell? ⟨b, (off + 1), none⟩ = some (.int .i64 (-16384)) ∧ u.cell? ⟨b, (off + m * 2), none⟩ = some (.int .i64 x1) ∧ u.cell? ⟨b, (off + m * 2 + 1), none⟩ = some (.int .i64 y1) ∧ u.cell? ⟨u0.heap.size, 0, none⟩ = some (.int .i64 (-16384)) ∧ u.cell? ⟨u0.heap.size, 1, none⟩ = some (.int .i64 (-16384)) ∧ u.cell? ⟨(u0.heap.size + 1), 0, none⟩ = some (.int .i64 16384) ∧ u.cell? ⟨(u0.heap.size + 1), 1, none⟩ = some (.int .i64 16384))) (by kernel_rfl) ?_ (fun hHeld => ?_)
    · (try dsimp only)
      go_keep
    have hdr : Below W.heap.size W W.drew := Below.drew1
    generalize W.drew = ud51 at hdr hHeld ⊢
    replace hP := hP.below hdr
    replace E2 := E2.below hdr
    replace X1 := X1.below hdr
    replace X2 := X2.below hdr
    replace hbW : Below w.heap.size w ud51 := hbW.trans (hdr.mono hbW.size)
    clear hdr
    clear p00 p01 p02 p03 p10 p11 p20 p21
    obtain ⟨p00, p01, p02, p03⟩ := E2.cells
    obtain ⟨p10, p11, _⟩ := X1.cells
    obtain ⟨p20, p21, _⟩ := X2.cells
    refine hTake (i := 0) (v := ?v52) rfl (by kernel_rfl) (by kernel_rfl) (by kernel_rfl) (fun _ _ _ h => h) (Or.inl ⟨by rfl, ?y52⟩) hHeld ?r52
    case y52 =>
      intro w9 hSw
      (try dsimp only at hSw)
      go_simp
      try with_reducible rfl
    try simp only [Act.put, List.setIfInBounds_toArray, List.set_cons_zero, List.set_cons_succ]
    refine hTake (i := 1) (v := ?v53) rfl (by kernel_rfl) (by kernel_rfl) (by kernel_rfl) (fun _ _ _ h => h) (Or.inl ⟨by rfl, ?y53⟩) hHeld ?r53
    case y53 =>
      intro w9 hSw
      (try dsimp only at hSw)
      go_simp
      try with_reducible rfl
    try simp only [Act.put, List.setIfInBounds_toArray, List.set_cons_zero, List.set_cons_succ]
    refine hTake (i := 2) (v := ?v54) rfl (by kernel_rfl) (by kernel_rfl) (by kernel_rfl) (fun _ _ _ h => h) (Or.inl ⟨by rfl, ?y54⟩) hHeld ?r54
    case y54 =>
      intro w9 hSw
      (try dsimp only at hSw)
      go_simp
      try with_reducible rfl
    try simp only [Act.put, List.setIfInBounds_toArray, List.set_cons_zero, List.set_cons_succ]
    refine hTake (i := 3) (v := ?v55) rfl (by kernel_rfl) (by kernel_rfl) (by kernel_rfl) (fun _ _ _ h => h) (Or.inl ⟨by rfl, ?y55⟩) hHeld ?r55
    case y55 =>
      intro w9 hSw
      (try dsimp only at hSw)
      go_simp
      try with_reducible rfl
    try simp only [Act.put, List.setIfInBounds_toArray, List.set_cons_zero, List.set_cons_succ]
    refine hTake (i := 4) (v := ?v56) rfl (by kernel_rfl) (by kernel_rfl) (by kernel_rfl) (fun _ _ _ h => h) (Or.inl ⟨by rfl, ?y56⟩) hHeld ?r56
    case y56 =>
      intro w9 hSw
      (try dsimp only at hSw)
      go_simp
      try with_reducible rfl
    try simp only [Act.put, List.setIfInBounds_toArray, List.set_cons_zero, List.set_cons_succ]
    refine hTake (i := 5) (v := ?v57) rfl (by kernel_rfl) (by kernel_rfl) (by kernel_rfl) (fun _ _ _ h => h) (Or.inl ⟨by rfl, ?y57⟩) hHeld ?r57
    case y57 =>
      intro w9 hSw
      (try dsimp only at hSw)
      go_simp
      try with_reducible rfl
    try simp only [Act.put, List.setIfInBounds_toArray, List.set_cons_zero, List.set_cons_succ]
    refine hTake (i := 6) (v := ?v58) rfl (by kernel_rfl) (by kernel_rfl) (by kernel_rfl) (fun _ _ _ h => h) (Or.inl ⟨by rfl, ?y58⟩) hHeld ?r58
    case y58 =>
      intro w9 hSw
      (try dsimp only at hSw)
      go_simp
      try with_reducible rfl
    try simp only [Act.put, List.setIfInBounds_toArray, List.set_cons_zero, List.set_cons_succ]
    refine hTake (i := 7) (v := ?v59) rfl (by kernel_rfl) (by kernel_rfl) (by kernel_rfl) (fun _ _ _ h => h) (Or.inl ⟨by rfl, ?y59⟩) hHeld ?r59
    case y59 =>
      intro w9 hSw
      (try dsimp only at hSw)
      go_simp
      try with_reducible rfl
    try simp only [Act.put, List.setIfInBounds_toArray, List.set_cons_zero, List.set_cons_succ]
    refine hTake (i := 8) (v := ?v60) rfl (by kernel_rfl) (by kernel_rfl) (by kernel_rfl) (fun _ _ _ h => h) (Or.inl ⟨by rfl, ?y60⟩) hHeld ?r60
    case y60 =>
      intro w9 hSw
      (try dsimp only at hSw)
      go_simp
      try with_reducible rfl
    try simp only [Act.put, List.setIfInBounds_toArray, List.set_cons_zero, List.set_cons_succ]
    refine hTake (i := 9) (v := ?v61) rfl (by kernel_rfl) (by kernel_rfl) (by kernel_rfl) (fun _ _ _ h => h) (Or.inl ⟨by rfl, ?y61⟩) hHeld ?r61
    case y61 =>
      intro w9 hSw
      (try dsimp only at hSw)
      go_simp
      try with_reducible rfl
    try simp only [Act.put, List.setIfInBounds_toArray, List.set_cons_zero, List.set_cons_succ]
    refine hTake (i := 10) (v := ?v62) rfl (by kernel_rfl) (by kernel_rfl) (by kernel_rfl) (fun _ _ _ h => h) (Or.inl ⟨by rfl, ?y62⟩) hHeld ?r62
    case y62 =>
      intro w9 hSw
      (try dsimp only at hSw)
      go_simp
      try with_reducible rfl
    try simp only [Act.put, List.setIfInBounds_toArray, List.set_cons_zero, List.set_cons_succ]
    refine hTake (i := 11) (v := ?v63) rfl (by kernel_rfl) (by kernel_rfl) (by kernel_rfl) (fun _ _ _ h => h) (Or.inl ⟨by rfl, ?y63⟩) hHeld ?r63
    case y63 =>
      intro w9 hSw
      (try dsimp only at hSw)
      go_simp
      try with_reducible rfl
    try simp only [Act.put, List.setIfInBounds_toArray, List.set_cons_zero, List.set_cons_succ]
    refine hTake (i := 12) (v := ?v64) rfl (by kernel_rfl) (by kernel_rfl) (by kernel_rfl) (fun _ _ _ h => h) (Or.inl ⟨by rfl, ?y64⟩) hHeld ?r64
    case y64 =>
      intro w9 hSw
      (try dsimp only at hSw)
      go_simp
      try with_reducible rfl
    try simp only [Act.put, List.setIfInBounds_toArray, List.set_cons_zero, List.set_cons_succ]
    refine hTake (i := 13) (v := ?v65) rfl (by kernel_rfl) (by kernel_rfl) (by kernel_rfl) (fun _ _ _ h => h) (Or.inl ⟨by rfl, ?y65⟩) hHeld ?r65
    case y65 =>
      intro w9 hSw
      (try dsimp only at hSw)
      go_simp
      try with_reducible rfl
    try simp only [Act.put, List.setIfInBounds_toArray, List.set_cons_zero, List.set_cons_succ]
    refine hTake (i := 14) (v := ?v66) rfl (by kernel_rfl) (by kernel_rfl) (by kernel_rfl) (fun _ _ _ h => h) (Or.inl ⟨by rfl, ?y66⟩) hHeld ?r66
    case y66 =>
      intro w9 hSw
      (try dsimp only at hSw)
      go_simp
      try with_reducible rfl
    try simp only [Act.put, List.setIfInBounds_toArray, List.set_cons_zero, List.set_cons_succ]
    refine hTake (i := 15) (v := ?v67) rfl (by kernel_rfl) (by kernel_rfl) (by kernel_rfl) (fun _ _ _ h => h) (Or.inl ⟨by rfl, ?y67⟩) hHeld ?r67
    case y67 =>
      intro w9 hSw
      (try dsimp only at hSw)
      go_simp
      try with_reducible rfl
    try simp only [Act.put, List.setIfInBounds_toArray, List.set_cons_zero, List.set_cons_succ]
    refine hTake (i := 16) (v := ?v68) rfl (by kernel_rfl) (by kernel_rfl) (by kernel_rfl) (fun _ _ _ h => h) (Or.inl ⟨by rfl, ?y68⟩) hHeld ?r68
    case y68 =>
      intro w9 hSw
      (try dsimp only at hSw)
      go_simp
      try with_reducible rfl
    try simp only [Act.put, List.setIfInBounds_toArray, List.set_cons_zero, List.set_cons_succ]
    refine hTake (i := 17) (v := ?v69) rfl (by kernel_rfl) (by kernel_rfl) (by kernel_rfl) (fun _ _ _ h => h) (Or.inl ⟨by rfl, ?y69⟩) hHeld ?r69
    case y69 =>
      intro w9 hSw
      (try dsimp only at hSw)
      go_simp
      try with_reducible rfl
    try simp only [Act.put, List.setIfInBounds_toArray, List.set_cons_zero, List.set_cons_succ]
    refine hTake (i := 18) (v := ?v70) rfl (by kernel_rfl) (by kernel_rfl) (by kernel_rfl) (fun _ _ _ h => h) (Or.inl ⟨by rfl, ?y70⟩) hHeld ?r70
    case y70 =>
      intro w9 hSw
      (try dsimp only at hSw)
      go_simp
      try with_reducible rfl
    try simp only [Act.put, List.setIfInBounds_toArray, List.set_cons_zero, List.set_cons_succ]
    refine hTake (i := 19) (v := ?v71) rfl (by kernel_rfl) (by kernel_rfl) (by kernel_rfl) (fun _ _ _ h => h) (Or.inl ⟨by rfl, ?y71⟩) hHeld ?r71
    case y71 =>
      intro w9 hSw
      (try dsimp only at hSw)
      go_simp
      try with_reducible rfl
    try simp only [Act.put, List.setIfInBounds_toArray, List.set_cons_zero, List.set_cons_succ]
    refine hTake (i := 20) (v := ?v72) rfl (by kernel_rfl) (by kernel_rfl) (by kernel_rfl) (fun _ _ _ h => h) (Or.inl ⟨by rfl, ?y72⟩) hHeld ?r72
    case y72 =>
      intro w9 hSw
      (try dsimp only at hSw)
      go_simp
      try with_reducible rfl
    try simp only [Act.put, List.setIfInBounds_toArray, List.set_cons_zero, List.set_cons_succ]
    refine hTake (i := 21) (v := undef) rfl (by kernel_rfl) (by kernel_rfl) (by kernel_rfl) (fun _ _ _ h => h) (Or.inr ⟨by rfl, rfl⟩) hHeld ?_
    try simp only [Act.put, List.setIfInBounds_toArray, List.set_cons_zero, List.set_cons_succ]
    refine hTake (i := 22) (v := undef) rfl (by kernel_rfl) (by kernel_rfl) (by kernel_rfl) (fun _ _ _ h => h) (Or.inr ⟨by rfl, rfl⟩) hHeld ?_
    try simp only [Act.put, List.setIfInBounds_toArray, List.set_cons_zero, List.set_cons_succ]
    refine hTake (i := 23) (v := undef) rfl (by kernel_rfl) (by kernel_rfl) (by kernel_rfl) (fun _ _ _ h => h) (Or.inr ⟨by rfl, rfl⟩) hHeld ?_
    try simp only [Act.put, List.setIfInBounds_toArray, List.set_cons_zero, List.set_cons_succ]
    refine hTake (i := 24) (v := undef) rfl (by kernel_rfl) (by kernel_rfl) (by kernel_rfl) (fun _ _ _ h => h) (Or.inr ⟨by rfl, rfl⟩) hHeld ?_
    try simp only [Act.put, List.setIfInBounds_toArray, List.set_cons_zero, List.set_cons_succ]
    refine hTake (i := 25) (v := ?v73) rfl (by kernel_rfl) (by kernel_rfl) (by kernel_rfl) (fun _ _ _ h => h) (Or.inl ⟨by rfl, ?y73⟩) hHeld ?r73
    case y73 =>
      intro w9 hSw
      (try dsimp only at hSw)
      go_simp
      try with_reducible rfl
    try simp only [Act.put, List.setIfInBounds_toArray, List.set_cons_zero, List.set_cons_succ]
    refine wpAnyH_done (by kernel_rfl) ?_ _
    go_wp2
    go_ret
    exact ⟨rt_bool HFN.out.symm, hbW⟩
  subst hx1
  by_cases hy1 : y1 = 16384
  rotate_left
  · have HFN : Hid (frP l = false) := HNO.out (fun h => hy1 (by have := h.2.2.1; cases this; rfl))
    go_enter Tryz.func8, Tryz.ntmps8
    go_wp2_with fail
    refine (ends_any _).mono ?_
    rintro e u0 ⟨rfl, hbu⟩
    replace E2 := E2.below hbu
    replace hP := hP.below hbu
    go_wp2_with fail
    obtain ⟨W, hW, X1, X2, hb9⟩ : ∃ W, W = (u0.alloc (.cells #[.int .i64 (-16384), .int .i64 (-16384)] 49)).alloc (.cells #[.int .i64 16384, .int .i64 16384] 49) ∧ BxP W u0.heap.size (.int .i64 (-16384)) (.int .i64 (-16384)) ∧ BxP W (u0.heap.size + 1) (.int .i64 16384) (.int .i64 16384) ∧ Below u0.heap.size u0 W := ⟨_, rfl, (BxP.new u0 _ _).below (bl1 _), BxP.new1 u0 _ _ _, bl2 _ _⟩
    rw [← hW]
    clear hW
    replace E2 := E2.below hb9
    replace hP := hP.below hb9
    have hbW : Below w.heap.size w W := hbu.trans (hb9.mono hbu.size)
    clear hb9
    obtain ⟨p00, p01, p02, p03⟩ := E2.cells
    obtain ⟨p10, p11, _⟩ := X1.cells
    obtain ⟨p20, p21, _⟩ := X2.cells
    refine wp_region_held_drew (S := (fun u => u.cell? ⟨b, off, none⟩ = some (.int .i64 (-16384)) ∧ u.cell? ⟨b, (off + 1), none⟩ = some (.int .i64 (-16384)) ∧ u.cell? ⟨b, (off + m * 2), none⟩ = some (.int .i64 16384) ∧ u.cell? ⟨b, (off + m * 2 + 1), none⟩ = some (.int .i64 y1) ∧ u.cell? ⟨u0.heap.size, 0, none⟩ = some (.int .i64 (-16384)) ∧ u.cell? ⟨u0.heap.size, 1, none⟩ = some (.int .i64 (-16384)) ∧ u.cell? ⟨(u0.heap.size + 1), 0, none⟩ = some (.int .i64 16384) ∧ u.cell? ⟨(u0.heap.size + 1), 1, none⟩ = some (.int .i64 16384))) (by kernel_rfl) ?_ (fun hHeld => ?_)
    · (try dsimp only)
      go_keep
    have hdr : Below W.heap.size W W.drew := Below.drew1
    generalize W.drew = ud74 at hdr hHeld ⊢
    replace hP := hP.below hdr
    replace E2 := E2.below hdr
    replace X1 := X1.below hdr
    replace X2 := X2.below hdr
    replace hbW : Below w.heap.size w ud74 := hbW.trans (hdr.mono hbW.size)
    clear hdr
    clear p00 p01 p02 p03 p10 p11 p20 p21
    obtain ⟨p00, p01, p02, p03⟩ := E2.cells
    obtain ⟨p10, p11, _⟩ := X1.cells
    obtain ⟨p20, p21, _⟩ := X2.cells
    refine hTake (i := 0) (v := ?v75) rfl (by kernel_rfl) (by kernel_rfl) (by kernel_rfl) (fun _ _ _ h => h) (Or.inl ⟨by rfl, ?y75⟩) hHeld ?r75
    case y75 =>
      intro w9 hSw
      (try dsimp only at hSw)
      go_simp
      try with_reducible rfl
    try simp only [Act.put, List.setIfInBounds_toArray, List.set_cons_zero, List.set_cons_succ]
    refine hTake (i := 1) (v := ?v76) rfl (by kernel_rfl) (by kernel_rfl) (by kernel_rfl) (fun _ _ _ h => h) (Or.inl ⟨by rfl, ?y76⟩) hHeld ?r76
    case y76 =>
      intro w9 hSw
      (try dsimp only at hSw)
      go_simp
      try with_reducible rfl
    try simp only [Act.put, List.setIfInBounds_toArray, List.set_cons_zero, List.set_cons_succ]
    refine hTake (i := 2) (v := ?v77) rfl (by kernel_rfl) (by kernel_rfl) (by kernel_rfl) (fun _ _ _ h => h) (Or.inl ⟨by rfl, ?y77⟩) hHeld ?r77
    case y77 =>
      intro w9 hSw
      (try dsimp only at hSw)
      go_simp
      try with_reducible rfl
    try simp only [Act.put, List.setIfInBounds_toArray, List.set_cons_zero, List.set_cons_succ]
    refine hTake (i := 3) (v := ?v78) rfl (by kernel_rfl) (by kernel_rfl) (by kernel_rfl) (fun _ _ _ h => h) (Or.inl ⟨by rfl, ?y78⟩) hHeld ?r78
    case y78 =>
      intro w9 hSw
      (try dsimp only at hSw)
      go_simp
      try with_reducible rfl
    try simp only [Act.put, List.setIfInBounds_toArray, List.set_cons_zero, List.set_cons_succ]
    refine hTake (i := 4) (v := ?v79) rfl (by kernel_rfl) (by kernel_rfl) (by kernel_rfl) (fun _ _ _ h => h) (Or.inl ⟨by rfl, ?y79⟩) hHeld ?r79
    case y79 =>
      intro w9 hSw
      (try dsimp only at hSw)
      go_simp
      try with_reducible rfl
    try simp only [Act.put, List.setIfInBounds_toArray, List.set_cons_zero, List.set_cons_succ]
    refine hTake (i := 5) (v := ?v80) rfl (by kernel_rfl) (by kernel_rfl) (by kernel_rfl) (fun _ _ _ h => h) (Or.inl ⟨by rfl, ?y80⟩) hHeld ?r80
    case y80 =>
      intro w9 hSw
      (try dsimp only at hSw)
      go_simp
      try with_reducible rfl
    try simp only [Act.put, List.setIfInBounds_toArray, List.set_cons_zero, List.set_cons_succ]
    refine hTake (i := 6) (v := ?v81) rfl (by kernel_rfl) (by kernel_rfl) (by kernel_rfl) (fun _ _ _ h => h) (Or.inl ⟨by rfl, ?y81⟩) hHeld ?r81
    case y81 =>
      intro w9 hSw
      (try dsimp only at hSw)
      go_simp
      try with_reducible rfl
    try simp only [Act.put, List.setIfInBounds_toArray, List.set_cons_zero, List.set_cons_succ]
    refine hTake (i := 7) (v := ?v82) rfl (by kernel_rfl) (by kernel_rfl) (by kernel_rfl) (fun _ _ _ h => h) (Or.inl ⟨by rfl, ?y82⟩) hHeld ?r82
    case y82 =>
      intro w9 hSw
      (try dsimp only at hSw)
      go_simp
      try with_reducible rfl
    try simp only [Act.put, List.setIfInBounds_toArray, List.set_cons_zero, List.set_cons_succ]
    refine hTake (i := 8) (v := ?v83) rfl (by kernel_rfl) (by kernel_rfl) (by kernel_rfl) (fun _ _ _ h => h) (Or.inl ⟨by rfl, ?y83⟩) hHeld ?r83
    case y83 =>
      intro w9 hSw
      (try dsimp only at hSw)
      go_simp
      try with_reducible rfl
    try simp only [Act.put, List.setIfInBounds_toArray, List.set_cons_zero, List.set_cons_succ]
    refine hTake (i := 9) (v := ?v84) rfl (by kernel_rfl) (by kernel_rfl) (by kernel_rfl) (fun _ _ _ h => h) (Or.inl ⟨by rfl, ?y84⟩) hHeld ?r84
    case y84 =>
      intro w9 hSw
      (try dsimp only at hSw)
      go_simp
      try with_reducible rfl
    try simp only [Act.put, List.setIfInBounds_toArray, List.set_cons_zero, List.set_cons_succ]
    refine hTake (i := 10) (v := ?v85) rfl (by kernel_rfl) (by kernel_rfl) (by kernel_rfl) (fun _ _ _ h => h) (Or.inl ⟨by rfl, ?y85⟩) hHeld ?r85
    case y85 =>
      intro w9 hSw
      (try dsimp only at hSw)
      go_simp
      try with_reducible rfl
    try simp only [Act.put, List.setIfInBounds_toArray, List.set_cons_zero, List.set_cons_succ]
    refine hTake (i := 11) (v := ?v86) rfl (by kernel_rfl) (by kernel_rfl) (by kernel_rfl) (fun _ _ _ h => h) (Or.inl ⟨by rfl, ?y86⟩) hHeld ?r86
    case y86 =>
      intro w9 hSw
      (try dsimp only at hSw)
      go_simp
      try with_reducible rfl
    try simp only [Act.put, List.setIfInBounds_toArray, List.set_cons_zero, List.set_cons_succ]
    refine hTake (i := 12) (v := ?v87) rfl (by kernel_rfl) (by kernel_rfl) (by kernel_rfl) (fun _ _ _ h => h) (Or.inl ⟨by rfl, ?y87⟩) hHeld ?r87
    case y87 =>
      intro w9 hSw
      (try dsimp only at hSw)
      go_simp
      try with_reducible rfl
    try simp only [Act.put, List.setIfInBounds_toArray, List.set_cons_zero, List.set_cons_succ]
    refine hTake (i := 13) (v := ?v88) rfl (by kernel_rfl) (by kernel_rfl) (by kernel_rfl) (fun _ _ _ h => h) (Or.inl ⟨by rfl, ?y88⟩) hHeld ?r88
    case y88 =>
      intro w9 hSw
      (try dsimp only at hSw)
      go_simp
      try with_reducible rfl
    try simp only [Act.put, List.setIfInBounds_toArray, List.set_cons_zero, List.set_cons_succ]
    refine hTake (i := 14) (v := ?v89) rfl (by kernel_rfl) (by kernel_rfl) (by kernel_rfl) (fun _ _ _ h => h) (Or.inl ⟨by rfl, ?y89⟩) hHeld ?r89
    case y89 =>
      intro w9 hSw
      (try dsimp only at hSw)
      go_simp
      try with_reducible rfl
    try simp only [Act.put, List.setIfInBounds_toArray, List.set_cons_zero, List.set_cons_succ]
    refine hTake (i := 15) (v := ?v90) rfl (by kernel_rfl) (by kernel_rfl) (by kernel_rfl) (fun _ _ _ h => h) (Or.inl ⟨by rfl, ?y90⟩) hHeld ?r90
    case y90 =>
      intro w9 hSw
      (try dsimp only at hSw)
      go_simp
      try with_reducible rfl
    try simp only [Act.put, List.setIfInBounds_toArray, List.set_cons_zero, List.set_cons_succ]
    refine hTake (i := 16) (v := ?v91) rfl (by kernel_rfl) (by kernel_rfl) (by kernel_rfl) (fun _ _ _ h => h) (Or.inl ⟨by rfl, ?y91⟩) hHeld ?r91
    case y91 =>
      intro w9 hSw
      (try dsimp only at hSw)
      go_simp
      try with_reducible rfl
    try simp only [Act.put, List.setIfInBounds_toArray, List.set_cons_zero, List.set_cons_succ]
    refine hTake (i := 17) (v := ?v92) rfl (by kernel_rfl) (by kernel_rfl) (by kernel_rfl) (fun _ _ _ h => h) (Or.inl ⟨by rfl, ?y92⟩) hHeld ?r92
    case y92 =>
      intro w9 hSw
      (try dsimp only at hSw)
      go_simp
      try with_reducible rfl
    try simp only [Act.put, List.setIfInBounds_toArray, List.set_cons_zero, List.set_cons_succ]
    refine hTake (i := 18) (v := ?v93) rfl (by kernel_rfl) (by kernel_rfl) (by kernel_rfl) (fun _ _ _ h => h) (Or.inl ⟨by rfl, ?y93⟩) hHeld ?r93
    case y93 =>
      intro w9 hSw
      (try dsimp only at hSw)
      go_simp
      try with_reducible rfl
    try simp only [Act.put, List.setIfInBounds_toArray, List.set_cons_zero, List.set_cons_succ]
    refine hTake (i := 19) (v := ?v94) rfl (by kernel_rfl) (by kernel_rfl) (by kernel_rfl) (fun _ _ _ h => h) (Or.inl ⟨by rfl, ?y94⟩) hHeld ?r94
    case y94 =>
      intro w9 hSw
      (try dsimp only at hSw)
      go_simp
      try with_reducible rfl
    try simp only [Act.put, List.setIfInBounds_toArray, List.set_cons_zero, List.set_cons_succ]
    refine hTake (i := 20) (v := ?v95) rfl (by kernel_rfl) (by kernel_rfl) (by kernel_rfl) (fun _ _ _ h => h) (Or.inl ⟨by rfl, ?y95⟩) hHeld ?r95
    case y95 =>
      intro w9 hSw
      (try dsimp only at hSw)
      go_simp
      try with_reducible rfl
    try simp only [Act.put, List.setIfInBounds_toArray, List.set_cons_zero, List.set_cons_succ]
    refine hTake (i := 21) (v := undef) rfl (by kernel_rfl) (by kernel_rfl) (by kernel_rfl) (fun _ _ _ h => h) (Or.inr ⟨by rfl, rfl⟩) hHeld ?_
    try simp only [Act.put, List.setIfInBounds_toArray, List.set_cons_zero, List.set_cons_succ]
    refine hTake (i := 22) (v := undef) rfl (by kernel_rfl) (by kernel_rfl) (by kernel_rfl) (fun _ _ _ h => h) (Or.inr ⟨by rfl, rfl⟩) hHeld ?_
    try simp only [Act.put, List.setIfInBounds_toArray, List.set_cons_zero, List.set_cons_succ]
    refine hTake (i := 23) (v := undef) rfl (by kernel_rfl) (by kernel_rfl) (by kernel_rfl) (fun _ _ _ h => h) (Or.inr ⟨by rfl, rfl⟩) hHeld ?_
    try simp only [Act.put, List.setIfInBounds_toArray, List.set_cons_zero, List.set_cons_succ]
    refine hTake (i := 24) (v := undef) rfl (by kernel_rfl) (by kernel_rfl) (by kernel_rfl) (fun _ _ _ h => h) (Or.inr ⟨by rfl, rfl⟩) hHeld ?_
    try simp only [Act.put, List.setIfInBounds_toArray, List.set_cons_zero, List.set_cons_succ]
    refine hTake (i := 25) (v := ?v96) rfl (by kernel_rfl) (by kernel_rfl) (by kernel_rfl) (fun _ _ _ h => h) (Or.inl ⟨by rfl, ?y96⟩) hHeld ?r96
    case y96 =>
      intro w9 hSw
      (try dsimp only at hSw)
      go_simp
      try with_reducible rfl
    try simp only [Act.put, List.setIfInBounds_toArray, List.set_cons_zero, List.set_cons_succ]
    refine wpAnyH_done (by kernel_rfl) ?_ _
    go_wp2
    go_ret
    exact ⟨rt_bool HFN.out.symm, hbW⟩
  subst hy1
  have hct := fun W hW => contains_any (some ⟨b, off, none⟩) cap l (0, 0) W hW
  unfold prC at hct
  dsimp only at hct
  cases hq : decide ((0, 0) ∈ l) with
  | false =>
    have HFN : Hid (frP l = false) := HNO.out (fun h => of_decide_eq_false hq h.2.2.2.1)
    rw [hq] at hct
    clear hq
    go_enter Tryz.func8, Tryz.ntmps8
    go_wp2_with fail
    refine (ends_any _).mono ?_
    rintro e u0 ⟨rfl, hbu⟩
    replace E2 := E2.below hbu
    replace hP := hP.below hbu
    go_wp2_with fail
    obtain ⟨W, hW, X1, X2, hb9⟩ : ∃ W, W = (u0.alloc (.cells #[.int .i64 (-16384), .int .i64 (-16384)] 49)).alloc (.cells #[.int .i64 16384, .int .i64 16384] 49) ∧ BxP W u0.heap.size (.int .i64 (-16384)) (.int .i64 (-16384)) ∧ BxP W (u0.heap.size + 1) (.int .i64 16384) (.int .i64 16384) ∧ Below u0.heap.size u0 W := ⟨_, rfl, (BxP.new u0 _ _).below (bl1 _), BxP.new1 u0 _ _ _, bl2 _ _⟩
    rw [← hW]
    clear hW
    replace E2 := E2.below hb9
    replace hP := hP.below hb9
    have hbW : Below w.heap.size w W := hbu.trans (hb9.mono hbu.size)
    clear hb9
    obtain ⟨p00, p01, p02, p03⟩ := E2.cells
    obtain ⟨p10, p11, _⟩ := X1.cells
    obtain ⟨p20, p21, _⟩ := X2.cells
    refine wp_region_held_drew (S := (fun u => u.cell? ⟨b, off, none⟩ = some (.int .i64 (-16384)) ∧ u.cell? ⟨b, (off + 1), none⟩ = some (.int .i64 (-16384)) ∧ u.cell? ⟨b, (off + m * 2), none⟩ = some (.int .i64 16384) ∧ u.cell? ⟨b, (off + m * 2 + 1), none⟩ = some (.int .i64 16384) ∧ u.cell? ⟨u0.heap.size, 0, none⟩ = some (.int .i64 (-16384)) ∧ u.cell? ⟨u0.heap.size, 1, none⟩ = some (.int .i64 (-16384)) ∧ u.cell? ⟨(u0.heap.size + 1), 0, none⟩ = some (.int .i64 16384) ∧ u.cell? ⟨(u0.heap.size + 1), 1, none⟩ = some (.int .i64 16384))) (by kernel_rfl) ?_ (fun hHeld => ?_)
    · (try dsimp only)
      go_keep
    have hdr : Below W.heap.size W W.drew := Below.drew1
    generalize W.drew = ud97 at hdr hHeld ⊢
    replace hP := hP.below hdr
    replace E2 := E2.below hdr
    replace X1 := X1.below hdr
    replace X2 := X2.below hdr
    replace hbW : Below w.heap.size w ud97 := hbW.trans (hdr.mono hbW.size)
    clear hdr
    clear p00 p01 p02 p03 p10 p11 p20 p21
    obtain ⟨p00, p01, p02, p03⟩ := E2.cells
    obtain ⟨p10, p11, _⟩ := X1.cells
    obtain ⟨p20, p21, _⟩ := X2.cells
    refine hTake (i := 0) (v := ?v98) rfl (by kernel_rfl) (by kernel_rfl) (by kernel_rfl) (fun _ _ _ h => h) (Or.inl ⟨by rfl, ?y98⟩) hHeld ?r98
    case y98 =>
      intro w9 hSw
      (try dsimp only at hSw)
      go_simp
      try with_reducible rfl
    try simp only [Act.put, List.setIfInBounds_toArray, List.set_cons_zero, List.set_cons_succ]
    refine hTake (i := 1) (v := ?v99) rfl (by kernel_rfl) (by kernel_rfl) (by kernel_rfl) (fun _ _ _ h => h) (Or.inl ⟨by rfl, ?y99⟩) hHeld ?r99
    case y99 =>
      intro w9 hSw
      (try dsimp only at hSw)
      go_simp
      try with_reducible rfl
    try simp only [Act.put, List.setIfInBounds_toArray, List.set_cons_zero, List.set_cons_succ]
    refine hTake (i := 2) (v := ?v100) rfl (by kernel_rfl) (by kernel_rfl) (by kernel_rfl) (fun _ _ _ h => h) (Or.inl ⟨by rfl, ?y100⟩) hHeld ?r100
    case y100 =>
      intro w9 hSw
      (try dsimp only at hSw)
      go_simp
      try with_reducible rfl
    try simp only [Act.put, List.setIfInBounds_toArray, List.set_cons_zero, List.set_cons_succ]
    refine hTake (i := 3) (v := ?v101) rfl (by kernel_rfl) (by kernel_rfl) (by kernel_rfl) (fun _ _ _ h => h) (Or.inl ⟨by rfl, ?y101⟩) hHeld ?r101
    case y101 =>
      intro w9 hSw
      (try dsimp only at hSw)
      go_simp
      try with_reducible rfl
    try simp only [Act.put, List.setIfInBounds_toArray, List.set_cons_zero, List.set_cons_succ]
    refine hTake (i := 4) (v := ?v102) rfl (by kernel_rfl) (by kernel_rfl) (by kernel_rfl) (fun _ _ _ h => h) (Or.inl ⟨by rfl, ?y102⟩) hHeld ?r102
    case y102 =>
      intro w9 hSw
      (try dsimp only at hSw)
      go_simp
      try with_reducible rfl
    try simp only [Act.put, List.setIfInBounds_toArray, List.set_cons_zero, List.set_cons_succ]
    refine hTake (i := 5) (v := ?v103) rfl (by kernel_rfl) (by kernel_rfl) (by kernel_rfl) (fun _ _ _ h => h) (Or.inl ⟨by rfl, ?y103⟩) hHeld ?r103
    case y103 =>
      intro w9 hSw
      (try dsimp only at hSw)
      go_simp
      try with_reducible rfl
    try simp only [Act.put, List.setIfInBounds_toArray, List.set_cons_zero, List.set_cons_succ]
    refine hTake (i := 6) (v := ?v104) rfl (by kernel_rfl) (by kernel_rfl) (by kernel_rfl) (fun _ _ _ h => h) (Or.inl ⟨by rfl, ?y104⟩) hHeld ?r104
    case y104 =>
      intro w9 hSw
      (try dsimp only at hSw)
      go_simp
      try with_reducible rfl
    try simp only [Act.put, List.setIfInBounds_toArray, List.set_cons_zero, List.set_cons_succ]
    refine hTake (i := 7) (v := ?v105) rfl (by kernel_rfl) (by kernel_rfl) (by kernel_rfl) (fun _ _ _ h => h) (Or.inl ⟨by rfl, ?y105⟩) hHeld ?r105
    case y105 =>
      intro w9 hSw
      (try dsimp only at hSw)
      go_simp
      try with_reducible rfl
    try simp only [Act.put, List.setIfInBounds_toArray, List.set_cons_zero, List.set_cons_succ]
    refine hTake (i := 8) (v := ?v106) rfl (by kernel_rfl) (by kernel_rfl) (by kernel_rfl) (fun _ _ _ h => h) (Or.inl ⟨by rfl, ?y106⟩) hHeld ?r106
    case y106 =>
      intro w9 hSw
      (try dsimp only at hSw)
      go_simp
      try with_reducible rfl
    try simp only [Act.put, List.setIfInBounds_toArray, List.set_cons_zero, List.set_cons_succ]
    refine hTake (i := 9) (v := ?v107) rfl (by kernel_rfl) (by kernel_rfl) (by kernel_rfl) (fun _ _ _ h => h) (Or.inl ⟨by rfl, ?y107⟩) hHeld ?r107
    case y107 =>
      intro w9 hSw
      (try dsimp only at hSw)
      go_simp
      try with_reducible rfl
    try simp only [Act.put, List.setIfInBounds_toArray, List.set_cons_zero, List.set_cons_succ]
    refine hTake (i := 10) (v := ?v108) rfl (by kernel_rfl) (by kernel_rfl) (by kernel_rfl) (fun _ _ _ h => h) (Or.inl ⟨by rfl, ?y108⟩) hHeld ?r108
    case y108 =>
      intro w9 hSw
      (try dsimp only at hSw)
      go_simp
      try with_reducible rfl
    try simp only [Act.put, List.setIfInBounds_toArray, List.set_cons_zero, List.set_cons_succ]
    refine hTake (i := 11) (v := ?v109) rfl (by kernel_rfl) (by kernel_rfl) (by kernel_rfl) (fun _ _ _ h => h) (Or.inl ⟨by rfl, ?y109⟩) hHeld ?r109
    case y109 =>
      intro w9 hSw
      (try dsimp only at hSw)
      go_simp
      try with_reducible rfl
    try simp only [Act.put, List.setIfInBounds_toArray, List.set_cons_zero, List.set_cons_succ]
    refine hTake (i := 12) (v := ?v110) rfl (by kernel_rfl) (by kernel_rfl) (by kernel_rfl) (fun _ _ _ h => h) (Or.inl ⟨by rfl, ?y110⟩) hHeld ?r110
    case y110 =>
      intro w9 hSw
      (try dsimp only at hSw)
      go_simp
      try with_reducible rfl
    try simp only [Act.put, List.setIfInBounds_toArray, List.set_cons_zero, List.set_cons_succ]
    refine hTake (i := 13) (v := ?v111) rfl (by kernel_rfl) (by kernel_rfl) (by kernel_rfl) (fun _ _ _ h => h) (Or.inl ⟨by rfl, ?y111⟩) hHeld ?r111
    case y111 =>
      intro w9 hSw
      (try dsimp only at hSw)
      go_simp
      try with_reducible rfl
    try simp only [Act.put, List.setIfInBounds_toArray, List.set_cons_zero, List.set_cons_succ]
    refine hTake (i := 14) (v := ?v112) rfl (by kernel_rfl) (by kernel_rfl) (by kernel_rfl) (fun _ _ _ h => h) (Or.inl ⟨by rfl, ?y112⟩) hHeld ?r112
    case y112 =>
      intro w9 hSw
      (try dsimp only at hSw)
      go_simp
      try with_reducible rfl
    try simp only [Act.put, List.setIfInBounds_toArray, List.set_cons_zero, List.set_cons_succ]
    refine hTake (i := 15) (v := ?v113) rfl (by kernel_rfl) (by kernel_rfl) (by kernel_rfl) (fun _ _ _ h => h) (Or.inl ⟨by rfl, ?y113⟩) hHeld ?r113
    case y113 =>
      intro w9 hSw
      (try dsimp only at hSw)
      go_simp
      try with_reducible rfl
    try simp only [Act.put, List.setIfInBounds_toArray, List.set_cons_zero, List.set_cons_succ]
    refine hTake (i := 16) (v := ?v114) rfl (by kernel_rfl) (by kernel_rfl) (by kernel_rfl) (fun _ _ _ h => h) (Or.inl ⟨by rfl, ?y114⟩) hHeld ?r114
    case y114 =>
      intro w9 hSw
      (try dsimp only at hSw)
      go_simp
      try with_reducible rfl
    try simp only [Act.put, List.setIfInBounds_toArray, List.set_cons_zero, List.set_cons_succ]
    refine hTake (i := 17) (v := ?v115) rfl (by kernel_rfl) (by kernel_rfl) (by kernel_rfl) (fun _ _ _ h => h) (Or.inl ⟨by rfl, ?y115⟩) hHeld ?r115
    case y115 =>
      intro w9 hSw
      (try dsimp only at hSw)
      go_simp
      try with_reducible rfl
    try simp only [Act.put, List.setIfInBounds_toArray, List.set_cons_zero, List.set_cons_succ]
    refine hTake (i := 18) (v := ?v116) rfl (by kernel_rfl) (by kernel_rfl) (by kernel_rfl) (fun _ _ _ h => h) (Or.inl ⟨by rfl, ?y116⟩) hHeld ?r116
    case y116 =>
      intro w9 hSw
      (try dsimp only at hSw)
      go_simp
      try with_reducible rfl
    try simp only [Act.put, List.setIfInBounds_toArray, List.set_cons_zero, List.set_cons_succ]
    refine hTake (i := 19) (v := ?v117) rfl (by kernel_rfl) (by kernel_rfl) (by kernel_rfl) (fun _ _ _ h => h) (Or.inl ⟨by rfl, ?y117⟩) hHeld ?r117
    case y117 =>
      intro w9 hSw
      (try dsimp only at hSw)
      go_simp
      try with_reducible rfl
    try simp only [Act.put, List.setIfInBounds_toArray, List.set_cons_zero, List.set_cons_succ]
    refine hTake (i := 20) (v := ?v118) rfl (by kernel_rfl) (by kernel_rfl) (by kernel_rfl) (fun _ _ _ h => h) (Or.inl ⟨by rfl, ?y118⟩) hHeld ?r118
    case y118 =>
      intro w9 hSw
      (try dsimp only at hSw)
      go_simp
      try with_reducible rfl
    try simp only [Act.put, List.setIfInBounds_toArray, List.set_cons_zero, List.set_cons_succ]
    refine hTake (i := 21) (v := ?v119) rfl (by kernel_rfl) (by kernel_rfl) (by kernel_rfl) (fun _ _ _ h => h) (Or.inl ⟨by rfl, ?y119⟩) hHeld ?r119
    case y119 =>
      intro w9 hSw
      (try dsimp only at hSw)
      go_simp
      try with_reducible rfl
    try simp only [Act.put, List.setIfInBounds_toArray, List.set_cons_zero, List.set_cons_succ]
    refine hTake (i := 22) (v := ?v120) rfl (by kernel_rfl) (by kernel_rfl) (by kernel_rfl) (fun _ _ _ h => h) (Or.inl ⟨by rfl, ?y120⟩) hHeld ?r120
    case y120 =>
      intro w9 hSw
      (try dsimp only at hSw)
      go_simp
      try with_reducible rfl
    try simp only [Act.put, List.setIfInBounds_toArray, List.set_cons_zero, List.set_cons_succ]
    refine hCall (i := 23) rfl (by kernel_rfl) (by rfl) (fun K hK => ?_)
    go_simp
    refine (hct _ hP).mono ?_
    rintro e u1 ⟨rfl, hb1⟩
    replace hP := hP.below hb1
    replace E2 := E2.below hb1
    replace X1 := X1.below hb1
    replace X2 := X2.below hb1
    replace hbW : Below w.heap.size w u1 := hbW.trans (hb1.mono hbW.size)
    clear hb1
    clear p00 p01 p02 p03 p10 p11 p20 p21
    obtain ⟨p00, p01, p02, p03⟩ := E2.cells
    obtain ⟨p10, p11, _⟩ := X1.cells
    obtain ⟨p20, p21, _⟩ := X2.cells
    go_wp2_with fail
    refine hK.out _ _ ?_ (fun hHeld => ?_)
    · (try dsimp only)
      exact ⟨p00, p01, p02, p03, p10, p11, p20, p21⟩
    clear hK K
    try simp only [Act.put, List.setIfInBounds_toArray, List.set_cons_zero, List.set_cons_succ]
    refine hTake (i := 24) (v := ?v121) rfl (by kernel_rfl) (by kernel_rfl) (by kernel_rfl) (fun _ _ _ h => h) (Or.inl ⟨by rfl, ?y121⟩) hHeld ?r121
    case y121 =>
      intro w9 hSw
      (try dsimp only at hSw)
      go_simp
      try with_reducible rfl
    try simp only [Act.put, List.setIfInBounds_toArray, List.set_cons_zero, List.set_cons_succ]
    refine hTake (i := 25) (v := ?v122) rfl (by kernel_rfl) (by kernel_rfl) (by kernel_rfl) (fun _ _ _ h => h) (Or.inl ⟨by rfl, ?y122⟩) hHeld ?r122
    case y122 =>
      intro w9 hSw
      (try dsimp only at hSw)
      go_simp
      try with_reducible rfl
    try simp only [Act.put, List.setIfInBounds_toArray, List.set_cons_zero, List.set_cons_succ]
    refine wpAnyH_done (by kernel_rfl) ?_ _
    go_wp2
    go_ret
    exact ⟨rt_bool HFN.out.symm, hbW⟩
  | true =>
    have HMEM : Hid ((0, 0) ∈ l) := by show (0, 0) ∈ l; exact of_decide_eq_true hq
    rw [hq] at hct
    clear hq
    go_enter Tryz.func8, Tryz.ntmps8
    go_wp2_with fail
    refine (ends_any _).mono ?_
    rintro e u0 ⟨rfl, hbu⟩
    replace E2 := E2.below hbu
    replace hP := hP.below hbu
    go_wp2_with fail
    obtain ⟨W, hW, X1, X2, hb9⟩ : ∃ W, W = (u0.alloc (.cells #[.int .i64 (-16384), .int .i64 (-16384)] 49)).alloc (.cells #[.int .i64 16384, .int .i64 16384] 49) ∧ BxP W u0.heap.size (.int .i64 (-16384)) (.int .i64 (-16384)) ∧ BxP W (u0.heap.size + 1) (.int .i64 16384) (.int .i64 16384) ∧ Below u0.heap.size u0 W := ⟨_, rfl, (BxP.new u0 _ _).below (bl1 _), BxP.new1 u0 _ _ _, bl2 _ _⟩
    rw [← hW]
    clear hW
    replace E2 := E2.below hb9
    replace hP := hP.below hb9
    have hbW : Below w.heap.size w W := hbu.trans (hb9.mono hbu.size)
    clear hb9
    obtain ⟨p00, p01, p02, p03⟩ := E2.cells
    obtain ⟨p10, p11, _⟩ := X1.cells
    obtain ⟨p20, p21, _⟩ := X2.cells
    refine wp_region_held_drew (S := (fun u => u.cell? ⟨b, off, none⟩ = some (.int .i64 (-16384)) ∧ u.cell? ⟨b, (off + 1), none⟩ = some (.int .i64 (-16384)) ∧ u.cell? ⟨b, (off + m * 2), none⟩ = some (.int .i64 16384) ∧ u.cell? ⟨b, (off + m * 2 + 1), none⟩ = some (.int .i64 16384) ∧ u.cell? ⟨u0.heap.size, 0, none⟩ = some (.int .i64 (-16384)) ∧ u.cell? ⟨u0.heap.size, 1, none⟩ = some (.int .i64 (-16384)) ∧ u.cell? ⟨(u0.heap.size + 1), 0, none⟩ = some (.int .i64 16384) ∧ u.cell? ⟨(u0.heap.size + 1), 1, none⟩ = some (.int .i64 16384))) (by kernel_rfl) ?_ (fun hHeld => ?_)
    · (try dsimp only)
      go_keep
    have hdr : Below W.heap.size W W.drew := Below.drew1
    generalize W.drew = ud123 at hdr hHeld ⊢
    replace hP := hP.below hdr
    replace E2 := E2.below hdr
    replace X1 := X1.below hdr
    replace X2 := X2.below hdr
    replace hbW : Below w.heap.size w ud123 := hbW.trans (hdr.mono hbW.size)
    clear hdr
    clear p00 p01 p02 p03 p10 p11 p20 p21
    obtain ⟨p00, p01, p02, p03⟩ := E2.cells
    obtain ⟨p10, p11, _⟩ := X1.cells
    obtain ⟨p20, p21, _⟩ := X2.cells
    refine hTake (i := 0) (v := ?v124) rfl (by kernel_rfl) (by kernel_rfl) (by kernel_rfl) (fun _ _ _ h => h) (Or.inl ⟨by rfl, ?y124⟩) hHeld ?r124
    case y124 =>
      intro w9 hSw
      (try dsimp only at hSw)
      go_simp
      try with_reducible rfl
    try simp only [Act.put, List.setIfInBounds_toArray, List.set_cons_zero, List.set_cons_succ]
    refine hTake (i := 1) (v := ?v125) rfl (by kernel_rfl) (by kernel_rfl) (by kernel_rfl) (fun _ _ _ h => h) (Or.inl ⟨by rfl, ?y125⟩) hHeld ?r125
    case y125 =>
      intro w9 hSw
      (try dsimp only at hSw)
      go_simp
      try with_reducible rfl
    try simp only [Act.put, List.setIfInBounds_toArray, List.set_cons_zero, List.set_cons_succ]
    refine hTake (i := 2) (v := ?v126) rfl (by kernel_rfl) (by kernel_rfl) (by kernel_rfl) (fun _ _ _ h => h) (Or.inl ⟨by rfl, ?y126⟩) hHeld ?r126
    case y126 =>
      intro w9 hSw
      (try dsimp only at hSw)
      go_simp
      try with_reducible rfl
    try simp only [Act.put, List.setIfInBounds_toArray, List.set_cons_zero, List.set_cons_succ]
    refine hTake (i := 3) (v := ?v127) rfl (by kernel_rfl) (by kernel_rfl) (by kernel_rfl) (fun _ _ _ h => h) (Or.inl ⟨by rfl, ?y127⟩) hHeld ?r127
    case y127 =>
      intro w9 hSw
      (try dsimp only at hSw)
      go_simp
      try with_reducible rfl
    try simp only [Act.put, List.setIfInBounds_toArray, List.set_cons_zero, List.set_cons_succ]
    refine hTake (i := 4) (v := ?v128) rfl (by kernel_rfl) (by kernel_rfl) (by kernel_rfl) (fun _ _ _ h => h) (Or.inl ⟨by rfl, ?y128⟩) hHeld ?r128
    case y128 =>
      intro w9 hSw
      (try dsimp only at hSw)
      go_simp
      try with_reducible rfl
    try simp only [Act.put, List.setIfInBounds_toArray, List.set_cons_zero, List.set_cons_succ]
    refine hTake (i := 5) (v := ?v129) rfl (by kernel_rfl) (by kernel_rfl) (by kernel_rfl) (fun _ _ _ h => h) (Or.inl ⟨by rfl, ?y129⟩) hHeld ?r129
    case y129 =>
      intro w9 hSw
      (try dsimp only at hSw)
      go_simp
      try with_reducible rfl
    try simp only [Act.put, List.setIfInBounds_toArray, List.set_cons_zero, List.set_cons_succ]
    refine hTake (i := 6) (v := ?v130) rfl (by kernel_rfl) (by kernel_rfl) (by kernel_rfl) (fun _ _ _ h => h) (Or.inl ⟨by rfl, ?y130⟩) hHeld ?r130
    case y130 =>
      intro w9 hSw
      (try dsimp only at hSw)
      go_simp
      try with_reducible rfl
    try simp only [Act.put, List.setIfInBounds_toArray, List.set_cons_zero, List.set_cons_succ]
    refine hTake (i := 7) (v := ?v131) rfl (by kernel_rfl) (by kernel_rfl) (by kernel_rfl) (fun _ _ _ h => h) (Or.inl ⟨by rfl, ?y131⟩) hHeld ?r131
    case y131 =>
      intro w9 hSw
      (try dsimp only at hSw)
      go_simp
      try with_reducible rfl
    try simp only [Act.put, List.setIfInBounds_toArray, List.set_cons_zero, List.set_cons_succ]
    refine hTake (i := 8) (v := ?v132) rfl (by kernel_rfl) (by kernel_rfl) (by kernel_rfl) (fun _ _ _ h => h) (Or.inl ⟨by rfl, ?y132⟩) hHeld ?r132
    case y132 =>
      intro w9 hSw
      (try dsimp only at hSw)
      go_simp
      try with_reducible rfl
    try simp only [Act.put, List.setIfInBounds_toArray, List.set_cons_zero, List.set_cons_succ]
    refine hTake (i := 9) (v := ?v133) rfl (by kernel_rfl) (by kernel_rfl) (by kernel_rfl) (fun _ _ _ h => h) (Or.inl ⟨by rfl, ?y133⟩) hHeld ?r133
    case y133 =>
      intro w9 hSw
      (try dsimp only at hSw)
      go_simp
      try with_reducible rfl
    try simp only [Act.put, List.setIfInBounds_toArray, List.set_cons_zero, List.set_cons_succ]
    refine hTake (i := 10) (v := ?v134) rfl (by kernel_rfl) (by kernel_rfl) (by kernel_rfl) (fun _ _ _ h => h) (Or.inl ⟨by rfl, ?y134⟩) hHeld ?r134
    case y134 =>
      intro w9 hSw
      (try dsimp only at hSw)
      go_simp
      try with_reducible rfl
    try simp only [Act.put, List.setIfInBounds_toArray, List.set_cons_zero, List.set_cons_succ]
    refine hTake (i := 11) (v := ?v135) rfl (by kernel_rfl) (by kernel_rfl) (by kernel_rfl) (fun _ _ _ h => h) (Or.inl ⟨by rfl, ?y135⟩) hHeld ?r135
    case y135 =>
      intro w9 hSw
      (try dsimp only at hSw)
      go_simp
      try with_reducible rfl
    try simp only [Act.put, List.setIfInBounds_toArray, List.set_cons_zero, List.set_cons_succ]
    refine hTake (i := 12) (v := ?v136) rfl (by kernel_rfl) (by kernel_rfl) (by kernel_rfl) (fun _ _ _ h => h) (Or.inl ⟨by rfl, ?y136⟩) hHeld ?r136
    case y136 =>
      intro w9 hSw
      (try dsimp only at hSw)
      go_simp
      try with_reducible rfl
    try simp only [Act.put, List.setIfInBounds_toArray, List.set_cons_zero, List.set_cons_succ]
    refine hTake (i := 13) (v := ?v137) rfl (by kernel_rfl) (by kernel_rfl) (by kernel_rfl) (fun _ _ _ h => h) (Or.inl ⟨by rfl, ?y137⟩) hHeld ?r137
    case y137 =>
      intro w9 hSw
      (try dsimp only at hSw)
      go_simp
      try with_reducible rfl
    try simp only [Act.put, List.setIfInBounds_toArray, List.set_cons_zero, List.set_cons_succ]
    refine hTake (i := 14) (v := ?v138) rfl (by kernel_rfl) (by kernel_rfl) (by kernel_rfl) (fun _ _ _ h => h) (Or.inl ⟨by rfl, ?y138⟩) hHeld ?r138
    case y138 =>
      intro w9 hSw
      (try dsimp only at hSw)
      go_simp
      try with_reducible rfl
    try simp only [Act.put, List.setIfInBounds_toArray, List.set_cons_zero, List.set_cons_succ]
    refine hTake (i := 15) (v := ?v139) rfl (by kernel_rfl) (by kernel_rfl) (by kernel_rfl) (fun _ _ _ h => h) (Or.inl ⟨by rfl, ?y139⟩) hHeld ?r139
    case y139 =>
      intro w9 hSw
      (try dsimp only at hSw)
      go_simp
      try with_reducible rfl
    try simp only [Act.put, List.setIfInBounds_toArray, List.set_cons_zero, List.set_cons_succ]
    refine hTake (i := 16) (v := ?v140) rfl (by kernel_rfl) (by kernel_rfl) (by kernel_rfl) (fun _ _ _ h => h) (Or.inl ⟨by rfl, ?y140⟩) hHeld ?r140
    case y140 =>
      intro w9 hSw
      (try dsimp only at hSw)
      go_simp
      try with_reducible rfl
    try simp only [Act.put, List.setIfInBounds_toArray, List.set_cons_zero, List.set_cons_succ]
    refine hTake (i := 17) (v := ?v141) rfl (by kernel_rfl) (by kernel_rfl) (by kernel_rfl) (fun _ _ _ h => h) (Or.inl ⟨by rfl, ?y141⟩) hHeld ?r141
    case y141 =>
      intro w9 hSw
      (try dsimp only at hSw)
      go_simp
      try with_reducible rfl
    try simp only [Act.put, List.setIfInBounds_toArray, List.set_cons_zero, List.set_cons_succ]
    refine hTake (i := 18) (v := ?v142) rfl (by kernel_rfl) (by kernel_rfl) (by kernel_rfl) (fun _ _ _ h => h) (Or.inl ⟨by rfl, ?y142⟩) hHeld ?r142
    case y142 =>
      intro w9 hSw
      (try dsimp only at hSw)
      go_simp
      try with_reducible rfl
    try simp only [Act.put, List.setIfInBounds_toArray, List.set_cons_zero, List.set_cons_succ]
    refine hTake (i := 19) (v := ?v143) rfl (by kernel_rfl) (by kernel_rfl) (by kernel_rfl) (fun _ _ _ h => h) (Or.inl ⟨by rfl, ?y143⟩) hHeld ?r143
    case y143 =>
      intro w9 hSw
      (try dsimp only at hSw)
      go_simp
      try with_reducible rfl
    try simp only [Act.put, List.setIfInBounds_toArray, List.set_cons_zero, List.set_cons_succ]
    refine hTake (i := 20) (v := ?v144) rfl (by kernel_rfl) (by kernel_rfl) (by kernel_rfl) (fun _ _ _ h => h) (Or.inl ⟨by rfl, ?y144⟩) hHeld ?r144
    case y144 =>
      intro w9 hSw
      (try dsimp only at hSw)
      go_simp
      try with_reducible rfl
    try simp only [Act.put, List.setIfInBounds_toArray, List.set_cons_zero, List.set_cons_succ]
    refine hTake (i := 21) (v := ?v145) rfl (by kernel_rfl) (by kernel_rfl) (by kernel_rfl) (fun _ _ _ h => h) (Or.inl ⟨by rfl, ?y145⟩) hHeld ?r145
    case y145 =>
      intro w9 hSw
      (try dsimp only at hSw)
      go_simp
      try with_reducible rfl
    try simp only [Act.put, List.setIfInBounds_toArray, List.set_cons_zero, List.set_cons_succ]
    refine hTake (i := 22) (v := ?v146) rfl (by kernel_rfl) (by kernel_rfl) (by kernel_rfl) (fun _ _ _ h => h) (Or.inl ⟨by rfl, ?y146⟩) hHeld ?r146
    case y146 =>
      intro w9 hSw
      (try dsimp only at hSw)
      go_simp
      try with_reducible rfl
    try simp only [Act.put, List.setIfInBounds_toArray, List.set_cons_zero, List.set_cons_succ]
    refine hCall (i := 23) rfl (by kernel_rfl) (by rfl) (fun K hK => ?_)
    go_simp
    refine (hct _ hP).mono ?_
    rintro e u1 ⟨rfl, hb1⟩
    replace hP := hP.below hb1
    replace E2 := E2.below hb1
    replace X1 := X1.below hb1
    replace X2 := X2.below hb1
    replace hbW : Below w.heap.size w u1 := hbW.trans (hb1.mono hbW.size)
    clear hb1
    clear p00 p01 p02 p03 p10 p11 p20 p21
    obtain ⟨p00, p01, p02, p03⟩ := E2.cells
    obtain ⟨p10, p11, _⟩ := X1.cells
    obtain ⟨p20, p21, _⟩ := X2.cells
    go_wp2_with fail
    refine hK.out _ _ ?_ (fun hHeld => ?_)
    · (try dsimp only)
      exact ⟨p00, p01, p02, p03, p10, p11, p20, p21⟩
    clear hK K
    try simp only [Act.put, List.setIfInBounds_toArray, List.set_cons_zero, List.set_cons_succ]
    refine hTake (i := 24) (v := ?v147) rfl (by kernel_rfl) (by kernel_rfl) (by kernel_rfl) (fun _ _ _ h => h) (Or.inl ⟨by rfl, ?y147⟩) hHeld ?r147
    case y147 =>
      intro w9 hSw
      (try dsimp only at hSw)
      go_simp
      try with_reducible rfl
    try simp only [Act.put, List.setIfInBounds_toArray, List.set_cons_zero, List.set_cons_succ]
    refine hTake (i := 25) (v := ?v148) rfl (by kernel_rfl) (by kernel_rfl) (by kernel_rfl) (fun _ _ _ h => h) (Or.inl ⟨by rfl, ?y148⟩) hHeld ?r148
    case y148 =>
      intro w9 hSw
      (try dsimp only at hSw)
      go_simp
      try with_reducible rfl
    try simp only [Act.put, List.setIfInBounds_toArray, List.set_cons_zero, List.set_cons_succ]
    refine wpAnyH_done (by kernel_rfl) ?_ _
    clear p00 p01 p02 p03 p10 p11 p20 p21 E2 X1 X2 hP hct
    go_wp2
    go_loopw [5] (fun i wr => ∃ j : Nat, j < l.length ∧ i = .int .i64 ((j : Int) + 1) ∧ (∀ i, i < j → i + 1 < l.length → (l.getD i (0, 0)).1 < (l.getD (i + 1) (0, 0)).1 ∧ (l.getD i (0, 0)).2 ≤ (l.getD (i + 1) (0, 0)).2) ∧ Below w.heap.size w wr) (fun i _ => l.length + 1 - (intOf i).toNat)
    case atStart => exact ⟨0, m4, rfl, (fun j hj => by omega), hbW⟩
    case round =>
      obtain ⟨j, hj, rfl, hno, hB⟩ := hrel
      by_cases hkn : j + 1 < l.length
      · obtain ⟨_, _, ea, hb, hT⟩ := HH.out.two hkn
        cases ea
        have T2 := hT.below hB
        have HNO2 : Hid (∀ i, i < j → i + 1 < l.length → (l.getD i (0, 0)).1 < (l.getD (i + 1) (0, 0)).1 ∧ (l.getD i (0, 0)).2 ≤ (l.getD (i + 1) (0, 0)).2) := hno
        have HRI : Hid (RiP l → (l.getD j (0, 0)).1 < (l.getD (j + 1) (0, 0)).1 ∧ (l.getD j (0, 0)).2 ≤ (l.getD (j + 1) (0, 0)).2) := fun hr => hr j hkn
        obtain ⟨s, hs⟩ : ∃ s, l.getD j (0, 0) = s := ⟨_, rfl⟩
        obtain ⟨t, ht⟩ : ∃ s, l.getD (j + 1) (0, 0) = s := ⟨_, rfl⟩
        rw [hs, ht] at T2 HRI
        have HST2 : Hid (l.getD j (0, 0) = s ∧ l.getD (j + 1) (0, 0) = t) := ⟨hs, ht⟩
        clear hs ht hno hT
        obtain ⟨x0, y0⟩ := s
        obtain ⟨x1, y1⟩ := t
        dsimp only at T2 HRI
        obtain ⟨d0, d1, d2, d3⟩ := T2.cells
        have hwr : IntKind.i64.wrap (j : Int) = j := wrapi64 (by omega) (by omega)
        have hj0 : (0 : Int) ≤ (j : Int) := by omega
        have hj1 : (0 : Int) ≤ (j : Int) + 1 := by omega
        have hj2 : (j : Int) < (l.length : Int) := by omega
        have hj3 : (j : Int) + 1 < (l.length : Int) := by omega
        clear T2
        by_cases hx : x1 ≤ x0
        · have HFN : Hid (frP l = false) := HNO.out (fun h => by have := (HRI.out h.2.2.2.2).1; omega)
          have gx : decide (x1 ≤ x0) = true := decide_eq_true hx
          go_wp2_with fail
          go_quiet (fail)
          go_wp2
          go_ret
          exact ⟨rt_bool HFN.out.symm, below_drewN hB _⟩
        have gx : decide (x1 ≤ x0) = false := decide_eq_false hx
        by_cases hy : y1 < y0
        · have HFN : Hid (frP l = false) := HNO.out (fun h => by have := (HRI.out h.2.2.2.2).2; omega)
          have gy : decide (y1 < y0) = true := decide_eq_true hy
          go_wp2_with fail
          go_quiet (fail)
          go_wp2
          go_ret
          exact ⟨rt_bool HFN.out.symm, below_drewN hB _⟩
        have gy : decide (y1 < y0) = false := decide_eq_false hy
        go_wp2_with fail
        go_quiet (fail)
        go_wp2
        go_roundw
        case rel =>
          refine ⟨j + 1, by omega, by go_num, fun i hi hi2 => ?_, below_drewN hB _⟩
          rcases Nat.lt_or_ge i j with h1 | h1
          · exact HNO2.out i h1 hi2
          · have : i = j := by omega
            rw [this, HST2.out.1, HST2.out.2]
            exact ⟨by omega, by omega⟩
        case measure => simp [intOf]; omega
      · have HFN : Hid (frP l = true) := HF.out.2 ⟨by omega, by simp, by simp, HMEM.out, fun i hi => hno i (by omega) hi⟩
        have g9 : ¬ (j : Int) + 1 < (l.length : Int) := by omega
        clear hno
        go_wp2
        go_ret
        exact ⟨rt_bool HFN.out.symm, hB⟩

end Go.Proofs.YtdholmnniccbcaaGreatDoor
