/-
  foundryref07.has, foundryref07.Formed, foundryref07.Plain: the walks.
  foundryref07.Plain: the walk.
-/
import Derived.Test.YtdpafdeoepbhaaaGreatZ17
import Derived.Test.YtdpafdeoepbhaaaGreatZ23
namespace Go.Proofs.YtdpafdeoepbhaaaGreat
open Go.RowKit Go.Maps
set_option linter.unusedSimpArgs false
set_option linter.unusedVariables false

/-- One pair at the head. -/
def HeadP (w : World) (b off : Nat) (x y : Int) : Prop := b < w.heap.size ∧ w.cell? ⟨b, off, none⟩ = some (.int .i64 x) ∧ w.cell? ⟨b, off + 1, none⟩ = some (.int .i64 y)
theorem HeadP.cells {w : World} {b off : Nat} {x y : Int} (h : HeadP w b off x y) : w.cell? ⟨b, off, none⟩ = some (.int .i64 x) ∧ w.cell? ⟨b, off + 1, none⟩ = some (.int .i64 y) := h.2
theorem HeadP.below {w w' : World} {b off : Nat} {x y : Int} (h : HeadP w b off x y) (hb : Below w.heap.size w w') : HeadP w' b off x y := ⟨Nat.lt_of_lt_of_le h.1 hb.size, (hb.cell (p := ⟨b, off, none⟩) h.1).trans h.2.1, (hb.cell (p := ⟨b, off + 1, none⟩) h.1).trans h.2.2⟩
theorem Pz.head {w : World} {a : Option Addr} {cap : Nat} {l : List Pr} (h : Pz w a cap l) (hk : 0 < l.length) : ∃ b off, a = some ⟨b, off, none⟩ ∧ HeadP w b off (l.getD 0 (0, 0)).1 (l.getD 0 (0, 0)).2 := by
  obtain ⟨b, off, ea, hb, d0, d1⟩ := h.2.2.2 0 hk
  rw [Nat.zero_mul, Nat.add_zero] at d0 d1
  exact ⟨b, off, ea, hb, d0, d1⟩

set_option maxHeartbeats 1000000 in
set_option maxRecDepth 100000 in
theorem shas_any (a : Option Addr) (cap : Nat) (l : List Pr) (z : Int) (w : World) (h : Pz w a cap l) :
    Calls Tryz.prog 61 #[.slice a l.length cap, .int .i64 z] w fun e w' => e = .returned (.bool (decide ((z, z) ∈ l))) ∧ Below w.heap.size w w' := by
  have k1 := h.1
  have k2 := h.2.1
  unfold maxLen at k2
  have HP : Hid (Pz w a cap l) := h
  clear h
  go_enter Tryz.func61, Tryz.ntmps61
  go_wp2
  go_loopw [5] (fun i wr => ∃ k : Nat, k ≤ l.length ∧ i = .int .i64 k ∧ (∀ j, j < k → l.getD j (0, 0) ≠ (z, z)) ∧ Below w.heap.size w wr) (fun i _ => l.length - (intOf i).toNat)
  case atStart => exact ⟨0, Nat.zero_le _, rfl, (fun j hj => by omega), Below.refl _ _⟩
  case round =>
    obtain ⟨k, hk, rfl, hno, hB⟩ := hrel
    by_cases hkn : k < l.length
    · obtain ⟨b, off, ea, hb, d0, d1⟩ := HP.out.at hB k hkn
      subst ea
      have hmem := getP_mem hkn
      have HNO : Hid (l.getD k (0, 0) ≠ (z, z) → ∀ j, j < k + 1 → l.getD j (0, 0) ≠ (z, z)) := fun hn j hj => by
        rcases Nat.lt_or_ge j k with h1 | h1
        · exact hno j h1
        · rw [show j = k by omega]; exact hn
      obtain ⟨s, hs⟩ : ∃ s, l.getD k (0, 0) = s := ⟨_, rfl⟩
      rw [hs] at d0 d1 hmem HNO
      obtain ⟨x, y⟩ := s
      dsimp only at d0 d1
      clear hs hno
      by_cases hx : x = z
      · have gx : (x == z) = true := by simp [hx]
        by_cases hy : y = z
        · have gy : (y == z) = true := by simp [hy]
          have HM : Hid ((z, z) ∈ l) := by show (z, z) ∈ l; rw [← hx] at hy ⊢; rw [hy] at hmem; exact hmem
          clear hmem HNO hx hy
          go_wp2
          go_ret
          exact ⟨rt_bool (decide_eq_true HM.out).symm, hB⟩
        · have gy : (y == z) = false := by simp [hy]
          have HN : Hid (∀ j, j < k + 1 → l.getD j (0, 0) ≠ (z, z)) := HNO.out (fun e => by cases e; exact hy rfl)
          clear hmem HNO hx hy
          go_wp2
          go_roundw
          case rel => exact ⟨k + 1, by omega, by go_num, HN.out, hB⟩
          case measure => simp [intOf]; omega
      · have gx : (x == z) = false := by simp [hx]
        have HN : Hid (∀ j, j < k + 1 → l.getD j (0, 0) ≠ (z, z)) := HNO.out (fun e => by cases e; exact hx rfl)
        clear hmem HNO hx
        go_wp2
        go_roundw
        case rel => exact ⟨k + 1, by omega, by go_num, HN.out, hB⟩
        case measure => simp [intOf]; omega
    · obtain rfl : k = l.length := by omega
      have HN : Hid (¬ (z, z) ∈ l) := fun hm => by obtain ⟨j, hj, e⟩ := memP hm; exact hno j hj e
      clear hno
      go_wp2
      go_ret
      exact ⟨rt_bool (decide_eq_false HN.out).symm, hB⟩

set_option maxHeartbeats 4000000 in
set_option maxRecDepth 100000 in
theorem sformP_any (a : Option Addr) (cap : Nat) (l : List Pr) (w : World) (h : Pz w a cap l) :
    Calls Tryz.prog 26 #[.slice a l.length cap] w fun e w' => e = .returned (.bool (frP l)) ∧ Below w.heap.size w w' := by
  have k1 := h.1
  have k2 := h.2.1
  unfold maxLen at k2
  by_cases h0 : l.length = 0
  · have g0 : ((l.length : Int) == 0) = true := by simp [h0]
    have HFN : Hid (frP l = true) := frP_iff.2 (.inl h0)
    clear h0
    go_enter Tryz.func26, Tryz.ntmps26
    go_wp2
    go_ret
    exact ⟨rt_bool HFN.out.symm, Below.refl _ _⟩
  have g0 : ((l.length : Int) == 0) = false := by simp; intro e; exact h0 (by rw [e]; rfl)
  have HF : Hid (frP l = true ↔ DocP l) := by
    show _ ↔ _
    rw [frP_iff, FrP, FpP.doc]
    exact ⟨fun hh => hh.resolve_left h0, .inr⟩
  have HNO : Hid (¬ DocP l → frP l = false) := fun hn => Bool.eq_false_iff.2 (fun e => hn (HF.out.1 e))
  by_cases hn3 : l.length < 3
  · have g1 : (l.length : Int) < 3 := by omega
    have HFN : Hid (frP l = false) := HNO.out (fun hh => by have := hh.1; omega)
    go_enter Tryz.func26, Tryz.ntmps26
    go_wp2
    go_ret
    exact ⟨rt_bool HFN.out.symm, Below.refl _ _⟩
  have g1 : ¬ (l.length : Int) < 3 := by omega
  have gd1 : decide ((l.length : Int) < 3) = false := decide_eq_false g1
  by_cases hn16 : 16 < l.length
  · have g2 : (16 : Int) < (l.length : Int) := by omega
    have HFN : Hid (frP l = false) := HNO.out (fun hh => by have := hh.2.1; omega)
    go_enter Tryz.func26, Tryz.ntmps26
    go_wp2
    go_ret
    exact ⟨rt_bool HFN.out.symm, Below.refl _ _⟩
  have g2 : ¬ (16 : Int) < (l.length : Int) := by omega
  have gd2 : decide ((16 : Int) < (l.length : Int)) = false := decide_eq_false g2
  have HP : Hid (Pz w a cap l) := h
  clear h h0
  go_enter Tryz.func26, Tryz.ntmps26
  go_wp2
  go_loopw [3] (fun i wr => ∃ k : Nat, k ≤ l.length ∧ i = .int .i64 k ∧ ((∀ j, j < k → crd (l.getD j (0, 0)).1 = true ∧ crd (l.getD j (0, 0)).2 = true) ∧ ∀ j, j + 1 < k → (l.getD j (0, 0)).1 < (l.getD (j + 1) (0, 0)).1 ∧ (l.getD j (0, 0)).2 ≤ (l.getD (j + 1) (0, 0)).2) ∧ Below w.heap.size w wr) (fun i _ => l.length - (intOf i).toNat)
  case atStart => exact ⟨0, Nat.zero_le _, rfl, ⟨(fun j hj => by omega), (fun j hj => by omega)⟩, Below.refl _ _⟩
  case round =>
    obtain ⟨k, hk, rfl, hno, hbW⟩ := hrel
    have HNO2 : Hid ((∀ j, j < k → crd (l.getD j (0, 0)).1 = true ∧ crd (l.getD j (0, 0)).2 = true) ∧ ∀ j, j + 1 < k → (l.getD j (0, 0)).1 < (l.getD (j + 1) (0, 0)).1 ∧ (l.getD j (0, 0)).2 ≤ (l.getD (j + 1) (0, 0)).2) := hno
    clear hno
    by_cases hkn : k < l.length
    · rcases Nat.eq_zero_or_pos k with rfl | hk0
      · obtain ⟨b, off, ea, hT⟩ := HP.out.head hkn
        subst ea
        have T2 := hT.below hbW
        have HDC : Hid (DocP l → crd (l.getD 0 (0, 0)).1 = true ∧ crd (l.getD 0 (0, 0)).2 = true) := fun hd => hd.2.2.1 0 hkn
        obtain ⟨s, hs⟩ : ∃ s, l.getD 0 (0, 0) = s := ⟨_, rfl⟩
        rw [hs] at T2 HDC
        have HS : Hid (l.getD 0 (0, 0) = s) := hs
        clear hs hT
        obtain ⟨x1, y1⟩ := s
        dsimp only at T2 HDC
        have m4 : 0 < l.length := by omega
        cases hcx : crd x1 with
        | false =>
          have HFN : Hid (frP l = false) := HNO.out (fun hd => by have := (HDC.out hd).1; rw [hcx] at this; cases this)
          obtain ⟨p00, p01⟩ := T2.cells
          go_wp2_with fail
          refine wp_region_held_drew (S := (fun u => u.cell? ⟨b, off, none⟩ = some (.int .i64 x1) ∧ u.cell? ⟨b, (off + 1), none⟩ = some (.int .i64 y1))) (by kernel_rfl) ?_ (fun hHeld => ?_)
          · (try dsimp only)
            go_keep
          have hdr : Below wr.heap.size wr wr.drew := Below.drew1
          generalize wr.drew = ud1 at hdr hHeld ⊢
          replace T2 := T2.below hdr
          replace hbW : Below w.heap.size w ud1 := hbW.trans (hdr.mono hbW.size)
          clear hdr
          clear p00 p01
          obtain ⟨p00, p01⟩ := T2.cells
          refine hT 0 hHeld ?_
          refine hT 1 hHeld ?_
          refine hT 2 hHeld ?_
          refine hT 3 hHeld ?_
          refine hT 4 hHeld ?_
          refine hCall (i := 5) rfl (by kernel_rfl) (by rfl) (fun K hK => ?_)
          go_simp
          refine (scoordB_any x1 _).mono ?_
          rintro e u1 ⟨rfl, hb1⟩
          replace T2 := T2.below hb1
          replace hbW : Below w.heap.size w u1 := hbW.trans (hb1.mono hbW.size)
          clear hb1
          rw [hcx]
          clear p00 p01
          obtain ⟨p00, p01⟩ := T2.cells
          go_wp2_with fail
          refine hK.out _ _ ?_ (fun hHeld => ?_)
          · (try dsimp only)
            exact ⟨p00, p01⟩
          clear hK K
          try simp only [Act.put, List.setIfInBounds_toArray, List.set_cons_zero, List.set_cons_succ]
          refine hT 6 hHeld ?_
          refine hT 7 hHeld ?_
          refine hN 8 hHeld ?_
          refine hN 9 hHeld ?_
          refine hN 10 hHeld ?_
          refine hN 11 hHeld ?_
          refine hN 12 hHeld ?_
          refine hN 13 hHeld ?_
          refine hN 14 hHeld ?_
          refine hT 15 hHeld ?_
          refine hT 16 hHeld ?_
          refine hN 17 hHeld ?_
          refine hN 18 hHeld ?_
          refine hN 19 hHeld ?_
          refine hN 20 hHeld ?_
          refine hN 21 hHeld ?_
          refine hN 22 hHeld ?_
          refine hN 23 hHeld ?_
          refine hN 24 hHeld ?_
          refine hN 25 hHeld ?_
          refine hN 26 hHeld ?_
          refine hN 27 hHeld ?_
          refine hN 28 hHeld ?_
          refine hN 29 hHeld ?_
          refine hN 30 hHeld ?_
          refine hN 31 hHeld ?_
          refine hN 32 hHeld ?_
          refine hN 33 hHeld ?_
          refine hN 34 hHeld ?_
          refine hN 35 hHeld ?_
          refine hN 36 hHeld ?_
          refine hN 37 hHeld ?_
          refine hN 38 hHeld ?_
          refine hN 39 hHeld ?_
          refine hN 40 hHeld ?_
          refine hN 41 hHeld ?_
          refine hN 42 hHeld ?_
          refine hN 43 hHeld ?_
          refine hN 44 hHeld ?_
          refine hN 45 hHeld ?_
          refine hN 46 hHeld ?_
          refine hT 47 hHeld ?_
          refine wpAnyH_done (by kernel_rfl) ?_ _
          go_wp2
          go_ret
          exact ⟨rt_bool HFN.out.symm, hbW⟩
        | true =>
          cases hcy : crd y1 with
          | false =>
            have HFN : Hid (frP l = false) := HNO.out (fun hd => by have := (HDC.out hd).2; rw [hcy] at this; cases this)
            obtain ⟨p00, p01⟩ := T2.cells
            go_wp2_with fail
            refine wp_region_held_drew (S := (fun u => u.cell? ⟨b, off, none⟩ = some (.int .i64 x1) ∧ u.cell? ⟨b, (off + 1), none⟩ = some (.int .i64 y1))) (by kernel_rfl) ?_ (fun hHeld => ?_)
            · (try dsimp only)
              go_keep
            have hdr : Below wr.heap.size wr wr.drew := Below.drew1
            generalize wr.drew = ud2 at hdr hHeld ⊢
            replace T2 := T2.below hdr
            replace hbW : Below w.heap.size w ud2 := hbW.trans (hdr.mono hbW.size)
            clear hdr
            clear p00 p01
            obtain ⟨p00, p01⟩ := T2.cells
            refine hT 0 hHeld ?_
            refine hT 1 hHeld ?_
            refine hT 2 hHeld ?_
            refine hT 3 hHeld ?_
            refine hT 4 hHeld ?_
            refine hCall (i := 5) rfl (by kernel_rfl) (by rfl) (fun K hK => ?_)
            go_simp
            refine (scoordB_any x1 _).mono ?_
            rintro e u1 ⟨rfl, hb1⟩
            replace T2 := T2.below hb1
            replace hbW : Below w.heap.size w u1 := hbW.trans (hb1.mono hbW.size)
            clear hb1
            rw [hcx]
            clear p00 p01
            obtain ⟨p00, p01⟩ := T2.cells
            go_wp2_with fail
            refine hK.out _ _ ?_ (fun hHeld => ?_)
            · (try dsimp only)
              exact ⟨p00, p01⟩
            clear hK K
            try simp only [Act.put, List.setIfInBounds_toArray, List.set_cons_zero, List.set_cons_succ]
            refine hT 6 hHeld ?_
            refine hT 7 hHeld ?_
            refine hT 8 hHeld ?_
            refine hT 9 hHeld ?_
            refine hT 10 hHeld ?_
            refine hT 11 hHeld ?_
            refine hT 12 hHeld ?_
            refine hCall (i := 13) rfl (by kernel_rfl) (by rfl) (fun K hK => ?_)
            go_simp
            refine (scoordB_any y1 _).mono ?_
            rintro e u2 ⟨rfl, hb2⟩
            replace T2 := T2.below hb2
            replace hbW : Below w.heap.size w u2 := hbW.trans (hb2.mono hbW.size)
            clear hb2
            rw [hcy]
            clear p00 p01
            obtain ⟨p00, p01⟩ := T2.cells
            go_wp2_with fail
            refine hK.out _ _ ?_ (fun hHeld => ?_)
            · (try dsimp only)
              exact ⟨p00, p01⟩
            clear hK K
            try simp only [Act.put, List.setIfInBounds_toArray, List.set_cons_zero, List.set_cons_succ]
            refine hT 14 hHeld ?_
            refine hT 15 hHeld ?_
            refine hT 16 hHeld ?_
            refine hN 17 hHeld ?_
            refine hN 18 hHeld ?_
            refine hN 19 hHeld ?_
            refine hN 20 hHeld ?_
            refine hN 21 hHeld ?_
            refine hN 22 hHeld ?_
            refine hN 23 hHeld ?_
            refine hN 24 hHeld ?_
            refine hN 25 hHeld ?_
            refine hN 26 hHeld ?_
            refine hN 27 hHeld ?_
            refine hN 28 hHeld ?_
            refine hN 29 hHeld ?_
            refine hN 30 hHeld ?_
            refine hN 31 hHeld ?_
            refine hN 32 hHeld ?_
            refine hN 33 hHeld ?_
            refine hN 34 hHeld ?_
            refine hN 35 hHeld ?_
            refine hN 36 hHeld ?_
            refine hN 37 hHeld ?_
            refine hN 38 hHeld ?_
            refine hN 39 hHeld ?_
            refine hN 40 hHeld ?_
            refine hN 41 hHeld ?_
            refine hN 42 hHeld ?_
            refine hN 43 hHeld ?_
            refine hN 44 hHeld ?_
            refine hN 45 hHeld ?_
            refine hN 46 hHeld ?_
            refine hT 47 hHeld ?_
            refine wpAnyH_done (by kernel_rfl) ?_ _
            go_wp2
            go_ret
            exact ⟨rt_bool HFN.out.symm, hbW⟩
          | true =>
            have q0 : decide ((0 : Int) < 0) = false := rfl
            obtain ⟨p00, p01⟩ := T2.cells
            go_wp2_with fail
            refine wp_region_held_drew (S := (fun u => u.cell? ⟨b, off, none⟩ = some (.int .i64 x1) ∧ u.cell? ⟨b, (off + 1), none⟩ = some (.int .i64 y1))) (by kernel_rfl) ?_ (fun hHeld => ?_)
            · (try dsimp only)
              go_keep
            have hdr : Below wr.heap.size wr wr.drew := Below.drew1
            generalize wr.drew = ud3 at hdr hHeld ⊢
            replace T2 := T2.below hdr
            replace hbW : Below w.heap.size w ud3 := hbW.trans (hdr.mono hbW.size)
            clear hdr
            clear p00 p01
            obtain ⟨p00, p01⟩ := T2.cells
            refine hT 0 hHeld ?_
            refine hT 1 hHeld ?_
            refine hT 2 hHeld ?_
            refine hT 3 hHeld ?_
            refine hT 4 hHeld ?_
            refine hCall (i := 5) rfl (by kernel_rfl) (by rfl) (fun K hK => ?_)
            go_simp
            refine (scoordB_any x1 _).mono ?_
            rintro e u1 ⟨rfl, hb1⟩
            replace T2 := T2.below hb1
            replace hbW : Below w.heap.size w u1 := hbW.trans (hb1.mono hbW.size)
            clear hb1
            rw [hcx]
            clear p00 p01
            obtain ⟨p00, p01⟩ := T2.cells
            go_wp2_with fail
            refine hK.out _ _ ?_ (fun hHeld => ?_)
            · (try dsimp only)
              exact ⟨p00, p01⟩
            clear hK K
            try simp only [Act.put, List.setIfInBounds_toArray, List.set_cons_zero, List.set_cons_succ]
            refine hT 6 hHeld ?_
            refine hT 7 hHeld ?_
            refine hT 8 hHeld ?_
            refine hT 9 hHeld ?_
            refine hT 10 hHeld ?_
            refine hT 11 hHeld ?_
            refine hT 12 hHeld ?_
            refine hCall (i := 13) rfl (by kernel_rfl) (by rfl) (fun K hK => ?_)
            go_simp
            refine (scoordB_any y1 _).mono ?_
            rintro e u2 ⟨rfl, hb2⟩
            replace T2 := T2.below hb2
            replace hbW : Below w.heap.size w u2 := hbW.trans (hb2.mono hbW.size)
            clear hb2
            rw [hcy]
            clear p00 p01
            obtain ⟨p00, p01⟩ := T2.cells
            go_wp2_with fail
            refine hK.out _ _ ?_ (fun hHeld => ?_)
            · (try dsimp only)
              exact ⟨p00, p01⟩
            clear hK K
            try simp only [Act.put, List.setIfInBounds_toArray, List.set_cons_zero, List.set_cons_succ]
            refine hT 14 hHeld ?_
            refine hT 15 hHeld ?_
            refine hT 16 hHeld ?_
            refine hT 17 hHeld ?_
            refine hT 18 hHeld ?_
            refine hT 19 hHeld ?_
            refine hN 20 hHeld ?_
            refine hN 21 hHeld ?_
            refine hN 22 hHeld ?_
            refine hN 23 hHeld ?_
            refine hN 24 hHeld ?_
            refine hN 25 hHeld ?_
            refine hN 26 hHeld ?_
            refine hN 27 hHeld ?_
            refine hN 28 hHeld ?_
            refine hN 29 hHeld ?_
            refine hN 30 hHeld ?_
            refine hN 31 hHeld ?_
            refine hN 32 hHeld ?_
            refine hN 33 hHeld ?_
            refine hN 34 hHeld ?_
            refine hN 35 hHeld ?_
            refine hN 36 hHeld ?_
            refine hN 37 hHeld ?_
            refine hN 38 hHeld ?_
            refine hN 39 hHeld ?_
            refine hN 40 hHeld ?_
            refine hN 41 hHeld ?_
            refine hN 42 hHeld ?_
            refine hN 43 hHeld ?_
            refine hN 44 hHeld ?_
            refine hN 45 hHeld ?_
            refine hT 46 hHeld ?_
            refine hT 47 hHeld ?_
            refine wpAnyH_done (by kernel_rfl) ?_ _
            go_wp2
            go_roundw
            case rel => exact ⟨0 + 1, by omega, by go_num, ⟨(fun j hj => by obtain rfl : j = 0 := (by omega); rw [HS.out]; exact ⟨hcx, hcy⟩), (fun j hj => by omega)⟩, hbW⟩
            case measure => simp [intOf]; omega
      · obtain ⟨j, rfl⟩ : ∃ j, k = j + 1 := ⟨k - 1, by omega⟩
        obtain ⟨b, off, ea, hbb, hT⟩ := HP.out.two hkn
        subst ea
        have T2 := hT.below hbW
        have HDC : Hid (DocP l → (crd (l.getD (j + 1) (0, 0)).1 = true ∧ crd (l.getD (j + 1) (0, 0)).2 = true) ∧ (l.getD j (0, 0)).1 < (l.getD (j + 1) (0, 0)).1 ∧ (l.getD j (0, 0)).2 ≤ (l.getD (j + 1) (0, 0)).2) := fun hd => ⟨hd.2.2.1 _ hkn, hd.2.2.2.1 j hkn⟩
        obtain ⟨s, hs⟩ : ∃ s, l.getD j (0, 0) = s := ⟨_, rfl⟩
        obtain ⟨t, ht⟩ : ∃ s, l.getD (j + 1) (0, 0) = s := ⟨_, rfl⟩
        rw [hs, ht] at T2 HDC
        have HS : Hid (l.getD j (0, 0) = s ∧ l.getD (j + 1) (0, 0) = t) := ⟨hs, ht⟩
        clear hs ht hT
        obtain ⟨x0, y0⟩ := s
        obtain ⟨x1, y1⟩ := t
        dsimp only at T2 HDC
        have hwr : IntKind.i64.wrap (j : Int) = j := wrapi64 (by omega) (by omega)
        have hjl : j < l.length := by omega
        have hj1 : (0 : Int) ≤ (j : Int) + 1 := by omega
        have hj3 : (j : Int) + 1 < (l.length : Int) := by omega
        have hj4 : decide ((0 : Int) < (j : Int) + 1) = true := decide_eq_true (by omega)
        cases hcx : crd x1 with
        | false =>
          have HFN : Hid (frP l = false) := HNO.out (fun hd => by have := (HDC.out hd).1.1; rw [hcx] at this; cases this)
          obtain ⟨p00, p01, p02, p03⟩ := T2.cells
          go_wp2_with fail
          refine wp_region_held_drew (S := (fun u => u.cell? ⟨b, (off + j * 2), none⟩ = some (.int .i64 x0) ∧ u.cell? ⟨b, (off + j * 2 + 1), none⟩ = some (.int .i64 y0) ∧ u.cell? ⟨b, (off + (j + 1) * 2), none⟩ = some (.int .i64 x1) ∧ u.cell? ⟨b, (off + (j + 1) * 2 + 1), none⟩ = some (.int .i64 y1))) (by kernel_rfl) ?_ (fun hHeld => ?_)
          · (try dsimp only)
            go_keep
          have hdr : Below wr.heap.size wr wr.drew := Below.drew1
          generalize wr.drew = ud4 at hdr hHeld ⊢
          replace T2 := T2.below hdr
          replace hbW : Below w.heap.size w ud4 := hbW.trans (hdr.mono hbW.size)
          clear hdr
          clear p00 p01 p02 p03
          obtain ⟨p00, p01, p02, p03⟩ := T2.cells
          refine hT 0 hHeld ?_
          refine hT 1 hHeld ?_
          refine hT 2 hHeld ?_
          refine hT 3 hHeld ?_
          refine hT 4 hHeld ?_
          refine hCall (i := 5) rfl (by kernel_rfl) (by rfl) (fun K hK => ?_)
          go_simp
          refine (scoordB_any x1 _).mono ?_
          rintro e u1 ⟨rfl, hb1⟩
          replace T2 := T2.below hb1
          replace hbW : Below w.heap.size w u1 := hbW.trans (hb1.mono hbW.size)
          clear hb1
          rw [hcx]
          clear p00 p01 p02 p03
          obtain ⟨p00, p01, p02, p03⟩ := T2.cells
          go_wp2_with fail
          refine hK.out _ _ ?_ (fun hHeld => ?_)
          · (try dsimp only)
            exact ⟨p00, p01, p02, p03⟩
          clear hK K
          try simp only [Act.put, List.setIfInBounds_toArray, List.set_cons_zero, List.set_cons_succ]
          refine hT 6 hHeld ?_
          refine hT 7 hHeld ?_
          refine hN 8 hHeld ?_
          refine hN 9 hHeld ?_
          refine hN 10 hHeld ?_
          refine hN 11 hHeld ?_
          refine hN 12 hHeld ?_
          refine hN 13 hHeld ?_
          refine hN 14 hHeld ?_
          refine hT 15 hHeld ?_
          refine hT 16 hHeld ?_
          refine hN 17 hHeld ?_
          refine hN 18 hHeld ?_
          refine hN 19 hHeld ?_
          refine hN 20 hHeld ?_
          refine hN 21 hHeld ?_
          refine hN 22 hHeld ?_
          refine hN 23 hHeld ?_
          refine hN 24 hHeld ?_
          refine hN 25 hHeld ?_
          refine hN 26 hHeld ?_
          refine hN 27 hHeld ?_
          refine hN 28 hHeld ?_
          refine hN 29 hHeld ?_
          refine hN 30 hHeld ?_
          refine hN 31 hHeld ?_
          refine hN 32 hHeld ?_
          refine hN 33 hHeld ?_
          refine hN 34 hHeld ?_
          refine hN 35 hHeld ?_
          refine hN 36 hHeld ?_
          refine hN 37 hHeld ?_
          refine hN 38 hHeld ?_
          refine hN 39 hHeld ?_
          refine hN 40 hHeld ?_
          refine hN 41 hHeld ?_
          refine hN 42 hHeld ?_
          refine hN 43 hHeld ?_
          refine hN 44 hHeld ?_
          refine hN 45 hHeld ?_
          refine hN 46 hHeld ?_
          refine hT 47 hHeld ?_
          refine wpAnyH_done (by kernel_rfl) ?_ _
          go_wp2
          go_ret
          exact ⟨rt_bool HFN.out.symm, hbW⟩
        | true =>
          cases hcy : crd y1 with
          | false =>
            have HFN : Hid (frP l = false) := HNO.out (fun hd => by have := (HDC.out hd).1.2; rw [hcy] at this; cases this)
            obtain ⟨p00, p01, p02, p03⟩ := T2.cells
            go_wp2_with fail
            refine wp_region_held_drew (S := (fun u => u.cell? ⟨b, (off + j * 2), none⟩ = some (.int .i64 x0) ∧ u.cell? ⟨b, (off + j * 2 + 1), none⟩ = some (.int .i64 y0) ∧ u.cell? ⟨b, (off + (j + 1) * 2), none⟩ = some (.int .i64 x1) ∧ u.cell? ⟨b, (off + (j + 1) * 2 + 1), none⟩ = some (.int .i64 y1))) (by kernel_rfl) ?_ (fun hHeld => ?_)
            · (try dsimp only)
              go_keep
            have hdr : Below wr.heap.size wr wr.drew := Below.drew1
            generalize wr.drew = ud5 at hdr hHeld ⊢
            replace T2 := T2.below hdr
            replace hbW : Below w.heap.size w ud5 := hbW.trans (hdr.mono hbW.size)
            clear hdr
            clear p00 p01 p02 p03
            obtain ⟨p00, p01, p02, p03⟩ := T2.cells
            refine hT 0 hHeld ?_
            refine hT 1 hHeld ?_
            refine hT 2 hHeld ?_
            refine hT 3 hHeld ?_
            refine hT 4 hHeld ?_
            refine hCall (i := 5) rfl (by kernel_rfl) (by rfl) (fun K hK => ?_)
            go_simp
            refine (scoordB_any x1 _).mono ?_
            rintro e u1 ⟨rfl, hb1⟩
            replace T2 := T2.below hb1
            replace hbW : Below w.heap.size w u1 := hbW.trans (hb1.mono hbW.size)
            clear hb1
            rw [hcx]
            clear p00 p01 p02 p03
            obtain ⟨p00, p01, p02, p03⟩ := T2.cells
            go_wp2_with fail
            refine hK.out _ _ ?_ (fun hHeld => ?_)
            · (try dsimp only)
              exact ⟨p00, p01, p02, p03⟩
            clear hK K
            try simp only [Act.put, List.setIfInBounds_toArray, List.set_cons_zero, List.set_cons_succ]
            refine hT 6 hHeld ?_
            refine hT 7 hHeld ?_
            refine hT 8 hHeld ?_
            refine hT 9 hHeld ?_
            refine hT 10 hHeld ?_
            refine hT 11 hHeld ?_
            refine hT 12 hHeld ?_
            refine hCall (i := 13) rfl (by kernel_rfl) (by rfl) (fun K hK => ?_)
            go_simp
            refine (scoordB_any y1 _).mono ?_
            rintro e u2 ⟨rfl, hb2⟩
            replace T2 := T2.below hb2
            replace hbW : Below w.heap.size w u2 := hbW.trans (hb2.mono hbW.size)
            clear hb2
            rw [hcy]
            clear p00 p01 p02 p03
            obtain ⟨p00, p01, p02, p03⟩ := T2.cells
            go_wp2_with fail
            refine hK.out _ _ ?_ (fun hHeld => ?_)
            · (try dsimp only)
              exact ⟨p00, p01, p02, p03⟩
            clear hK K
            try simp only [Act.put, List.setIfInBounds_toArray, List.set_cons_zero, List.set_cons_succ]
            refine hT 14 hHeld ?_
            refine hT 15 hHeld ?_
            refine hT 16 hHeld ?_
            refine hN 17 hHeld ?_
            refine hN 18 hHeld ?_
            refine hN 19 hHeld ?_
            refine hN 20 hHeld ?_
            refine hN 21 hHeld ?_
            refine hN 22 hHeld ?_
            refine hN 23 hHeld ?_
            refine hN 24 hHeld ?_
            refine hN 25 hHeld ?_
            refine hN 26 hHeld ?_
            refine hN 27 hHeld ?_
            refine hN 28 hHeld ?_
            refine hN 29 hHeld ?_
            refine hN 30 hHeld ?_
            refine hN 31 hHeld ?_
            refine hN 32 hHeld ?_
            refine hN 33 hHeld ?_
            refine hN 34 hHeld ?_
            refine hN 35 hHeld ?_
            refine hN 36 hHeld ?_
            refine hN 37 hHeld ?_
            refine hN 38 hHeld ?_
            refine hN 39 hHeld ?_
            refine hN 40 hHeld ?_
            refine hN 41 hHeld ?_
            refine hN 42 hHeld ?_
            refine hN 43 hHeld ?_
            refine hN 44 hHeld ?_
            refine hN 45 hHeld ?_
            refine hN 46 hHeld ?_
            refine hT 47 hHeld ?_
            refine wpAnyH_done (by kernel_rfl) ?_ _
            go_wp2
            go_ret
            exact ⟨rt_bool HFN.out.symm, hbW⟩
          | true =>
            by_cases hx : x1 ≤ x0
            · have HFN : Hid (frP l = false) := HNO.out (fun hd => by have := (HDC.out hd).2.1; omega)
              have gx : decide (x1 ≤ x0) = true := decide_eq_true hx
              obtain ⟨p00, p01, p02, p03⟩ := T2.cells
              go_wp2_with fail
              refine wp_region_held_drew (S := (fun u => u.cell? ⟨b, (off + j * 2), none⟩ = some (.int .i64 x0) ∧ u.cell? ⟨b, (off + j * 2 + 1), none⟩ = some (.int .i64 y0) ∧ u.cell? ⟨b, (off + (j + 1) * 2), none⟩ = some (.int .i64 x1) ∧ u.cell? ⟨b, (off + (j + 1) * 2 + 1), none⟩ = some (.int .i64 y1))) (by kernel_rfl) ?_ (fun hHeld => ?_)
              · (try dsimp only)
                go_keep
              have hdr : Below wr.heap.size wr wr.drew := Below.drew1
              generalize wr.drew = ud6 at hdr hHeld ⊢
              replace T2 := T2.below hdr
              replace hbW : Below w.heap.size w ud6 := hbW.trans (hdr.mono hbW.size)
              clear hdr
              clear p00 p01 p02 p03
              obtain ⟨p00, p01, p02, p03⟩ := T2.cells
              refine hT 0 hHeld ?_
              refine hT 1 hHeld ?_
              refine hT 2 hHeld ?_
              refine hT 3 hHeld ?_
              refine hT 4 hHeld ?_
              refine hCall (i := 5) rfl (by kernel_rfl) (by rfl) (fun K hK => ?_)
              go_simp
              refine (scoordB_any x1 _).mono ?_
              rintro e u1 ⟨rfl, hb1⟩
              replace T2 := T2.below hb1
              replace hbW : Below w.heap.size w u1 := hbW.trans (hb1.mono hbW.size)
              clear hb1
              rw [hcx]
              clear p00 p01 p02 p03
              obtain ⟨p00, p01, p02, p03⟩ := T2.cells
              go_wp2_with fail
              refine hK.out _ _ ?_ (fun hHeld => ?_)
              · (try dsimp only)
                exact ⟨p00, p01, p02, p03⟩
              clear hK K
              try simp only [Act.put, List.setIfInBounds_toArray, List.set_cons_zero, List.set_cons_succ]
              refine hT 6 hHeld ?_
              refine hT 7 hHeld ?_
              refine hT 8 hHeld ?_
              refine hT 9 hHeld ?_
              refine hT 10 hHeld ?_
              refine hT 11 hHeld ?_
              refine hT 12 hHeld ?_
              refine hCall (i := 13) rfl (by kernel_rfl) (by rfl) (fun K hK => ?_)
              go_simp
              refine (scoordB_any y1 _).mono ?_
              rintro e u2 ⟨rfl, hb2⟩
              replace T2 := T2.below hb2
              replace hbW : Below w.heap.size w u2 := hbW.trans (hb2.mono hbW.size)
              clear hb2
              rw [hcy]
              clear p00 p01 p02 p03
              obtain ⟨p00, p01, p02, p03⟩ := T2.cells
              go_wp2_with fail
              refine hK.out _ _ ?_ (fun hHeld => ?_)
              · (try dsimp only)
                exact ⟨p00, p01, p02, p03⟩
              clear hK K
              try simp only [Act.put, List.setIfInBounds_toArray, List.set_cons_zero, List.set_cons_succ]
              refine hT 14 hHeld ?_
              refine hT 15 hHeld ?_
              refine hT 16 hHeld ?_
              refine hT 17 hHeld ?_
              refine hT 18 hHeld ?_
              refine hT 19 hHeld ?_
              refine hT 20 hHeld ?_
              refine hT 21 hHeld ?_
              refine hT 22 hHeld ?_
              refine hT 23 hHeld ?_
              refine hT 24 hHeld ?_
              refine hT 25 hHeld ?_
              refine hT 26 hHeld ?_
              refine hT 27 hHeld ?_
              refine hT 28 hHeld ?_
              refine hT 29 hHeld ?_
              refine hT 30 hHeld ?_
              refine hT 31 hHeld ?_
              refine hT 32 hHeld ?_
              refine hN 33 hHeld ?_
              refine hN 34 hHeld ?_
              refine hN 35 hHeld ?_
              refine hN 36 hHeld ?_
              refine hN 37 hHeld ?_
              refine hN 38 hHeld ?_
              refine hN 39 hHeld ?_
              refine hN 40 hHeld ?_
              refine hN 41 hHeld ?_
              refine hN 42 hHeld ?_
              refine hN 43 hHeld ?_
              refine hN 44 hHeld ?_
              refine hT 45 hHeld ?_
              refine hT 46 hHeld ?_
              refine hT 47 hHeld ?_
              refine wpAnyH_done (by kernel_rfl) ?_ _
              go_wp2
              go_ret
              exact ⟨rt_bool HFN.out.symm, hbW⟩
            have gx : decide (x1 ≤ x0) = false := decide_eq_false hx
            by_cases hy : y1 < y0
            · have HFN : Hid (frP l = false) := HNO.out (fun hd => by have := (HDC.out hd).2.2; omega)
              have gy : decide (y1 < y0) = true := decide_eq_true hy
              obtain ⟨p00, p01, p02, p03⟩ := T2.cells
              go_wp2_with fail
              refine wp_region_held_drew (S := (fun u => u.cell? ⟨b, (off + j * 2), none⟩ = some (.int .i64 x0) ∧ u.cell? ⟨b, (off + j * 2 + 1), none⟩ = some (.int .i64 y0) ∧ u.cell? ⟨b, (off + (j + 1) * 2), none⟩ = some (.int .i64 x1) ∧ u.cell? ⟨b, (off + (j + 1) * 2 + 1), none⟩ = some (.int .i64 y1))) (by kernel_rfl) ?_ (fun hHeld => ?_)
              · (try dsimp only)
                go_keep
              have hdr : Below wr.heap.size wr wr.drew := Below.drew1
              generalize wr.drew = ud7 at hdr hHeld ⊢
              replace T2 := T2.below hdr
              replace hbW : Below w.heap.size w ud7 := hbW.trans (hdr.mono hbW.size)
              clear hdr
              clear p00 p01 p02 p03
              obtain ⟨p00, p01, p02, p03⟩ := T2.cells
              refine hT 0 hHeld ?_
              refine hT 1 hHeld ?_
              refine hT 2 hHeld ?_
              refine hT 3 hHeld ?_
              refine hT 4 hHeld ?_
              refine hCall (i := 5) rfl (by kernel_rfl) (by rfl) (fun K hK => ?_)
              go_simp
              refine (scoordB_any x1 _).mono ?_
              rintro e u1 ⟨rfl, hb1⟩
              replace T2 := T2.below hb1
              replace hbW : Below w.heap.size w u1 := hbW.trans (hb1.mono hbW.size)
              clear hb1
              rw [hcx]
              clear p00 p01 p02 p03
              obtain ⟨p00, p01, p02, p03⟩ := T2.cells
              go_wp2_with fail
              refine hK.out _ _ ?_ (fun hHeld => ?_)
              · (try dsimp only)
                exact ⟨p00, p01, p02, p03⟩
              clear hK K
              try simp only [Act.put, List.setIfInBounds_toArray, List.set_cons_zero, List.set_cons_succ]
              refine hT 6 hHeld ?_
              refine hT 7 hHeld ?_
              refine hT 8 hHeld ?_
              refine hT 9 hHeld ?_
              refine hT 10 hHeld ?_
              refine hT 11 hHeld ?_
              refine hT 12 hHeld ?_
              refine hCall (i := 13) rfl (by kernel_rfl) (by rfl) (fun K hK => ?_)
              go_simp
              refine (scoordB_any y1 _).mono ?_
              rintro e u2 ⟨rfl, hb2⟩
              replace T2 := T2.below hb2
              replace hbW : Below w.heap.size w u2 := hbW.trans (hb2.mono hbW.size)
              clear hb2
              rw [hcy]
              clear p00 p01 p02 p03
              obtain ⟨p00, p01, p02, p03⟩ := T2.cells
              go_wp2_with fail
              refine hK.out _ _ ?_ (fun hHeld => ?_)
              · (try dsimp only)
                exact ⟨p00, p01, p02, p03⟩
              clear hK K
              try simp only [Act.put, List.setIfInBounds_toArray, List.set_cons_zero, List.set_cons_succ]
              refine hT 14 hHeld ?_
              refine hT 15 hHeld ?_
              refine hT 16 hHeld ?_
              refine hT 17 hHeld ?_
              refine hT 18 hHeld ?_
              refine hT 19 hHeld ?_
              refine hT 20 hHeld ?_
              refine hT 21 hHeld ?_
              refine hT 22 hHeld ?_
              refine hT 23 hHeld ?_
              refine hT 24 hHeld ?_
              refine hT 25 hHeld ?_
              refine hT 26 hHeld ?_
              refine hT 27 hHeld ?_
              refine hT 28 hHeld ?_
              refine hT 29 hHeld ?_
              refine hT 30 hHeld ?_
              refine hT 31 hHeld ?_
              refine hT 32 hHeld ?_
              refine hT 33 hHeld ?_
              refine hT 34 hHeld ?_
              refine hT 35 hHeld ?_
              refine hT 36 hHeld ?_
              refine hT 37 hHeld ?_
              refine hT 38 hHeld ?_
              refine hT 39 hHeld ?_
              refine hT 40 hHeld ?_
              refine hT 41 hHeld ?_
              refine hT 42 hHeld ?_
              refine hT 43 hHeld ?_
              refine hT 44 hHeld ?_
              refine hT 45 hHeld ?_
              refine hT 46 hHeld ?_
              refine hT 47 hHeld ?_
              refine wpAnyH_done (by kernel_rfl) ?_ _
              go_wp2
              go_ret
              exact ⟨rt_bool HFN.out.symm, hbW⟩
            have gy : decide (y1 < y0) = false := decide_eq_false hy
            obtain ⟨p00, p01, p02, p03⟩ := T2.cells
            go_wp2_with fail
            refine wp_region_held_drew (S := (fun u => u.cell? ⟨b, (off + j * 2), none⟩ = some (.int .i64 x0) ∧ u.cell? ⟨b, (off + j * 2 + 1), none⟩ = some (.int .i64 y0) ∧ u.cell? ⟨b, (off + (j + 1) * 2), none⟩ = some (.int .i64 x1) ∧ u.cell? ⟨b, (off + (j + 1) * 2 + 1), none⟩ = some (.int .i64 y1))) (by kernel_rfl) ?_ (fun hHeld => ?_)
            · (try dsimp only)
              go_keep
            have hdr : Below wr.heap.size wr wr.drew := Below.drew1
            generalize wr.drew = ud8 at hdr hHeld ⊢
            replace T2 := T2.below hdr
            replace hbW : Below w.heap.size w ud8 := hbW.trans (hdr.mono hbW.size)
            clear hdr
            clear p00 p01 p02 p03
            obtain ⟨p00, p01, p02, p03⟩ := T2.cells
            refine hT 0 hHeld ?_
            refine hT 1 hHeld ?_
            refine hT 2 hHeld ?_
            refine hT 3 hHeld ?_
            refine hT 4 hHeld ?_
            refine hCall (i := 5) rfl (by kernel_rfl) (by rfl) (fun K hK => ?_)
            go_simp
            refine (scoordB_any x1 _).mono ?_
            rintro e u1 ⟨rfl, hb1⟩
            replace T2 := T2.below hb1
            replace hbW : Below w.heap.size w u1 := hbW.trans (hb1.mono hbW.size)
            clear hb1
            rw [hcx]
            clear p00 p01 p02 p03
            obtain ⟨p00, p01, p02, p03⟩ := T2.cells
            go_wp2_with fail
            refine hK.out _ _ ?_ (fun hHeld => ?_)
            · (try dsimp only)
              exact ⟨p00, p01, p02, p03⟩
            clear hK K
            try simp only [Act.put, List.setIfInBounds_toArray, List.set_cons_zero, List.set_cons_succ]
            refine hT 6 hHeld ?_
            refine hT 7 hHeld ?_
            refine hT 8 hHeld ?_
            refine hT 9 hHeld ?_
            refine hT 10 hHeld ?_
            refine hT 11 hHeld ?_
            refine hT 12 hHeld ?_
            refine hCall (i := 13) rfl (by kernel_rfl) (by rfl) (fun K hK => ?_)
            go_simp
            refine (scoordB_any y1 _).mono ?_
            rintro e u2 ⟨rfl, hb2⟩
            replace T2 := T2.below hb2
            replace hbW : Below w.heap.size w u2 := hbW.trans (hb2.mono hbW.size)
            clear hb2
            rw [hcy]
            clear p00 p01 p02 p03
            obtain ⟨p00, p01, p02, p03⟩ := T2.cells
            go_wp2_with fail
            refine hK.out _ _ ?_ (fun hHeld => ?_)
            · (try dsimp only)
              exact ⟨p00, p01, p02, p03⟩
            clear hK K
            try simp only [Act.put, List.setIfInBounds_toArray, List.set_cons_zero, List.set_cons_succ]
            refine hT 14 hHeld ?_
            refine hT 15 hHeld ?_
            refine hT 16 hHeld ?_
            refine hT 17 hHeld ?_
            refine hT 18 hHeld ?_
            refine hT 19 hHeld ?_
            refine hT 20 hHeld ?_
            refine hT 21 hHeld ?_
            refine hT 22 hHeld ?_
            refine hT 23 hHeld ?_
            refine hT 24 hHeld ?_
            refine hT 25 hHeld ?_
            refine hT 26 hHeld ?_
            refine hT 27 hHeld ?_
            refine hT 28 hHeld ?_
            refine hT 29 hHeld ?_
            refine hT 30 hHeld ?_
            refine hT 31 hHeld ?_
            refine hT 32 hHeld ?_
            refine hT 33 hHeld ?_
            refine hT 34 hHeld ?_
            refine hT 35 hHeld ?_
            refine hT 36 hHeld ?_
            refine hT 37 hHeld ?_
            refine hT 38 hHeld ?_
            refine hT 39 hHeld ?_
            refine hT 40 hHeld ?_
            refine hT 41 hHeld ?_
            refine hT 42 hHeld ?_
            refine hT 43 hHeld ?_
            refine hT 44 hHeld ?_
            refine hT 45 hHeld ?_
            refine hT 46 hHeld ?_
            refine hT 47 hHeld ?_
            refine wpAnyH_done (by kernel_rfl) ?_ _
            go_wp2
            go_roundw
            case rel =>
              refine ⟨j + 1 + 1, by omega, by go_num, ⟨fun i hi => ?_, fun i hi => ?_⟩, hbW⟩
              · rcases Nat.lt_or_ge i (j + 1) with h1 | h1
                · exact HNO2.out.1 i h1
                · have : i = j + 1 := by omega
                  rw [this, HS.out.2]
                  exact ⟨hcx, hcy⟩
              · rcases Nat.lt_or_ge (i + 1) (j + 1) with h1 | h1
                · exact HNO2.out.2 i h1
                · have : i = j := by omega
                  rw [this, HS.out.1, HS.out.2]
                  exact ⟨by omega, by omega⟩
            case measure => simp [intOf]; omega
    · have hkl : k = l.length := by omega
      have HD : Hid ((-16384, -16384) ∈ l → (0, 0) ∈ l → (16384, 16384) ∈ l → frP l = true) := by
        show _ → _
        intro q1 q2 q3
        refine HF.out.2 ⟨by omega, by omega, fun j hj => HNO2.out.1 j (by omega), fun j hj => HNO2.out.2 j (by omega), q1, q2, q3⟩
      have hk1 : ¬ (k : Int) < (l.length : Int) := by omega
      clear hkl
      cases h1 : decide ((-16384, -16384) ∈ l) with
      | false =>
        have HFN : Hid (frP l = false) := HNO.out (fun hd => of_decide_eq_false h1 hd.2.2.2.2.1)
        have c1 := shas_any a cap l (-16384) wr (HP.out.below hbW)
        rw [h1] at c1
        go_wp2_with fail
        refine c1.mono ?_
        rintro e u1 ⟨rfl, hb1⟩
        replace hbW := hbW.trans (hb1.mono hbW.size)
        clear hb1 c1 h1
        go_wp2
        go_ret
        exact ⟨rt_bool HFN.out.symm, hbW⟩
      | true =>
        have c1 := shas_any a cap l (-16384) wr (HP.out.below hbW)
        rw [h1] at c1
        go_wp2_with fail
        refine c1.mono ?_
        rintro e u1 ⟨rfl, hb1⟩
        replace hbW := hbW.trans (hb1.mono hbW.size)
        have H1 : Hid ((-16384, -16384) ∈ l) := by show (-16384, -16384) ∈ l; exact of_decide_eq_true h1
        clear hb1 c1 h1
        have c2 := shas_any a cap l 0 u1 (HP.out.below hbW)
        cases h2 : decide ((0, 0) ∈ l) with
        | false =>
          have HFN : Hid (frP l = false) := HNO.out (fun hd => of_decide_eq_false h2 hd.2.2.2.2.2.1)
          rw [h2] at c2
          go_wp2_with fail
          refine c2.mono ?_
          rintro e u2 ⟨rfl, hb2⟩
          replace hbW := hbW.trans (hb2.mono hbW.size)
          clear hb2 c2 h2
          go_wp2
          go_ret
          exact ⟨rt_bool HFN.out.symm, hbW⟩
        | true =>
          have H2 : Hid ((0, 0) ∈ l) := by show (0, 0) ∈ l; exact of_decide_eq_true h2
          rw [h2] at c2
          go_wp2_with fail
          refine c2.mono ?_
          rintro e u2 ⟨rfl, hb2⟩
          replace hbW := hbW.trans (hb2.mono hbW.size)
          clear hb2 c2 h2
          have c3 := shas_any a cap l 16384 u2 (HP.out.below hbW)
          have HFN : Hid (decide ((16384, 16384) ∈ l) = frP l) := by
            show _ = _
            cases h3 : decide ((16384, 16384) ∈ l) with
            | true => exact (HD.out H1.out H2.out (of_decide_eq_true h3)).symm
            | false => exact (HNO.out (fun hd => of_decide_eq_false h3 hd.2.2.2.2.2.2)).symm
          obtain ⟨q, hq⟩ : ∃ q, frP l = q := ⟨_, rfl⟩
          have HQ : Hid (frP l = q) := hq
          rw [HFN.out, hq] at c3
          clear hq
          go_wp2_with fail
          refine c3.mono ?_
          rintro e u3 ⟨rfl, hb3⟩
          replace hbW := hbW.trans (hb3.mono hbW.size)
          clear hb3 c3
          go_wp2
          go_ret
          exact ⟨rt_bool HQ.out.symm, hbW⟩

end Go.Proofs.YtdpafdeoepbhaaaGreat

namespace Go.Proofs.YtdpafdeoepbhaaaGreat
open Go.RowKit Go.Maps
set_option linter.unusedSimpArgs false
set_option linter.unusedVariables false
end Go.Proofs.YtdpafdeoepbhaaaGreat
