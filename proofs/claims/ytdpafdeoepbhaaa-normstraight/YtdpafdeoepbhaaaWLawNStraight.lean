/-
  foundrylaw08.NormStraight: the walk.
-/
import Derived.Test.YtdpafdeoepbhaaaZ25
import Derived.Test.YtdpafdeoepbhaaaZ13
namespace Go.Proofs.Ytdpafdeoepbhaaa
open Go.RowKit Go.Maps
set_option linter.unusedSimpArgs false
set_option linter.unusedVariables false

/-- The axis that is asked. -/
def strA (us wd : Int) : Ax := ⟨⟨#[119, 103, 104, 116]⟩, us, us, us + wd⟩
theorem strA_gd : gd (sb ⟨#[119, 103, 104, 116]⟩) = true := by decide +kernel
theorem strA_on {us wd : Int} (h1 : -32768 ≤ us ∧ us < 32768) (h2 : 0 ≤ wd ∧ wd < 65536) : onA (strA us wd) = true := onA_iff.2 ⟨strA_gd, by simp only [strA]; omega⟩
theorem strA_w {us wd : Int} (h1 : -32768 ≤ us ∧ us < 32768) (h2 : 0 ≤ wd ∧ wd < 65536) : Axw (strA us wd) := by
  refine ⟨by simp [strA, maxLen, ByteArray.size], ?_, ?_, ?_⟩ <;> simp only [strA, I64] <;> omega
theorem strA_fi {us wd : Int} (h1 : -32768 ≤ us ∧ us < 32768) (h2 : 0 ≤ wd ∧ wd < 65536) : fiB [strA us wd] [] = true := by
  refine fiB_iff.2 ⟨frA_iff.2 ⟨by simp, fun t ht => ?_, by simp⟩, .inl rfl, fun j hj => by simp at hj⟩
  simp at ht
  subst ht
  exact strA_on h1 h2
theorem strA_at {us wd d : Int} (h1 : -32768 ≤ us ∧ us < 32768) (h2 : 0 ≤ wd ∧ wd < 65536) (h3 : 0 ≤ d ∧ d ≤ wd) : atL [strA us wd] [] [us + d] = [to14 (((d : Int) : Rat) / ((wd : Int) : Rat))] := by
  have e : exQ [strA us wd] [] [us + d] 0 = ((d : Int) : Rat) / ((wd : Int) : Rat) := by
    rw [exQ_none]
    have e1 : clV [strA us wd] [us + d] 0 = us + d := by
      simp only [clV, strA]
      simp
      exact clp_self (by omega) (by omega)
    rw [e1]
    show plQ (strA us wd) (us + d) = _
    rw [plQ, if_pos (strA_on h1 h2)]
    simp only [strA]
    rw [clp_self (by omega) (by omega), sdQ, if_neg (by omega), show us + d - us = d by omega, show us + wd - us = wd by omega]
  rw [atL, exL_yes (strA_fi h1 h2)]
  show rnK (exK _ _ _ 1) (exK _ _ _ 1).length = _
  rw [exK_succ]
  simp [exK, rnK, e]

set_option maxHeartbeats 4000000 in
set_option maxRecDepth 100000 in
theorem normStraight_any (us wd pt : Int) (w : World) (h1 : -32768 ≤ us ∧ us < 32768) (h2 : 0 ≤ wd ∧ wd < 65536) (h3 : 0 ≤ pt ∧ pt < 65536) :
    Calls Try.prog 6 #[.int .i16 us, .int .u16 wd, .int .u16 pt] w fun e w' => e = .returned (.bool true) ∧ Below w.heap.size w w' := by
  by_cases h0 : wd = 0
  · subst h0
    go_enter Try.func6, Try.ntmps6
    go_wp2_with fail
    refine (awake8_any _).mono ?_
    rintro e u1 ⟨rfl, hb1⟩
    go_wp2_with fail
    refine (awake8_any _).mono ?_
    rintro e u2 ⟨rfl, hb2⟩
    have hbW := hb1.trans (hb2.mono hb1.size)
    clear hb1 hb2
    go_wp2
    go_ret
    exact ⟨rfl, hbW⟩
  have g0 : (wd == 0) = false := by simp [h0]
  have m1 := Int.emod_nonneg pt (show wd + 1 ≠ 0 by omega)
  have m2 := Int.emod_lt_of_pos pt (show 0 < wd + 1 by omega)
  rw [← Int.tmod_eq_emod_of_nonneg h3.1] at m1 m2
  obtain ⟨d, hd⟩ : ∃ d, pt.tmod (wd + 1) = d := ⟨_, rfl⟩
  rw [hd] at m1 m2
  have hat := fun a b W hA hP => cat_any a 1 [strA us wd] none 0 [] b 1 [us + d] W hA (Pzz.nil _ _ _ (Nat.zero_le _)) hP (by simp)
  rw [strA_at h1 h2 ⟨m1, by omega⟩, exE_yes (strA_fi h1 h2)] at hat
  have hA1 := fun W => as_one8 W (strA us wd) (strA_w h1 h2)
  have hP1 := fun W => ri_one8 W (us + d) (by unfold I64; omega) 3
  have hmk := fun W => make_any d wd W (by omega) (by omega) (by omega) (by omega)
  generalize ((d : Int) : Rat) / ((wd : Int) : Rat) = q at *
  have hto := fun v W hv => to14_any 2 q v W hv (by decide) (by decide)
  obtain ⟨c, hc⟩ : ∃ c, to14 q = c := ⟨_, rfl⟩
  simp only [hc] at hat hto
  clear hc
  simp only [strA, List.length_cons, List.length_nil] at hat hA1
  have j1 : IntKind.i64.wrap us = us := wrapi64 (by omega) (by omega)
  have j2 : IntKind.i64.wrap wd = wd := wrapi64 (by omega) (by omega)
  have j3 : IntKind.i64.wrap pt = pt := wrapi64 (by omega) (by omega)
  have j4 : IntKind.i64.wrap (wd + 1) = wd + 1 := wrapi64 (by omega) (by omega)
  have j5 : IntKind.i64.wrap (us + wd) = us + wd := wrapi64 (by omega) (by omega)
  have j6 : IntKind.i64.wrap (us + d) = us + d := wrapi64 (by omega) (by omega)
  have j7 : IntKind.i64.wrap d = d := wrapi64 (by omega) (by omega)
  have hw1 : ¬ wd + 1 = 0 := by omega
  go_enter Try.func6, Try.ntmps6
  go_wp2_with fail
  refine (awake8_any _).mono ?_
  rintro e u1 ⟨rfl, hb1⟩
  have hbW := hb1
  clear hb1
  go_wp2_with fail
  have hA := (hA1 (u1.alloc (.cells #[.string ⟨#[119, 103, 104, 116]⟩, .int .i64 us, .int .i64 us, .int .i64 (us + wd)] 33))).below (bl1 (.cells #[.int .i64 (us + d)] 3))
  have hP := hP1 ((u1.alloc (.cells #[.string ⟨#[119, 103, 104, 116]⟩, .int .i64 us, .int .i64 us, .int .i64 (us + wd)] 33)).alloc (.cells #[.string ⟨#[119, 103, 104, 116]⟩, .int .i64 us, .int .i64 us, .int .i64 (us + wd)] 33))
  have hb3 : Below u1.heap.size u1 (((u1.alloc (.cells #[.string ⟨#[119, 103, 104, 116]⟩, .int .i64 us, .int .i64 us, .int .i64 (us + wd)] 33)).alloc (.cells #[.string ⟨#[119, 103, 104, 116]⟩, .int .i64 us, .int .i64 us, .int .i64 (us + wd)] 33)).alloc (.cells #[.int .i64 (us + d)] 3)) := al3 _ _ _
  have sz1 : ∀ (V : World) o, (V.alloc o).heap.size = V.heap.size + 1 := fun V o => by simp
  rw [sz1] at hA
  rw [sz1, sz1] at hP
  refine (hat _ _ _ hA hP).mono ?_
  rintro e u2 ⟨ca, cc, rfl, hR, hb2⟩
  replace hbW := hbW.trans ((hb3.trans (hb2.mono hb3.size)).mono hbW.size)
  have k1 := hR.2.1
  obtain ⟨b, off, ea, hb, d0⟩ := hR.at (Below.refl _ _) 0 (by simp)
  subst ea
  simp only [Nat.add_zero, List.getD_cons_zero] at d0
  simp only [List.length_cons, List.length_nil] at k1
  clear hA hP hat hA1 hP1 hb2 hb3 sz1 hR
  have gc : (c == c) = true := by simp
  go_wp2_with fail
  refine wp_region_held_drew (S := (fun u => u.cell? ⟨b, off, none⟩ = some (.int .i64 c))) (by kernel_rfl) ?_ (fun hHeld => ?_)
  · (try dsimp only)
    go_keep
  have hdr : Below u2.heap.size u2 u2.drew := Below.drew1
  generalize u2.drew = u3 at hdr hHeld ⊢
  replace hbW := hbW.trans (hdr.mono hbW.size)
  have d1 := (hdr.cell (p := ⟨b, off, none⟩) hb).trans d0
  have hb' := Nat.lt_of_lt_of_le hb hdr.size
  clear hdr d0 hb
  refine hT 0 hHeld ?_
  refine hT 1 hHeld ?_
  refine hT 2 hHeld ?_
  refine hT 3 hHeld ?_
  refine hT 4 hHeld ?_
  refine hT 5 hHeld ?_
  refine hT 6 hHeld ?_
  refine hT 7 hHeld ?_
  refine hT 8 hHeld ?_
  refine hT 9 hHeld ?_
  refine hT 10 hHeld ?_
  refine hT 11 hHeld ?_
  refine hT 12 hHeld ?_
  refine hT 13 hHeld ?_
  refine hCall (i := 14) rfl (by kernel_rfl) (by rfl) (fun K hK => ?_)
  go_simp
  refine (hmk u3).mono ?_
  rintro e u4 ⟨v4, rfl, hF4, hb4⟩
  replace hbW := hbW.trans (hb4.mono hbW.size)
  have d2 := (hb4.cell (p := ⟨b, off, none⟩) hb').trans d1
  have hb'' := Nat.lt_of_lt_of_le hb' hb4.size
  clear hb4 hmk d1 hb'
  go_wp2_with fail
  refine hK.out _ _ ?_ (fun hHeld => ?_)
  · (try dsimp only)
    exact d2
  clear hK K
  try simp only [Act.put, List.setIfInBounds_toArray, List.set_cons_zero, List.set_cons_succ]
  refine hCall (i := 15) rfl (by kernel_rfl) (by rfl) (fun K hK => ?_)
  go_simp
  refine (hto v4 u4 hF4.ct).mono ?_
  rintro e u5 ⟨rfl, hb5⟩
  replace hbW := hbW.trans (hb5.mono hbW.size)
  have d3 := (hb5.cell (p := ⟨b, off, none⟩) hb'').trans d2
  clear hb5 hto hF4 d2 hb''
  go_wp2_with fail
  refine hK.out _ _ ?_ (fun hHeld => ?_)
  · (try dsimp only)
    exact d3
  clear hK K
  try simp only [Act.put, List.setIfInBounds_toArray, List.set_cons_zero, List.set_cons_succ]
  refine hT 16 hHeld ?_
  refine hT 17 hHeld ?_
  refine hT 18 hHeld ?_
  refine wpAnyH_done (by kernel_rfl) ?_ _
  go_wp2
  go_ret
  exact ⟨rfl, hbW⟩

end Go.Proofs.Ytdpafdeoepbhaaa
