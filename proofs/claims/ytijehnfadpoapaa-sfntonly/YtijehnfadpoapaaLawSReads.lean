/-
  foundrylaw05.SfntReads, SfntOnly: the walks.
-/
import Derived.Test.YtijehnfadpoapaaLawS0
namespace Go.Proofs.Ytijehnfadpoapaa
open Go.RowKit Go.Maps
set_option linter.unusedSimpArgs false
set_option linter.unusedVariables false

theorem unpL_len (xs : List Nat) : (unpL xs).length ≤ 33 := by
  unfold unpL
  split
  · simp
  · split
    · simp [dirB, cntB]; omega
    · simp

set_option maxHeartbeats 1000000 in
set_option maxRecDepth 100000 in
theorem sfntReads_any (C : Cod) (a : Option Addr) (cap : Nat) (xs : List Nat) (w : World) (h : Rb w a cap xs) :
    Calls Try.prog 4 #[.slice a xs.length cap] w fun e w' => e = .returned (.bool true) ∧ Below w.heap.size w w' := by
  have k1 := h.le
  have k2 := h.cap
  unfold maxLen at k2
  have HH : Hid (Rb w a cap xs) := h
  clear h
  by_cases hout : 20000 < xs.length ∧ xs.length ≤ 1048576
  · obtain ⟨h1, h2⟩ := hout
    have g1 : (20000 : Int) < (xs.length : Int) := by omega
    have g2 : (xs.length : Int) ≤ 1048576 := by omega
    go_enter Try.func4, Try.ntmps4
    go_wp2_with fail
    refine (awake5_any C _).mono ?_
    rintro e u ⟨rfl, hb⟩
    go_wp2_with fail
    refine (awake5_any C _).mono ?_
    rintro e u2 ⟨rfl, hb2⟩
    go_wp2
    go_ret
    exact ⟨rfl, hb.trans (hb2.mono hb.size)⟩
  have hor : xs.length ≤ 20000 ∨ (20000 < xs.length ∧ 1048576 < xs.length) := by omega
  have hUL := unpL_len xs
  have HUL : Hid ((unpL xs).length ≤ 33) := hUL
  rcases hor with hs | ⟨hs, hs2⟩
  · have g1 : ¬ (20000 : Int) < (xs.length : Int) := by omega
    go_enter Try.func4, Try.ntmps4
    go_wp2_with fail
    refine (awake5_any C _).mono ?_
    rintro e u ⟨rfl, hb⟩
    go_wp2_with fail
    refine (C.unpack a cap xs _ (HH.out.below hb)).mono ?_
    rintro e u2 ⟨a2, c2, rfl, ht2, hb2⟩
    have hB2 := hb.trans (hb2.mono hb.size)
    have HT2 : Hid (Ts u2 a2 c2 (unpL xs)) := ht2
    clear ht2 hb hb2
    go_wp2_with fail
    refine (sunpack_any a cap xs _ (HH.out.below hB2)).mono ?_
    rintro e u3 ⟨a3, c3, rfl, ht3, hb3⟩
    have hB3 := hB2.trans (hb3.mono hB2.size)
    have HT3 : Hid (Ts u3 a3 c3 (unpL xs)) := ht3
    have HT2' : Hid (Ts u3 a2 c2 (unpL xs)) := HT2.out.below hb3
    clear ht3 hb3 hB2
    have hE : ((unpE xs) == (unpE xs)) = true := by simp
    generalize unpE xs = E at *
    go_wp2_with fail
    refine (plain5_any a2 c2 (unpL xs) _ HT2'.out (by have := HUL.out; omega)).mono ?_
    rintro e u4 ⟨a4, c4, rfl, ht4, hb4⟩
    have hB4 := hB3.trans (hb4.mono hB3.size)
    have HT4 : Hid (Ts u4 a4 c4 (unpL xs)) := ht4
    have HT5 : Hid (Ts u4 a3 c3 (unpL xs)) := HT3.out.below hb4
    clear ht4 hb4
    go_wp2_with fail
    refine (sames_any a4 a3 c4 c3 (unpL xs) _ HT4.out HT5.out).mono ?_
    rintro e u5 ⟨rfl, hb5⟩
    have hB5 := hB4.trans (hb5.mono hB4.size)
    go_wp2
    go_ret
    exact ⟨rfl, hB5⟩
  · have g1 : (20000 : Int) < (xs.length : Int) := by omega
    have g2 : ¬ (xs.length : Int) ≤ 1048576 := by omega
    go_enter Try.func4, Try.ntmps4
    go_wp2_with fail
    refine (awake5_any C _).mono ?_
    rintro e u ⟨rfl, hb⟩
    go_wp2_with fail
    refine (C.unpack a cap xs _ (HH.out.below hb)).mono ?_
    rintro e u2 ⟨a2, c2, rfl, ht2, hb2⟩
    have hB2 := hb.trans (hb2.mono hb.size)
    have HT2 : Hid (Ts u2 a2 c2 (unpL xs)) := ht2
    clear ht2 hb hb2
    go_wp2_with fail
    refine (sunpack_any a cap xs _ (HH.out.below hB2)).mono ?_
    rintro e u3 ⟨a3, c3, rfl, ht3, hb3⟩
    have hB3 := hB2.trans (hb3.mono hB2.size)
    have HT3 : Hid (Ts u3 a3 c3 (unpL xs)) := ht3
    have HT2' : Hid (Ts u3 a2 c2 (unpL xs)) := HT2.out.below hb3
    clear ht3 hb3 hB2
    have hE : ((unpE xs) == (unpE xs)) = true := by simp
    generalize unpE xs = E at *
    go_wp2_with fail
    refine (plain5_any a2 c2 (unpL xs) _ HT2'.out (by have := HUL.out; omega)).mono ?_
    rintro e u4 ⟨a4, c4, rfl, ht4, hb4⟩
    have hB4 := hB3.trans (hb4.mono hB3.size)
    have HT4 : Hid (Ts u4 a4 c4 (unpL xs)) := ht4
    have HT5 : Hid (Ts u4 a3 c3 (unpL xs)) := HT3.out.below hb4
    clear ht4 hb4
    go_wp2_with fail
    refine (sames_any a4 a3 c4 c3 (unpL xs) _ HT4.out HT5.out).mono ?_
    rintro e u5 ⟨rfl, hb5⟩
    have hB5 := hB4.trans (hb5.mono hB4.size)
    go_wp2
    go_ret
    exact ⟨rfl, hB5⟩

/-- What is unpacked is packed to its very bytes. -/
theorem only_pck {xs : List Nat} (h : Fil xs) (hl : xs.length ≤ 1048576) : pckE (dirB xs) = 0 ∧ pckB (dirB xs) = xs ∧ frB (dirB xs) = true := by
  have h1 := frB_iff.2 h.1
  have h2 := h.2
  have h3 : ¬ 1048576 < xs.length := by omega
  simp [pckE, pckB, h1, h2, h3]

set_option maxHeartbeats 1000000 in
set_option maxRecDepth 100000 in
theorem sfntOnly_any (C : Cod) (a : Option Addr) (cap : Nat) (xs : List Nat) (w : World) (h : Rb w a cap xs) :
    Calls Try.prog 6 #[.slice a xs.length cap] w fun e w' => e = .returned (.bool true) ∧ Below w.heap.size w w' := by
  have k1 := h.le
  have k2 := h.cap
  unfold maxLen at k2
  have HH : Hid (Rb w a cap xs) := h
  clear h
  by_cases hout : 20000 < xs.length
  · have g1 : (20000 : Int) < (xs.length : Int) := by omega
    go_enter Try.func6, Try.ntmps6
    go_wp2_with fail
    refine (awake5_any C _).mono ?_
    rintro e u ⟨rfl, hb⟩
    go_wp2_with fail
    refine (awake5_any C _).mono ?_
    rintro e u2 ⟨rfl, hb2⟩
    go_wp2
    go_ret
    exact ⟨rfl, hb.trans (hb2.mono hb.size)⟩
  have g1 : ¬ (20000 : Int) < (xs.length : Int) := by omega
  by_cases hF : Fil xs
  · obtain ⟨u1, u2⟩ := unp_ok hF (by omega)
    obtain ⟨p1, p2, p3⟩ := only_pck hF (by omega)
    have hmod := hF.mod
    have hU := fun w h => C.unpack a cap xs w h
    rw [u1, u2] at hU
    have HU : Hid (∀ (w : World), Rb w a cap xs → Calls Try.prog 21 #[.slice a xs.length cap] w fun e w' => ∃ a' cap', e = .returned (.tuple #[.slice a' (dirB xs).length cap', .int .i64 0]) ∧ Ts w' a' cap' (dirB xs) ∧ Below w.heap.size w w') := hU
    have P1 : Hid (pckE (dirB xs) = 0) := p1
    have P2 : Hid (pckB (dirB xs) = xs) := p2
    have P3 : Hid (frB (dirB xs) = true) := p3
    have hrem : (xs.length : Int).tmod 4 = 0 := by
      rw [show (4 : Int) = ((4 : Nat) : Int) from rfl, ← Int.ofNat_tmod, hmod]
      rfl
    clear u1 u2 p1 p2 p3 hU hmod hF
    generalize dirB xs = l at *
    go_enter Try.func6, Try.ntmps6
    go_wp2_with fail
    refine (awake5_any C _).mono ?_
    rintro e u ⟨rfl, hb⟩
    go_wp2_with fail
    refine (HU.out _ (HH.out.below hb)).mono ?_
    rintro e u2 ⟨a2, c2, rfl, ht2, hb2⟩
    have hB2 := hb.trans (hb2.mono hb.size)
    have HT2 : Hid (Ts u2 a2 c2 l) := ht2
    clear ht2 hb hb2
    go_wp2_with fail
    refine (C.pack a2 c2 l _ HT2.out).mono ?_
    rintro e u3 ⟨a3, c3, rfl, hr3, hb3⟩
    rw [P1.out, P2.out]
    rw [P2.out] at hr3
    have hB3 := hB2.trans (hb3.mono hB2.size)
    have HT3 : Hid (Ts u3 a2 c2 l) := HT2.out.below hb3
    clear hb3
    go_wp2_with fail
    refine (same8_any a a3 cap c3 xs _ (HH.out.below hB3) hr3).mono ?_
    rintro e u4 ⟨rfl, hb4⟩
    have hB4 := hB3.trans (hb4.mono hB3.size)
    go_wp2_with fail
    refine (C.formed a2 c2 l _ (HT3.out.below hb4)).mono ?_
    rintro e u5 ⟨rfl, hb5⟩
    rw [P3.out]
    have hB5 := hB4.trans (hb5.mono hB4.size)
    go_wp2
    go_ret
    exact ⟨rfl, hB5⟩
  · obtain ⟨u1, u2⟩ := unp_bad hF (by omega)
    have hU := fun w h => C.unpack a cap xs w h
    rw [u1, u2] at hU
    have HU : Hid (∀ (w : World), Rb w a cap xs → Calls Try.prog 21 #[.slice a xs.length cap] w fun e w' => ∃ a' cap', e = .returned (.tuple #[.slice a' ([] : List Tb).length cap', .int .i64 2]) ∧ Ts w' a' cap' [] ∧ Below w.heap.size w w') := hU
    clear u1 u2 hU hF
    go_enter Try.func6, Try.ntmps6
    go_wp2_with fail
    refine (awake5_any C _).mono ?_
    rintro e u ⟨rfl, hb⟩
    go_wp2_with fail
    refine (HU.out _ (HH.out.below hb)).mono ?_
    rintro e u2 ⟨a2, c2, rfl, ht2, hb2⟩
    have hB2 := hb.trans (hb2.mono hb.size)
    clear ht2 hb hb2
    go_wp2
    go_ret
    exact ⟨rfl, hB2⟩

end Go.Proofs.Ytijehnfadpoapaa
