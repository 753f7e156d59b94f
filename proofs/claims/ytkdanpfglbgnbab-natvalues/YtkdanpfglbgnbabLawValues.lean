/-
  foundrylaw01.NatValues: the walk.
-/
import Derived.Test.YtkdanpfglbgnbabLaw0
import Derived.Test.YtkdanpfglbgnbabRGcd
import Derived.Test.YtkdanpfglbgnbabROf
namespace Go.Proofs.Ytkdanpfglbgnbab
open Go.RowKit
set_option linter.unusedSimpArgs false
set_option linter.unusedVariables false

theorem wf_u64_bounds {n : Int} (h : (Lit.int .u64 n).wf = true) : 0 ≤ n ∧ n < 18446744073709551616 := by
  simp [Lit.wf, IntKind.min, IntKind.max, IntKind.bits, IntKind.signed] at h
  omega

theorem few_nil (a : Option Addr) (n ca : Nat) (w : World) (h1 : n ≤ 9223372036854775807) :
    Calls Try.prog 10 #[.slice a n ca, .slice none 0 0] w fun e w' => e = .returned (.bool (decide (n ≤ 12))) ∧ w = w' :=
  (few_any a none n 0 ca 0 w h1 (by decide)).mono fun e w' h => ⟨by rw [h.1]; congr 3; simp, h.2⟩

set_option maxHeartbeats 1600000 in
theorem walkNatValues (a0 : Option Addr) (len0 cap0 : Nat) (z0 : List Int) (a1 : Int) (w : World) (w0 : IsRow .u32 w a0 len0 cap0 z0) (w1 : (Lit.int .u64 a1).wf = true) :
    Calls Try.prog 3 #[.slice a0 len0 cap0, .int .u64 a1] w fun e w' => e = .returned (.bool true) ∧ Below w.heap.size w w' := by
  obtain ⟨xs, rfl, h0⟩ := w0.rd
  have hn := wf_u64_bounds w1
  obtain ⟨n, rfl⟩ := Int.eq_ofNat_of_zero_le hn.1
  have hn2 : n < 18446744073709551616 := by omega
  clear w0 w1 z0 hn
  have b0 : xs.length ≤ 9223372036854775807 := by have := h0.le; have := h0.cap; unfold maxLen at this; omega
  go_enter Try.func3, Try.ntmps3
  go_wp2_with fail
  refine (awake_any _).mono ?_
  rintro e u1 ⟨rfl, hu1⟩
  go_wp2_with fail
  refine (few_nil _ _ _ _ b0).mono ?_
  rintro e u2 ⟨rfl, rfl⟩
  by_cases hf : xs.length ≤ 12
  · have hd : decide (xs.length ≤ 12) = true := by simp [hf]
    rw [hd]
    clear hd
    go_wp2_with fail
    refine (small_any _ _ _ _ (h0.below hu1)).mono ?_
    rintro e u2 ⟨rfl, rfl⟩
    go_wp2_with fail
    refine (rsmall_any _ _ _ _ (h0.below hu1) (by omega)).mono ?_
    rintro e u3 ⟨rfl, hu3⟩
    have hb3 : Below w.heap.size w u3 := hu1.trans (hu3.mono hu1.size)
    generalize smallN (V xs) = sv
    generalize isSmall (V xs) = bv
    have e1 : ((sv : Int) == (sv : Int)) = true := by simp
    have e2 : (bv == bv) = true := by simp
    go_wp2_with fail
    refine (trim_any _ _ _ _ (h0.below hb3) (by omega)).mono ?_
    rintro e u4 ⟨a4, c4, rfl, hr4, hu4⟩
    have hb4 : Below w.heap.size w u4 := hb3.trans (hu4.mono hb3.size)
    have r4 := hr4.rd
    go_wp2_with fail
    refine (rtrim_any _ _ _ _ (h0.below hb4) (by omega)).mono ?_
    rintro e u5 ⟨a5, c5, rfl, hr5, hu5⟩
    have hb5 : Below w.heap.size w u5 := hb4.trans (hu5.mono hb4.size)
    have r5 := hr5.rd
    have r4' := r4.below hu5
    clear hr4 hr5 r4
    go_wp2_with fail
    refine (same_any _ _ _ _ _ _ r4' r5).mono ?_
    rintro e u6 ⟨rfl, hu6⟩
    have hb6 : Below w.heap.size w u6 := hb5.trans (hu6.mono hb5.size)
    clear r4' r5
    go_wp2_with fail
    refine (of_any n _ hn2).mono ?_
    rintro e u7 ⟨a7, c7, z7, rfl, hv7, ht7, hr7, hu7⟩
    have hb7 : Below w.heap.size w u7 := hb6.trans (hu7.mono hb6.size)
    have r7 := hr7.rd
    have HV7 : Hid (V z7 = n) := hv7
    clear hv7 hr7
    go_wp2_with fail
    refine (rof_any n _ hn2).mono ?_
    rintro e u8 ⟨a8, c8, z8, rfl, hv8, ht8, hr8, hu8⟩
    have hb8 : Below w.heap.size w u8 := hb7.trans (hu8.mono hb7.size)
    have r8 := hr8.rd
    have r7' := r7.below hu8
    have hz : z8 = z7 := uniq r8.lim r7.lim ht8 ht7 (by rw [HV7.out, hv8])
    subst hz
    clear hv8 hr8 r7
    go_wp2_with fail
    refine (same_any _ _ _ _ _ _ r7' r8).mono ?_
    rintro e u9 ⟨rfl, hu9⟩
    go_wp2
    go_ret
    exact ⟨rfl, hb8.trans (hu9.mono hb8.size)⟩
  · have hd : decide (xs.length ≤ 12) = false := by simpa using hf
    rw [hd]
    go_wp2_with fail
    refine (awake_any _).mono ?_
    rintro e u3 ⟨rfl, hu3⟩
    go_wp2
    go_ret
    exact ⟨rfl, hu1.trans (hu3.mono hu1.size)⟩

end Go.Proofs.Ytkdanpfglbgnbab
