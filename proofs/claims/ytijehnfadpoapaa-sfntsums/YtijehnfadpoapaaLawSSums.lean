/-
  foundrylaw05.SfntSums: the walk.
-/
import Derived.Test.YtijehnfadpoapaaLawS0
namespace Go.Proofs.Ytijehnfadpoapaa
open Go.RowKit Go.Maps
set_option linter.unusedSimpArgs false
set_option linter.unusedVariables false

set_option maxHeartbeats 2000000 in
set_option maxRecDepth 100000 in
theorem sfntSums_any (C : Cod) (a : Option Addr) (ca : Nat) (xs : List Nat) (b : Option Addr) (cb : Nat) (ys : List Nat) (w : World) (h : Rb w a ca xs) (hx : Rb w b cb ys) :
    Calls Try.prog 8 #[.slice a xs.length ca, .slice b ys.length cb] w fun e w' => e = .returned (.bool true) ∧ Below w.heap.size w w' := by
  obtain ⟨i0, hi, hz0, hz1, hz2⟩ := info_parts info_byte
  have HX : Hid (∀ u, Below w.heap.size w u → Rb u a ca xs) := fun u hu => h.below hu
  have HY : Hid (∀ u, Below w.heap.size w u → Rb u b cb ys) := fun u hu => hx.below hu
  have k1 := hx.le
  have k2 := hx.cap
  have k3 := h.le
  have k4 := h.cap
  unfold maxLen at k2 k4
  clear h hx
  by_cases hout : 10000 < xs.length ∨ 10000 < ys.length
  · rcases Nat.lt_or_ge 10000 xs.length with h1 | h1
    · have g1 : (10000 : Int) < (xs.length : Int) := by omega
      go_enter Try.func8, Try.ntmps8
      go_wp2_with fail
      refine (awake5_any C _).mono ?_
      rintro e u ⟨rfl, hb⟩
      go_wp2_with fail
      refine (awake5_any C _).mono ?_
      rintro e u2 ⟨rfl, hb2⟩
      go_wp2
      go_ret
      exact ⟨rfl, hb.trans (hb2.mono hb.size)⟩
    · have g1 : ¬ (10000 : Int) < (xs.length : Int) := by omega
      have g2 : (10000 : Int) < (ys.length : Int) := by omega
      go_enter Try.func8, Try.ntmps8
      go_wp2_with fail
      refine (awake5_any C _).mono ?_
      rintro e u ⟨rfl, hb⟩
      go_wp2_with fail
      refine (awake5_any C _).mono ?_
      rintro e u2 ⟨rfl, hb2⟩
      go_wp2
      go_ret
      exact ⟨rfl, hb.trans (hb2.mono hb.size)⟩
  have g1 : ¬ (10000 : Int) < (xs.length : Int) := by omega
  have g2 : ¬ (10000 : Int) < (ys.length : Int) := by omega
  have b1 : xs.length ≤ 10000 := by omega
  have b2 : ys.length ≤ 10000 := by omega
  clear hout
  obtain ⟨q, hq⟩ : ∃ q, xs.length / 4 * 4 = q := ⟨_, rfl⟩
  have hq1 : (xs.length : Int) / 4 * 4 = (q : Int) := by omega
  have hqle : q ≤ xs.length := by omega
  have HQ4 : Hid (q % 4 = 0) := by show q % 4 = 0; omega
  clear hq
  obtain ⟨zs, hzs⟩ : ∃ zs, xs.take q = zs := ⟨_, rfl⟩
  have HZL : Hid (zs.length = q) := by show zs.length = q; rw [← hzs]; simp; omega
  have HZ : Hid (∀ u, Below w.heap.size w u → Rb u a ca zs) := fun u hu => hzs ▸ (HX.out u hu).take q
  clear hzs
  go_enter Try.func8, Try.ntmps8
  go_wp2_with fail
  refine (awake5_any C _).mono ?_
  rintro e u0 ⟨rfl, hb0⟩
  have hz := HZ.out u0 hb0
  have q1 : (0 : Int) ≤ (q : Int) := by omega
  have q2 : (q : Int) ≤ (ca : Int) := by omega
  have q3 : q ≤ ca := by omega
  go_wp2_with (at_builtin; refine wpList_append_rw rfl _ _ 23 rfl u0 5 i0 Try.underlying23 hi hz0 hz1 hz2 none 0 [] rfl (Rw.nil _ _) (Below.refl _ _) a ca _ zs rfl HZL.out.symm hz (by have := HZL.out; simp; omega) ?_)
  intro a1 c1 t1 w1 T1 R1 B1
  have B1' : Below w.heap.size w w1 := hb0.trans (B1.out.mono hb0.size)
  have hy := HY.out w1 B1'
  have L1 : Hid (t1 = zs) := by show t1 = zs; have := T1.out; simpa using this
  go_wp2_with (at_builtin; refine wpList_append_rw rfl _ _ 23 rfl u0 5 i0 Try.underlying23 hi hz0 hz1 hz2 a1 c1 t1 rfl R1.out B1.out b cb _ ys rfl rfl hy (by have := HZL.out; have := L1.out; subst this; omega) ?_)
  intro a2 c2 t2 w2 T2 R2 B2
  have B2' : Below w.heap.size w w2 := hb0.trans (B2.out.mono hb0.size)
  have L2 : Hid (t2 = zs ++ ys) := by show t2 = zs ++ ys; rw [T2.out, L1.out]
  have L2' : Hid (t2.length ≤ 20000) := by show t2.length ≤ 20000; have := HZL.out; rw [L2.out, List.length_append]; omega
  clear T1 R1 B1 B1' hy hz L1
  go_wp2_with fail
  refine (C.sum a2 c2 t2 _ R2.out.rd (by have := L2'.out; omega)).mono ?_
  rintro e w3 ⟨rfl, hb3⟩
  have B3 : Below w.heap.size w w3 := B2'.trans (hb3.mono B2'.size)
  have hS1 := C.sum a ca zs w3 (HZ.out w3 B3) (by have := HZL.out; omega)
  rw [HZL.out] at hS1
  clear hb3
  go_wp2_with fail
  refine hS1.mono ?_
  rintro e w4 ⟨rfl, hb4⟩
  have B4 : Below w.heap.size w w4 := B3.trans (hb4.mono B3.size)
  clear hb4 hS1
  go_wp2_with fail
  refine (C.sum b cb ys _ (HY.out w4 B4) (by omega)).mono ?_
  rintro e w5 ⟨rfl, hb5⟩
  have B5 : Below w.heap.size w w5 := B4.trans (hb5.mono B4.size)
  have hsum : sm t2 = (sm zs + sm ys) % 4294967296 := by rw [L2.out]; exact sm_append (by rw [HZL.out]; exact HQ4.out) ys
  have HEND : Hid (∀ t : List Nat, t = ys ++ [0, 0, 0, 0] → sm t = sm ys) := fun t ht => by rw [ht]; exact sm_zeros ys
  have l0 := sm_lt t2
  have l1 := sm_lt zs
  have l2 := sm_lt ys
  clear hb5
  generalize sm t2 = S0 at *
  generalize sm zs = S1 at *
  generalize hS2 : sm ys = S2 at *
  have HS2 : Hid (sm ys = S2) := hS2
  clear hS2
  have hw1 : ((S1 : Int) + (S2 : Int)) % 4294967296 = (S0 : Int) := by omega
  have hne : ((S0 : Int) != (S0 : Int)) = false := by simp
  clear hsum
  have hy5 := HY.out w5 B5
  go_wp2_with (at_builtin; refine wpList_append_rw rfl _ _ 23 rfl w5 5 i0 Try.underlying23 hi hz0 hz1 hz2 none 0 [] rfl (Rw.nil _ _) (Below.refl _ _) b cb _ ys rfl rfl hy5 (by simp; omega) ?_)
  intro a6 c6 t6 w6 T6 R6 B6
  have B6' : Below w.heap.size w w6 := B5.trans (B6.out.mono B5.size)
  have L6 : Hid (t6 = ys) := by show t6 = ys; have := T6.out; simpa using this
  have hrz := rb_new w6 5 [0, 0, 0, 0] #[Value.int IntKind.u8 0, Value.int IntKind.u8 0, Value.int IntKind.u8 0, Value.int IntKind.u8 0] (by simp [Y]) (byt_zeros 4) (by simp [maxLen])
  have hr6 := R6.out.below (bl1 (w := w6) (.cells #[Value.int IntKind.u8 0, Value.int IntKind.u8 0, Value.int IntKind.u8 0, Value.int IntKind.u8 0] 5))
  have hb6 := B6.out.alloc B6.out.size (.cells #[Value.int IntKind.u8 0, Value.int IntKind.u8 0, Value.int IntKind.u8 0, Value.int IntKind.u8 0] 5)
  go_wp2_with (at_builtin; refine wpList_append_rw rfl _ _ 23 rfl w5 5 i0 Try.underlying23 hi hz0 hz1 hz2 a6 c6 t6 rfl hr6 hb6 (some ⟨w6.heap.size, 0, none⟩) 4 _ [0, 0, 0, 0] rfl rfl hrz (by have := L6.out; subst this; simp; omega) ?_)
  intro a7 c7 t7 w7 T7 R7 B7
  have B7' : Below w.heap.size w w7 := B5.trans (B7.out.mono B5.size)
  have L7 : Hid (t7 = ys ++ [0, 0, 0, 0]) := by show t7 = _; rw [T7.out, L6.out]
  clear hrz hr6 hb6
  go_wp2_with fail
  refine (C.sum a7 c7 t7 _ R7.out.rd (by rw [L7.out]; simp; omega)).mono ?_
  rintro e w8 ⟨rfl, hb8⟩
  have B8 : Below w.heap.size w w8 := B7'.trans (hb8.mono B7'.size)
  rw [HEND.out t7 L7.out]
  clear hb8
  go_wp2_with fail
  refine (C.sum b cb ys _ (HY.out w8 B8) (by omega)).mono ?_
  rintro e w9 ⟨rfl, hb9⟩
  have B9 : Below w.heap.size w w9 := B8.trans (hb9.mono B8.size)
  rw [HS2.out]
  have heq : ((S2 : Int) == (S2 : Int)) = true := by simp
  clear hb9
  go_wp2
  go_ret
  exact ⟨rt_bool (by first | rfl | simp), B9⟩

end Go.Proofs.Ytijehnfadpoapaa
