/-
  foundrylaw05.SfntPacks: the walk.
-/
import Derived.Test.YtijehnfadpoapaaLawS0
namespace Go.Proofs.Ytijehnfadpoapaa
open Go.RowKit Go.Maps
set_option linter.unusedSimpArgs false
set_option linter.unusedVariables false

set_option maxHeartbeats 2000000 in
set_option maxRecDepth 100000 in
theorem sfntPacks_any (C : Cod) (a : Option Addr) (cap : Nat) (l : List Tb) (t : ByteArray) (b : Option Addr) (cb : Nat) (xs : List Nat) (w : World) (h : Ts w a cap l) (hx : Rb w b cb xs) (ht : t.size ≤ maxLen) :
    Calls Try.prog 3 #[.slice a l.length cap, .string t, .slice b xs.length cb] w fun e w' => e = .returned (.bool true) ∧ Below w.heap.size w w' := by
  have HT : Hid (∀ u, Below w.heap.size w u → Ts u a cap l) := fun u hu => h.below hu
  have HX : Hid (∀ u, Below w.heap.size w u → Rb u b cb xs) := fun u hu => hx.below hu
  have k1 := hx.le
  have k2 := hx.cap
  unfold maxLen at k2
  clear h hx
  by_cases hf : fewT l = true
  rotate_left
  · have hf : fewT l = false := by simpa using hf
    go_enter Try.func3, Try.ntmps3
    go_wp2_with fail
    refine (awake5_any C _).mono ?_
    rintro e u ⟨rfl, hb⟩
    go_wp2_with fail
    refine (few5_any a cap l _ (HT.out u hb)).mono ?_
    rintro e u' ⟨rfl, rfl⟩
    rw [hf]
    go_wp2_with fail
    refine (awake5_any C _).mono ?_
    rintro e u2 ⟨rfl, hb2⟩
    go_wp2
    go_ret
    exact ⟨rfl, hb.trans (hb2.mono hb.size)⟩
  by_cases hlong : 20000 < xs.length
  · have g1 : (20000 : Int) < (xs.length : Int) := by omega
    go_enter Try.func3, Try.ntmps3
    go_wp2_with fail
    refine (awake5_any C _).mono ?_
    rintro e u ⟨rfl, hb⟩
    go_wp2_with fail
    refine (few5_any a cap l _ (HT.out u hb)).mono ?_
    rintro e u' ⟨rfl, rfl⟩
    rw [hf]
    go_wp2_with fail
    refine (awake5_any C _).mono ?_
    rintro e u2 ⟨rfl, hb2⟩
    go_wp2
    go_ret
    exact ⟨rfl, hb.trans (hb2.mono hb.size)⟩
  have g1 : ¬ (20000 : Int) < (xs.length : Int) := by omega
  have HS : Hid (∀ s ∈ l, s.bs.length ≤ 1000000000) := fun s hs => by have := few_mem hf s hs; omega
  have HLL : Hid (l.length ≤ 100000) := by show l.length ≤ 100000; simp [fewT] at hf; omega
  go_enter Try.func3, Try.ntmps3
  go_wp2_with fail
  refine (awake5_any C _).mono ?_
  rintro e u0 ⟨rfl, hb0⟩
  go_wp2_with fail
  refine (few5_any a cap l _ (HT.out u0 hb0)).mono ?_
  rintro e u' ⟨rfl, rfl⟩
  rw [hf]
  go_wp2_with fail
  refine (C.pack a cap l _ (HT.out u0 hb0)).mono ?_
  rintro e u1 ⟨a1, c1, rfl, hr1, hb1⟩
  have B1 : Below w.heap.size w u1 := hb0.trans (hb1.mono hb0.size)
  have R1 : Hid (Rb u1 a1 c1 (pckB l)) := hr1
  clear hb1 hr1 hb0
  go_wp2_with fail
  refine (plain5_any a cap l _ (HT.out u1 B1) HLL.out).mono ?_
  rintro e u2 ⟨a2, c2, rfl, ht2, hb2⟩
  have B2 : Below w.heap.size w u2 := B1.trans (hb2.mono B1.size)
  have R1' : Hid (Rb u2 a1 c1 (pckB l)) := R1.out.below hb2
  go_wp2_with fail
  refine (spack_any a2 c2 l _ ht2).mono ?_
  rintro e u3 ⟨a3, c3, rfl, hr3, hb3⟩
  have B3 : Below w.heap.size w u3 := B2.trans (hb3.mono B2.size)
  have R13 : Hid (Rb u3 a1 c1 (pckB l)) := R1'.out.below hb3
  have R3 : Hid (Rb u3 a3 c3 (pckB l)) := hr3.rd
  clear hb2 ht2 hr3 hb3
  go_wp2_with fail
  refine (C.find a cap l t _ (HT.out u3 B3) HS.out ht).mono ?_
  rintro e u4 ⟨a4, c4, rfl, hr4, hb4⟩
  have B4 : Below w.heap.size w u4 := B3.trans (hb4.mono B3.size)
  have R14 : Hid (Rb u4 a1 c1 (pckB l)) := R13.out.below hb4
  have R34 : Hid (Rb u4 a3 c3 (pckB l)) := R3.out.below hb4
  have R4 : Hid (Rb u4 a4 c4 (fndB l t)) := hr4
  clear hr4 hb4
  go_wp2_with fail
  refine (plain5_any a cap l _ (HT.out u4 B4) HLL.out).mono ?_
  rintro e u5 ⟨a5, c5, rfl, ht5, hb5⟩
  have B5 : Below w.heap.size w u5 := B4.trans (hb5.mono B4.size)
  go_wp2_with fail
  refine (sfind_any a5 c5 l t _ ht5 HS.out).mono ?_
  rintro e u6 ⟨a6, c6, rfl, hr6, hb6⟩
  have hb56 := hb5.trans (hb6.mono hb5.size)
  have B6 : Below w.heap.size w u6 := B5.trans (hb6.mono B5.size)
  have R16 : Hid (Rb u6 a1 c1 (pckB l)) := R14.out.below hb56
  have R36 : Hid (Rb u6 a3 c3 (pckB l)) := R34.out.below hb56
  have R46 : Hid (Rb u6 a4 c4 (fndB l t)) := R4.out.below hb56
  have R6 : Hid (Rb u6 a6 c6 (fndB l t)) := hr6.rd
  clear hb5 ht5 hr6 hb6 hb56
  have hE : (pckE l == pckE l) = true := by simp
  have hF : (fndE l t == fndE l t) = true := by simp
  generalize pckE l = E at *
  generalize fndE l t = F at *
  go_wp2_with fail
  refine (same8_any a1 a3 c1 c3 (pckB l) _ R16.out R36.out).mono ?_
  rintro e u7 ⟨rfl, hb7⟩
  have B7 : Below w.heap.size w u7 := B6.trans (hb7.mono B6.size)
  go_wp2_with fail
  refine (same8_any a4 a6 c4 c6 (fndB l t) _ (R46.out.below hb7) (R6.out.below hb7)).mono ?_
  rintro e u8 ⟨rfl, hb8⟩
  have B8 : Below w.heap.size w u8 := B7.trans (hb8.mono B7.size)
  go_wp2_with fail
  refine (C.sum b cb xs _ (HX.out u8 B8) (by omega)).mono ?_
  rintro e u9 ⟨rfl, hb9⟩
  have B9 : Below w.heap.size w u9 := B8.trans (hb9.mono B8.size)
  go_wp2_with fail
  refine (ssum_any b cb xs _ (HX.out u9 B9) (by omega)).mono ?_
  rintro e u10 ⟨rfl, hb10⟩
  have B10 : Below w.heap.size w u10 := B9.trans (hb10.mono B9.size)
  have hS : (((sm xs : Nat) : Int) == ((sm xs : Nat) : Int)) = true := by simp
  generalize sm xs = S at *
  clear hb7 hb8 hb9 hb10
  go_wp2_with fail
  refine (C.formed a cap l _ (HT.out u10 B10)).mono ?_
  rintro e u11 ⟨rfl, hb11⟩
  have B11 : Below w.heap.size w u11 := B10.trans (hb11.mono B10.size)
  go_wp2_with fail
  refine (plain5_any a cap l _ (HT.out u11 B11) HLL.out).mono ?_
  rintro e u12 ⟨a12, c12, rfl, ht12, hb12⟩
  have B12 : Below w.heap.size w u12 := B11.trans (hb12.mono B11.size)
  go_wp2_with fail
  refine (sformed_any a12 c12 l _ ht12).mono ?_
  rintro e u13 ⟨rfl, hb13⟩
  have B13 : Below w.heap.size w u13 := B12.trans (hb13.mono B12.size)
  clear hb11 hb12 hb13 ht12
  have hG : (frB l == frB l) = true := by simp
  generalize frB l = g at *
  go_wp2
  go_ret
  exact ⟨rt_bool (by first | rfl | simp), B13⟩

end Go.Proofs.Ytijehnfadpoapaa
