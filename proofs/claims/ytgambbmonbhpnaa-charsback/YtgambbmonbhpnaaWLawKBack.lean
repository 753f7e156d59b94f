/-
  foundrylaw17: the walk of a law.
-/
import Derived.Test.YtgambbmonbhpnaaZ6
import Derived.Test.YtgambbmonbhpnaaZ7
import Derived.Test.YtgambbmonbhpnaaZ10
import Derived.Test.YtgambbmonbhpnaaZ11
import Derived.Test.YtgambbmonbhpnaaZ12
namespace Go.Proofs.Ytgambbmonbhpnaa
open Go.RowKit Go.Maps
set_option linter.unusedSimpArgs false
set_option linter.unusedVariables false

theorem rdC_cases {xs : List Nat} (hb : Byt xs) (n : Int) : (rdCE xs n = 0 ∧ wrCE (rdCL xs n) n = 0 ∧ wrCB (rdCL xs n) n = xs) ∨ (rdCE xs n = 2 ∧ rdCL xs n = []) := by
  cases ho : rdCOk xs n with
  | false => exact .inr ⟨(rdC_no ho).2, (rdC_no ho).1⟩
  | true =>
    obtain ⟨h1, h2⟩ := rdC_of hb ho
    obtain ⟨h3, h4⟩ := rdC_yes ho
    refine .inl ⟨h4, ?_, ?_⟩
    · rw [h3]; exact (wrC_yes h1).2
    · rw [h3, (wrC_yes h1).1]; exact h2

set_option maxHeartbeats 8000000 in
set_option maxRecDepth 100000 in
theorem charsBack_any (S : Nat → Prop) (a : Option Addr) (ca : Nat) (l : List Rn) (pa : Option Addr) (pc : Nat) (xs : List Nat) (n : Int) (w : World) (hl : Gr RnE S w a ca l) (hxs : Rb w pa pc xs) (hn : I64 n) :
    Calls Try.prog 5 #[.slice a l.length ca, .slice pa xs.length pc, .int .i64 n] w fun e w' => e = .returned (.bool true) ∧ Below w.heap.size w w' := by
  have kl := hl.lenB
  have hbW := Below.refl w.heap.size w
  go_enter Try.func5, Try.ntmps5
  go_wp2_with fail
  refine (awake17_any _).mono ?_
  rintro e y1 ⟨rfl, hb1⟩
  replace hl := hl.below hb1
  replace hxs := hxs.below hb1
  replace hbW := hbW.trans (hb1.mono hbW.size)
  clear hb1
  have kx := hxs.le
  have kx2 := hxs.cap
  unfold maxLen at kx2
  by_cases hxg1 : 100 < l.length
  · have g1 : decide ((100 : Int) < (l.length : Int)) = true := decide_eq_true (by omega)
    go_wp2_with fail
    refine (awake17_any _).mono ?_
    rintro e uz ⟨rfl, hbz⟩
    have hfin := hbW.trans (hbz.mono hbW.size)
    clear hbz
    go_wp2
    go_ret
    exact ⟨rfl, hfin⟩
  have g1 : decide ((100 : Int) < (l.length : Int)) = false := decide_eq_false (by omega)
  by_cases hxg2 : 2000 < xs.length
  · have g2 : decide ((2000 : Int) < (xs.length : Int)) = true := decide_eq_true (by omega)
    go_wp2_with fail
    refine (awake17_any _).mono ?_
    rintro e uz ⟨rfl, hbz⟩
    have hfin := hbW.trans (hbz.mono hbW.size)
    clear hbz
    go_wp2
    go_ret
    exact ⟨rfl, hfin⟩
  have g2 : decide ((2000 : Int) < (xs.length : Int)) = false := decide_eq_false (by omega)
  have hcc := cwriteC_any S a ca l n _ hl hn
  go_wp2_with fail
  refine hcc.mono ?_
  rintro e y3 ⟨a1, c1, rfl, hr1, hb1⟩
  clear hcc
  have hrd1 := hr1.rd
  clear hr1 g1 g2
  replace hl := hl.below hb1
  replace hxs := hxs.below hb1
  replace hbW := hbW.trans (hb1.mono hbW.size)
  clear hb1
  cases hfo : okC l n with
  | false =>
    obtain ⟨w1, w2⟩ := wrC_no hfo
    rw [w1, w2]
    clear w1 w2 hfo hrd1
    have hcc := creadC_any pa pc xs n _ hxs hn (by omega)
    go_wp2_with fail
    refine hcc.mono ?_
    rintro e z1 ⟨a5, c5, rfl, hg5, hb1⟩
    clear hcc
    replace hl := hl.below hb1
    replace hxs := hxs.below hb1
    replace hbW := hbW.trans (hb1.mono hbW.size)
    clear hb1
    rcases rdC_cases hxs.lim n with ⟨j1, j2, j3⟩ | ⟨j1, j2⟩
    rotate_left
    · rw [j1, j2]
      clear j1 j2 hg5
      go_wp2
      go_ret
      exact ⟨rfl, hbW⟩
    have hw2 := cwriteC_any _ a5 c5 (rdCL xs n) n _ hg5 hn
    rw [j2, j3] at hw2
    rw [j1]
    have k5 := hg5.lenB
    clear j1 j2 j3 hg5
    generalize (rdCL xs n).length = n5 at *
    go_wp2_with fail
    refine hw2.mono ?_
    rintro e z2 ⟨a6, c6, rfl, hr6, hb1⟩
    have hrd6 := hr6.rd
    clear hw2 hr6
    replace hl := hl.below hb1
    replace hxs := hxs.below hb1
    replace hbW := hbW.trans (hb1.mono hbW.size)
    clear hb1
    have hsm := same8g_any pa a6 pc c6 xs xs _ hxs hrd6
    rw [show decide (xs = xs) = true from decide_eq_true rfl] at hsm
    go_wp2_with fail
    refine hsm.mono ?_
    rintro e z3 ⟨rfl, hb9⟩
    have hfin := hbW.trans (hb9.mono hbW.size)
    clear hsm hb9
    go_wp2
    go_ret
    exact ⟨rfl, hfin⟩
  | true =>
  obtain ⟨w1, w2⟩ := wrC_yes hfo
  obtain ⟨b1, b2⟩ := rdC_back hfo
  obtain ⟨b3, b4⟩ := rdC_yes b1
  have hsz : (csB l).length ≤ 1000 := by rw [csB_len]; have := (foC_iff.1 (okC_iff.1 hfo).2).1; omega
  rw [w1] at hrd1
  rw [w1, w2]
  have hrp := creadC_any a1 c1 (csB l) n _ hrd1 hn (by omega)
  rw [b3, b4, b2] at hrp
  clear w1 w2 b1 b2 b3 b4 hfo hrd1
  generalize (csB l).length = n1 at *
  go_wp2_with fail
  refine hrp.mono ?_
  rintro e y4 ⟨a2, c2, rfl, hg2, hb1⟩
  clear hrp
  replace hl := hl.below hb1
  replace hxs := hxs.below hb1
  replace hbW := hbW.trans (hb1.mono hbW.size)
  clear hb1
  have hcc := ssameR17_any _ S a2 c2 a ca l _ hg2 hl
  go_wp2_with fail
  refine hcc.mono ?_
  rintro e y5 ⟨rfl, hb1⟩
  clear hcc hg2
  replace hl := hl.below hb1
  replace hxs := hxs.below hb1
  replace hbW := hbW.trans (hb1.mono hbW.size)
  clear hb1
  have hcc := creadC_any pa pc xs n _ hxs hn (by omega)
  go_wp2_with fail
  refine hcc.mono ?_
  rintro e z1 ⟨a5, c5, rfl, hg5, hb1⟩
  clear hcc
  replace hl := hl.below hb1
  replace hxs := hxs.below hb1
  replace hbW := hbW.trans (hb1.mono hbW.size)
  clear hb1
  rcases rdC_cases hxs.lim n with ⟨j1, j2, j3⟩ | ⟨j1, j2⟩
  rotate_left
  · rw [j1, j2]
    clear j1 j2 hg5
    go_wp2
    go_ret
    exact ⟨rfl, hbW⟩
  have hw2 := cwriteC_any _ a5 c5 (rdCL xs n) n _ hg5 hn
  rw [j2, j3] at hw2
  rw [j1]
  have k5 := hg5.lenB
  clear j1 j2 j3 hg5
  generalize (rdCL xs n).length = n5 at *
  go_wp2_with fail
  refine hw2.mono ?_
  rintro e z2 ⟨a6, c6, rfl, hr6, hb1⟩
  have hrd6 := hr6.rd
  clear hw2 hr6
  replace hl := hl.below hb1
  replace hxs := hxs.below hb1
  replace hbW := hbW.trans (hb1.mono hbW.size)
  clear hb1
  have hsm := same8g_any pa a6 pc c6 xs xs _ hxs hrd6
  rw [show decide (xs = xs) = true from decide_eq_true rfl] at hsm
  go_wp2_with fail
  refine hsm.mono ?_
  rintro e z3 ⟨rfl, hb9⟩
  have hfin := hbW.trans (hb9.mono hbW.size)
  clear hsm hb9
  go_wp2
  go_ret
  exact ⟨rfl, hfin⟩

end Go.Proofs.Ytgambbmonbhpnaa
