/-
  foundrylaw16: the walk of a law.
-/
import Derived.Test.YtfpeioccnpinkaaZ19
import Derived.Test.YtfpeioccnpinkaaZ29
import Derived.Test.YtfpeioccnpinkaaZ30
namespace Go.Proofs.Ytfpeioccnpinkaa
open Go.RowKit Go.Maps
set_option linter.unusedSimpArgs false
set_option linter.unusedVariables false


theorem rdM_cases {xs : List Nat} (hb : Byt xs) (s : Sr) : (rdME xs s = 0 ∧ wrME (rdML xs s) s = 0 ∧ wrMB (rdML xs s) s = xs) ∨ (rdME xs s = 2 ∧ rdML xs s = []) := by
  cases ho : rdMOk xs s with
  | false => exact .inr ⟨(rdM_no ho).2, (rdM_no ho).1⟩
  | true =>
    obtain ⟨h1, h2⟩ := rdM_of hb ho
    obtain ⟨h3, h4⟩ := rdM_yes ho
    refine .inl ⟨h4, ?_, ?_⟩
    · rw [h3]; exact (wrM_yes h1).2
    · rw [h3, (wrM_yes h1).1]; exact h2

set_option maxHeartbeats 8000000 in
set_option maxRecDepth 100000 in
theorem metricsBack_any (S : Nat → Prop) (a : Option Addr) (ca : Nat) (l : List Mt) (ga : Option Addr) (gc : Nat) (ma : Option Addr) (mc : Nat) (s : Sr) (pa : Option Addr) (pc : Nat) (xs : List Nat) (w : World) (hl : Gr MtE S w a ca l) (hg : Tzz w ga gc s.rg) (hm : Rii w ma mc s.rw) (hxs : Rb w pa pc xs) :
    Calls Try.prog 5 #[.agg #[.slice a l.length ca, .slice ga s.rg.length gc, .slice ma s.rw.length mc], .slice pa xs.length pc] w fun e w' => e = .returned (.bool true) ∧ Below w.heap.size w w' := by
  have kl := hl.lenB
  have kg := hg.lenB
  have km := hm.lenB
  obtain ⟨W, hW, X1, hbW⟩ : ∃ W, W = w.alloc (.cells #[.slice a l.length ca, .slice ga s.rg.length gc, .slice ma s.rw.length mc] 28) ∧ Bk 28 W w.heap.size [.slice a l.length ca, .slice ga s.rg.length gc, .slice ma s.rw.length mc] ∧ Below w.heap.size w W := ⟨_, rfl, Bk.new _ _ _, bl1 _⟩
  replace hl := hl.below hbW
  replace hg := hg.below hbW
  replace hm := hm.below hbW
  replace hxs := hxs.below hbW
  go_enter Try.func5, Try.ntmps5
  go_upto_region 1 with fail
  rw [← hW]
  clear hW
  obtain ⟨p0, p1, p2, -⟩ := X1.three
  go_wp2_with fail
  refine (awake16_any _).mono ?_
  rintro e y1 ⟨rfl, hb1⟩
  replace hl := hl.below hb1
  replace hg := hg.below hb1
  replace hm := hm.below hb1
  replace hxs := hxs.below hb1
  replace X1 := X1.below hb1
  replace hbW := hbW.trans (hb1.mono hbW.size)
  clear p0 p1 p2 hb1
  obtain ⟨p0, p1, p2, -⟩ := X1.three
  go_wp2_with fail
  refine (few16_any a ca l.length ga gc ma mc s _ kl hg hm).mono ?_
  rintro e y2 ⟨⟨q, rfl, HQ⟩, hb1⟩
  replace HQ : Hid (q = true → l.length ≤ 40 ∧ s.rg.length ≤ 20 ∧ ∀ l ∈ s.rg, l.length ≤ 8) := HQ
  replace hl := hl.below hb1
  replace hg := hg.below hb1
  replace hm := hm.below hb1
  replace hxs := hxs.below hb1
  replace X1 := X1.below hb1
  replace hbW := hbW.trans (hb1.mono hbW.size)
  clear p0 p1 p2 hb1
  obtain ⟨p0, p1, p2, -⟩ := X1.three
  cases q with
  | false =>
    go_wp2_with fail
    refine (awake16_any _).mono ?_
    rintro e uz ⟨rfl, hbz⟩
    have hfin := hbW.trans (hbz.mono hbW.size)
    clear hbz
    go_wp2
    go_ret
    exact ⟨rfl, hfin⟩
  | true =>
  have HQ2 : Hid (l.length ≤ 40 ∧ s.rg.length ≤ 20 ∧ ∀ l ∈ s.rg, l.length ≤ 8) := HQ.out rfl
  clear HQ
  have kx := hxs.le
  have kx2 := hxs.cap
  unfold maxLen at kx2
  by_cases hx6 : 1000 < xs.length
  · have g1 : decide ((1000 : Int) < (xs.length : Int)) = true := decide_eq_true (by omega)
    go_wp2_with fail
    refine (awake16_any _).mono ?_
    rintro e uz ⟨rfl, hbz⟩
    have hfin := hbW.trans (hbz.mono hbW.size)
    clear hbz
    go_wp2
    go_ret
    exact ⟨rfl, hfin⟩
  have g1 : decide ((1000 : Int) < (xs.length : Int)) = false := decide_eq_false (by omega)
  have hw1 := mwrite_any S a ca l ga gc ma mc s _ hl km
  go_wp2_with fail
  refine hw1.mono ?_
  rintro e y3 ⟨a1, c1, rfl, hr1, hb1⟩
  have hrd1 := hr1.rd
  clear hw1 hr1 g1
  replace hl := hl.below hb1
  replace hg := hg.below hb1
  replace hm := hm.below hb1
  replace hxs := hxs.below hb1
  replace X1 := X1.below hb1
  replace hbW := hbW.trans (hb1.mono hbW.size)
  clear p0 p1 p2 hb1
  obtain ⟨p0, p1, p2, -⟩ := X1.three
  cases hfo : foM l s with
  | false =>
    obtain ⟨w1, w2⟩ := wrM_no hfo
    rw [w1, w2]
    clear w1 w2 hfo hrd1
    have hrx := mread_any pa pc xs ga gc ma mc s _ hxs km (by omega)
    go_wp2_with fail
    refine hrx.mono ?_
    rintro e z1 ⟨a5, c5, rfl, hg5, hb1⟩
    clear hrx
    replace hl := hl.below hb1
    replace hg := hg.below hb1
    replace hm := hm.below hb1
    replace hxs := hxs.below hb1
    replace X1 := X1.below hb1
    replace hbW := hbW.trans (hb1.mono hbW.size)
    clear p0 p1 p2 hb1
    obtain ⟨p0, p1, p2, -⟩ := X1.three
    rcases rdM_cases hxs.lim s with ⟨j1, j2, j3⟩ | ⟨j1, j2⟩
    rotate_left
    · rw [j1, j2]
      clear j1 j2 hg5
      go_wp2
      go_ret
      exact ⟨rfl, hbW⟩
    have hw2 := mwrite_any _ a5 c5 (rdML xs s) ga gc ma mc s _ hg5 km
    rw [j2, j3] at hw2
    rw [j1]
    have k5 := hg5.lenB
    clear j1 j2 j3 hg5
    generalize (rdML xs s).length = n5 at *
    go_wp2_with fail
    refine hw2.mono ?_
    rintro e z2 ⟨a6, c6, rfl, hr6, hb1⟩
    have hrd6 := hr6.rd
    clear hw2 hr6
    replace hl := hl.below hb1
    replace hg := hg.below hb1
    replace hm := hm.below hb1
    replace hxs := hxs.below hb1
    replace X1 := X1.below hb1
    replace hbW := hbW.trans (hb1.mono hbW.size)
    clear p0 p1 p2 hb1
    obtain ⟨p0, p1, p2, -⟩ := X1.three
    have hsm := same8g_any pa a6 pc c6 xs xs _ hxs hrd6
    rw [show decide (xs = xs) = true from decide_eq_true rfl] at hsm
    go_wp2_with fail
    refine hsm.mono ?_
    rintro e z3 ⟨rfl, hb9⟩
    have hfin := hbW.trans (hb9.mono hbW.size)
    clear hsm hb9 p0 p1 p2
    go_wp2
    go_ret
    exact ⟨rfl, hfin⟩
  | true =>
  obtain ⟨w1, w2⟩ := wrM_yes hfo
  obtain ⟨b1, b2⟩ := rdM_back hfo
  obtain ⟨b3, b4⟩ := rdM_yes b1
  have hsz : (msB l).length ≤ 1000 := by rw [msB_len hfo]; have := (foM_iff.1 hfo).1; omega
  rw [w1] at hrd1
  rw [w1, w2]
  have hrp := mread_any a1 c1 (msB l) ga gc ma mc s _ hrd1 km (by omega)
  rw [b3, b4, b2] at hrp
  clear w1 w2 b1 b2 b3 b4 hfo hrd1
  generalize (msB l).length = n1 at *
  go_wp2_with fail
  refine hrp.mono ?_
  rintro e y4 ⟨a2, c2, rfl, hg2, hb1⟩
  clear hrp
  replace hl := hl.below hb1
  replace hg := hg.below hb1
  replace hm := hm.below hb1
  replace hxs := hxs.below hb1
  replace X1 := X1.below hb1
  replace hbW := hbW.trans (hb1.mono hbW.size)
  clear p0 p1 p2 hb1
  obtain ⟨p0, p1, p2, -⟩ := X1.three
  have hsG := ssameM_any _ S a2 c2 a ca l _ hg2 hl
  go_wp2_with fail
  refine hsG.mono ?_
  rintro e y5 ⟨rfl, hb1⟩
  clear hsG hg2
  replace hl := hl.below hb1
  replace hg := hg.below hb1
  replace hm := hm.below hb1
  replace hxs := hxs.below hb1
  replace X1 := X1.below hb1
  replace hbW := hbW.trans (hb1.mono hbW.size)
  clear p0 p1 p2 hb1
  obtain ⟨p0, p1, p2, -⟩ := X1.three
  have hrx := mread_any pa pc xs ga gc ma mc s _ hxs km (by omega)
  go_wp2_with fail
  refine hrx.mono ?_
  rintro e z1 ⟨a5, c5, rfl, hg5, hb1⟩
  clear hrx
  replace hl := hl.below hb1
  replace hg := hg.below hb1
  replace hm := hm.below hb1
  replace hxs := hxs.below hb1
  replace X1 := X1.below hb1
  replace hbW := hbW.trans (hb1.mono hbW.size)
  clear p0 p1 p2 hb1
  obtain ⟨p0, p1, p2, -⟩ := X1.three
  rcases rdM_cases hxs.lim s with ⟨j1, j2, j3⟩ | ⟨j1, j2⟩
  rotate_left
  · rw [j1, j2]
    clear j1 j2 hg5
    go_wp2
    go_ret
    exact ⟨rfl, hbW⟩
  have hw2 := mwrite_any _ a5 c5 (rdML xs s) ga gc ma mc s _ hg5 km
  rw [j2, j3] at hw2
  rw [j1]
  have k5 := hg5.lenB
  clear j1 j2 j3 hg5
  generalize (rdML xs s).length = n5 at *
  go_wp2_with fail
  refine hw2.mono ?_
  rintro e z2 ⟨a6, c6, rfl, hr6, hb1⟩
  have hrd6 := hr6.rd
  clear hw2 hr6
  replace hl := hl.below hb1
  replace hg := hg.below hb1
  replace hm := hm.below hb1
  replace hxs := hxs.below hb1
  replace X1 := X1.below hb1
  replace hbW := hbW.trans (hb1.mono hbW.size)
  clear p0 p1 p2 hb1
  obtain ⟨p0, p1, p2, -⟩ := X1.three
  have hsm := same8g_any pa a6 pc c6 xs xs _ hxs hrd6
  rw [show decide (xs = xs) = true from decide_eq_true rfl] at hsm
  go_wp2_with fail
  refine hsm.mono ?_
  rintro e z3 ⟨rfl, hb9⟩
  have hfin := hbW.trans (hb9.mono hbW.size)
  clear hsm hb9 p0 p1 p2
  go_wp2
  go_ret
  exact ⟨rfl, hfin⟩

end Go.Proofs.Ytfpeioccnpinkaa
