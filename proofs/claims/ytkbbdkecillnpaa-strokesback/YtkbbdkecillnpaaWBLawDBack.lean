/-
  foundrylaw18.StrokesBack: the walk.
-/
import Derived.Test.YtkbbdkecillnpaaZB26
import Derived.Test.YtkbbdkecillnpaaZB28
import Derived.Test.YtkbbdkecillnpaaZB29
import Derived.Test.YtkbbdkecillnpaaZB30
namespace Go.Proofs.Ytkbbdkecillnpaa
open Go.RowKit Go.Maps
set_option linter.unusedSimpArgs false
set_option linter.unusedVariables false


set_option maxHeartbeats 8000000 in
set_option maxRecDepth 100000 in
theorem strokesBack_any (S : Nat → Prop) (a : Option Addr) (ca : Nat) (l : List (List Sp)) (ga : Option Addr) (gc : Nat) (ma : Option Addr) (mc : Nat) (s : Sr) (pa : Option Addr) (pc : Nat) (xs : List Nat) (w : World) (hl : Gr SpE.row S w a ca l) (hg : Tzz w ga gc s.rg) (hm : Rii w ma mc s.rw) (hxs : Rb w pa pc xs) :
    Calls Try.prog 3 #[.agg #[.slice a l.length ca, .slice ga s.rg.length gc, .slice ma s.rw.length mc], .slice pa xs.length pc] w fun e w' => e = .returned (.bool true) ∧ Below w.heap.size w w' := by
  have kl := hl.lenB
  have kg := hg.lenB
  have km := hm.lenB
  obtain ⟨W, hW, X1, hbW⟩ : ∃ W, W = w.alloc (.cells #[.slice a l.length ca, .slice ga s.rg.length gc, .slice ma s.rw.length mc] 28) ∧ Bk 28 W w.heap.size [.slice a l.length ca, .slice ga s.rg.length gc, .slice ma s.rw.length mc] ∧ Below w.heap.size w W := ⟨_, rfl, Bk.new _ _ _, bl1 _⟩
  replace hl := hl.below hbW
  replace hg := hg.below hbW
  replace hm := hm.below hbW
  replace hxs := hxs.below hbW
  go_enter Try.func3, Try.ntmps3
  go_upto_region 1 with fail
  rw [← hW]
  clear hW
  obtain ⟨p0, p1, p2, -⟩ := X1.three
  go_wp2_with fail
  refine (awake18_any _).mono ?_
  rintro e y1 ⟨rfl, hb1⟩
  replace hl := hl.below hb1
  replace hg := hg.below hb1
  replace hm := hm.below hb1
  replace hxs := hxs.below hb1
  replace X1 := X1.below hb1
  replace hbW := hbW.trans (hb1.mono hbW.size)
  clear p0 p1 p2 hb1
  obtain ⟨p0, p1, p2, -⟩ := X1.three
  go_wp2_with fail
  refine (few18_any S a ca l ga gc ma mc s none 0 0 _ hl hg hm (by omega)).mono ?_
  rintro e y2 ⟨⟨⟨q, rfl, HQ⟩⟩, hb1⟩
  replace HQ : Hid (q = true → s.rg.length ≤ 40 ∧ ∀ l ∈ s.rg, l.length ≤ 8) := HQ
  replace hl := hl.below hb1
  replace hg := hg.below hb1
  replace hm := hm.below hb1
  replace hxs := hxs.below hb1
  replace X1 := X1.below hb1
  replace hbW := hbW.trans (hb1.mono hbW.size)
  clear p0 p1 p2 hb1
  obtain ⟨p0, p1, p2, -⟩ := X1.three
  cases q with
  | false =>
    go_wp2_with fail
    refine (awake18_any _).mono ?_
    rintro e uz ⟨rfl, hbz⟩
    have hfin := hbW.trans (hbz.mono hbW.size)
    clear hbz
    go_wp2
    go_ret
    exact ⟨rfl, hfin⟩
  | true =>
  have HQ2 : Hid (s.rg.length ≤ 40 ∧ ∀ l ∈ s.rg, l.length ≤ 8) := HQ.out rfl
  clear HQ
  have kx := hxs.le
  have kx2 := hxs.cap
  unfold maxLen at kx2
  by_cases hx6 : 4000 < xs.length
  · have g1 : decide ((4000 : Int) < (xs.length : Int)) = true := decide_eq_true (by omega)
    go_wp2_with fail
    refine (awake18_any _).mono ?_
    rintro e uz ⟨rfl, hbz⟩
    have hfin := hbW.trans (hbz.mono hbW.size)
    clear hbz
    go_wp2
    go_ret
    exact ⟨rfl, hfin⟩
  have g1 : decide ((4000 : Int) < (xs.length : Int)) = false := decide_eq_false (by omega)
  have hw1 := cwriteD_any S a ca l ga gc ma mc s _ hl km kg
  go_wp2_with fail
  refine hw1.mono ?_
  rintro e y3 ⟨a1, c1, rfl, hr1, hb1⟩
  have hrd1 := hr1.rd
  clear hw1 hr1 g1
  replace hl := hl.below hb1
  replace hg := hg.below hb1
  replace hm := hm.below hb1
  replace hxs := hxs.below hb1
  replace X1 := X1.below hb1
  replace hbW := hbW.trans (hb1.mono hbW.size)
  clear p0 p1 p2 hb1
  obtain ⟨p0, p1, p2, -⟩ := X1.three
  cases hfo : foD (fiS s) l with
  | false =>
    obtain ⟨w1, w2⟩ := wrD_no hfo
    rw [w1, w2]
    clear w1 w2 hfo hrd1
    have hrx := creadD_any pa pc xs ga gc ma mc s _ hxs km kg
    go_wp2_with fail
    refine hrx.mono ?_
    rintro e z1 ⟨a5, c5, rfl, hg5, hb1⟩
    clear hrx
    replace hl := hl.below hb1
    replace hg := hg.below hb1
    replace hm := hm.below hb1
    replace hxs := hxs.below hb1
    replace X1 := X1.below hb1
    replace hbW := hbW.trans (hb1.mono hbW.size)
    clear p0 p1 p2 hb1
    obtain ⟨p0, p1, p2, -⟩ := X1.three
    rcases rdD_cases (fi := fiS s) xs with ⟨j1, j2, j3⟩ | ⟨j1, j2⟩
    rotate_left
    · rw [j1, j2]
      clear j1 j2 hg5
      go_wp2
      go_ret
      exact ⟨rfl, hbW⟩
    have hw2 := cwriteD_any _ a5 c5 (rdDL (fiS s) xs) ga gc ma mc s _ hg5 km kg
    rw [j2, j3] at hw2
    rw [j1]
    have k5 := hg5.lenB
    clear j1 j2 j3 hg5
    generalize (rdDL (fiS s) xs).length = n5 at *
    go_wp2_with fail
    refine hw2.mono ?_
    rintro e z2 ⟨a6, c6, rfl, hr6, hb1⟩
    have hrd6 := hr6.rd
    clear hw2 hr6
    replace hl := hl.below hb1
    replace hg := hg.below hb1
    replace hm := hm.below hb1
    replace hxs := hxs.below hb1
    replace X1 := X1.below hb1
    replace hbW := hbW.trans (hb1.mono hbW.size)
    clear p0 p1 p2 hb1
    obtain ⟨p0, p1, p2, -⟩ := X1.three
    have hsm := same8g_any pa a6 pc c6 xs xs _ hxs hrd6
    rw [show decide (xs = xs) = true from decide_eq_true rfl] at hsm
    go_wp2_with fail
    refine hsm.mono ?_
    rintro e z3 ⟨rfl, hb9⟩
    have hfin := hbW.trans (hb9.mono hbW.size)
    clear hsm hb9 p0 p1 p2
    go_wp2
    go_ret
    exact ⟨rfl, hfin⟩
  | true =>
  obtain ⟨w1, w2⟩ := wrD_yes hfo
  obtain ⟨b3, b4⟩ := rdD_of (fiS_16 s) hfo (rfl : dsE l = dsE l)
  have hsz : (dsE l).length ≤ 30042 := dsE_len hfo
  rw [w1] at hrd1
  rw [w1, w2]
  have hrp := creadD_any a1 c1 (dsE l) ga gc ma mc s _ hrd1 km kg
  rw [b3, b4] at hrp
  clear w1 w2 b3 b4 hfo hrd1
  generalize (dsE l).length = n1 at *
  go_wp2_with fail
  refine hrp.mono ?_
  rintro e y4 ⟨a2, c2, rfl, hg2, hb1⟩
  clear hrp
  replace hl := hl.below hb1
  replace hg := hg.below hb1
  replace hm := hm.below hb1
  replace hxs := hxs.below hb1
  replace X1 := X1.below hb1
  replace hbW := hbW.trans (hb1.mono hbW.size)
  clear p0 p1 p2 hb1
  obtain ⟨p0, p1, p2, -⟩ := X1.three
  have hsG := ssameD_any _ S a2 c2 a ca l _ hg2 hl
  go_wp2_with fail
  refine hsG.mono ?_
  rintro e y5 ⟨rfl, hb1⟩
  clear hsG hg2
  replace hl := hl.below hb1
  replace hg := hg.below hb1
  replace hm := hm.below hb1
  replace hxs := hxs.below hb1
  replace X1 := X1.below hb1
  replace hbW := hbW.trans (hb1.mono hbW.size)
  clear p0 p1 p2 hb1
  obtain ⟨p0, p1, p2, -⟩ := X1.three
  have hrx := creadD_any pa pc xs ga gc ma mc s _ hxs km kg
  go_wp2_with fail
  refine hrx.mono ?_
  rintro e z1 ⟨a5, c5, rfl, hg5, hb1⟩
  clear hrx
  replace hl := hl.below hb1
  replace hg := hg.below hb1
  replace hm := hm.below hb1
  replace hxs := hxs.below hb1
  replace X1 := X1.below hb1
  replace hbW := hbW.trans (hb1.mono hbW.size)
  clear p0 p1 p2 hb1
  obtain ⟨p0, p1, p2, -⟩ := X1.three
  rcases rdD_cases (fi := fiS s) xs with ⟨j1, j2, j3⟩ | ⟨j1, j2⟩
  rotate_left
  · rw [j1, j2]
    clear j1 j2 hg5
    go_wp2
    go_ret
    exact ⟨rfl, hbW⟩
  have hw2 := cwriteD_any _ a5 c5 (rdDL (fiS s) xs) ga gc ma mc s _ hg5 km kg
  rw [j2, j3] at hw2
  rw [j1]
  have k5 := hg5.lenB
  clear j1 j2 j3 hg5
  generalize (rdDL (fiS s) xs).length = n5 at *
  go_wp2_with fail
  refine hw2.mono ?_
  rintro e z2 ⟨a6, c6, rfl, hr6, hb1⟩
  have hrd6 := hr6.rd
  clear hw2 hr6
  replace hl := hl.below hb1
  replace hg := hg.below hb1
  replace hm := hm.below hb1
  replace hxs := hxs.below hb1
  replace X1 := X1.below hb1
  replace hbW := hbW.trans (hb1.mono hbW.size)
  clear p0 p1 p2 hb1
  obtain ⟨p0, p1, p2, -⟩ := X1.three
  have hsm := same8g_any pa a6 pc c6 xs xs _ hxs hrd6
  rw [show decide (xs = xs) = true from decide_eq_true rfl] at hsm
  go_wp2_with fail
  refine hsm.mono ?_
  rintro e z3 ⟨rfl, hb9⟩
  have hfin := hbW.trans (hb9.mono hbW.size)
  clear hsm hb9 p0 p1 p2
  go_wp2
  go_ret
  exact ⟨rfl, hfin⟩

end Go.Proofs.Ytkbbdkecillnpaa
