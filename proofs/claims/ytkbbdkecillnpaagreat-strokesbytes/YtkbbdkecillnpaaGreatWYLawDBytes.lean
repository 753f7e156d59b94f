/-
  foundrylaw18.StrokesBytes: the walk (written by mk_dlaw.py).
-/
import Derived.Test.YtkbbdkecillnpaaGreatZY26
import Derived.Test.YtkbbdkecillnpaaGreatZY28
import Derived.Test.YtkbbdkecillnpaaGreatZY30
import Derived.Test.YtkbbdkecillnpaaGreatZY31
import Derived.Test.YtkbbdkecillnpaaGreatZY40
import Derived.Test.YtkbbdkecillnpaaGreatZY39
namespace Go.Proofs.YtkbbdkecillnpaaGreat
open Go.RowKit Go.Maps
set_option linter.unusedSimpArgs false
set_option linter.unusedVariables false

set_option maxHeartbeats 8000000 in
set_option maxRecDepth 100000 in
theorem strokesBytes_any (S : Nat → Prop) (a : Option Addr) (ca : Nat) (l : List (List Sp)) (ga : Option Addr) (gc : Nat) (ma : Option Addr) (mc : Nat) (s : Sr) (pa : Option Addr) (pc : Nat) (xs : List Nat) (w : World) (hl : Gr SpE.row S w a ca l) (hg : Tzz w ga gc s.rg) (hm : Rii w ma mc s.rw) (hxs : Rb w pa pc xs) :
    Calls Tryz.prog 5 #[.agg #[.slice a l.length ca, .slice ga s.rg.length gc, .slice ma s.rw.length mc], .slice pa xs.length pc] w fun e w' => e = .returned (.bool true) ∧ Below w.heap.size w w' := by
  have kl := hl.lenB
  have kg := hg.lenB
  have km := hm.lenB
  obtain ⟨W, hW, X1, hbW⟩ : ∃ W, W = w.alloc (.cells #[.slice a l.length ca, .slice ga s.rg.length gc, .slice ma s.rw.length mc] 28) ∧ Bk 28 W w.heap.size [.slice a l.length ca, .slice ga s.rg.length gc, .slice ma s.rw.length mc] ∧ Below w.heap.size w W := ⟨_, rfl, Bk.new _ _ _, bl1 _⟩
  replace hl := hl.below hbW
  replace hg := hg.below hbW
  replace hm := hm.below hbW
  replace hxs := hxs.below hbW
  go_enter Tryz.func5, Tryz.ntmps5
  go_upto_region 1 with fail
  rw [← hW]
  clear hW
  obtain ⟨p0, p1, p2, -⟩ := X1.three
  go_wp2_with fail
  refine (awake18_any _).mono ?_
  rintro e y1 ⟨rfl, hb1⟩
  replace hl := hl.below hb1
  replace hg := hg.below hb1
  replace hm := hm.below hb1
  replace hxs := hxs.below hb1
  replace X1 := X1.below hb1
  replace hbW := hbW.trans (hb1.mono hbW.size)
  clear p0 p1 p2 hb1
  obtain ⟨p0, p1, p2, -⟩ := X1.three
  go_wp2_with fail
  refine (few18_any S a ca l ga gc ma mc s none 0 0 _ hl hg hm (by omega)).mono ?_
  rintro e y2 ⟨⟨⟨q, rfl, HQ⟩⟩, hb1⟩
  replace HQ : Hid (q = true → s.rg.length ≤ 40 ∧ ∀ l ∈ s.rg, l.length ≤ 8) := HQ
  replace hl := hl.below hb1
  replace hg := hg.below hb1
  replace hm := hm.below hb1
  replace hxs := hxs.below hb1
  replace X1 := X1.below hb1
  replace hbW := hbW.trans (hb1.mono hbW.size)
  clear p0 p1 p2 hb1
  obtain ⟨p0, p1, p2, -⟩ := X1.three
  cases q with
  | false =>
    go_wp2_with fail
    refine (awake18_any _).mono ?_
    rintro e uz ⟨rfl, hbz⟩
    have hfin := hbW.trans (hbz.mono hbW.size)
    clear hbz
    go_wp2
    go_ret
    exact ⟨rfl, hfin⟩
  | true =>
  obtain ⟨h40, h8⟩ := HQ.out rfl
  have H8 : Hid (∀ l ∈ s.rg, l.length ≤ 8) := h8
  clear HQ h8
  have kx := hxs.le
  have kx2 := hxs.cap
  unfold maxLen at kx2
  by_cases hx6 : 4000 < xs.length
  · have g1 : decide ((4000 : Int) < (xs.length : Int)) = true := decide_eq_true (by omega)
    go_wp2_with fail
    refine (awake18_any _).mono ?_
    rintro e uz ⟨rfl, hbz⟩
    have hfin := hbW.trans (hbz.mono hbW.size)
    clear hbz
    go_wp2
    go_ret
    exact ⟨rfl, hfin⟩
  have g1 : decide ((4000 : Int) < (xs.length : Int)) = false := decide_eq_false (by omega)
  have hq := cwriteD_any S a ca l ga gc ma mc s _ hl km kg
  go_wp2_with fail
  refine hq.mono ?_
  rintro e y3 ⟨a1, c1, rfl, hr1, hb1⟩
  have hrd1 := hr1.rd
  clear hq hr1 g1
  replace hl := hl.below hb1
  replace hg := hg.below hb1
  replace hm := hm.below hb1
  replace hxs := hxs.below hb1
  replace X1 := X1.below hb1
  replace hbW := hbW.trans (hb1.mono hbW.size)
  clear p0 p1 p2 hb1
  obtain ⟨p0, p1, p2, -⟩ := X1.three
  have hq := swriteD_any S a ca l ga gc ma mc s _ hl km kg
  go_wp2_with fail
  refine hq.mono ?_
  rintro e y4 ⟨a2, c2, rfl, hr2, hb1⟩
  have hrd2 := hr2.rd
  clear hq hr2
  replace hl := hl.below hb1
  replace hg := hg.below hb1
  replace hm := hm.below hb1
  replace hxs := hxs.below hb1
  replace hrd1 := hrd1.below hb1
  replace X1 := X1.below hb1
  replace hbW := hbW.trans (hb1.mono hbW.size)
  clear p0 p1 p2 hb1
  obtain ⟨p0, p1, p2, -⟩ := X1.three
  have hq := creadD_any pa pc xs ga gc ma mc s _ hxs km kg
  go_wp2_with fail
  refine hq.mono ?_
  rintro e y5 ⟨a3, c3, rfl, hg3, hb1⟩
  clear hq
  replace hl := hl.below hb1
  replace hg := hg.below hb1
  replace hm := hm.below hb1
  replace hxs := hxs.below hb1
  replace hrd1 := hrd1.below hb1
  replace hrd2 := hrd2.below hb1
  replace X1 := X1.below hb1
  replace hbW := hbW.trans (hb1.mono hbW.size)
  clear p0 p1 p2 hb1
  obtain ⟨p0, p1, p2, -⟩ := X1.three
  have hq := sreadD_any pa pc xs ga gc ma mc s _ hxs km kg
  go_wp2_with fail
  refine hq.mono ?_
  rintro e y6 ⟨a4, c4, rfl, hg4, hb1⟩
  clear hq
  replace hl := hl.below hb1
  replace hg := hg.below hb1
  replace hm := hm.below hb1
  replace hxs := hxs.below hb1
  replace hrd1 := hrd1.below hb1
  replace hrd2 := hrd2.below hb1
  replace hg3 := hg3.below hb1
  replace X1 := X1.below hb1
  replace hbW := hbW.trans (hb1.mono hbW.size)
  clear p0 p1 p2 hb1
  obtain ⟨p0, p1, p2, -⟩ := X1.three
  have k1 := hrd1.le
  have k2 := hrd1.cap
  unfold maxLen at k2
  have k3 := hg3.lenB
  have hs1 := same8g_any a1 a2 c1 c2 _ _ _ hrd1 hrd2
  rw [decide_eq_true rfl] at hs1
  have hs2 := fun U (hU : Below y6.heap.size y6 U) => ssameD_any _ _ a3 c3 a4 c4 _ U (hg3.below hU) (hg4.below hU)
  obtain ⟨WB, hWB⟩ : ∃ b, wrDB (fiS s) l = b := ⟨_, rfl⟩
  obtain ⟨RL, hRL⟩ : ∃ b, rdDL (fiS s) xs = b := ⟨_, rfl⟩
  simp only [hRL] at hs2
  rw [hWB] at hs1 k1
  rw [hRL] at k3
  rw [hWB, hRL]
  generalize wrDE (fiS s) l = we at *
  generalize rdDE (fiS s) xs = re at *
  have g3 : (we == we) = true := by simp
  have g4 : (re == re) = true := by simp
  clear hWB hRL hrd1 hrd2 hg3 hg4 hl hg hm hxs X1 p0 p1 p2
  go_wp2_with fail
  refine hs1.mono ?_
  rintro e y7 ⟨rfl, hb1⟩
  have hs3 := hs2 _ hb1
  replace hbW := hbW.trans (hb1.mono hbW.size)
  clear hs1 hs2 hb1
  go_wp2_with fail
  refine hs3.mono ?_
  rintro e y8 ⟨rfl, hb1⟩
  have hfin := hbW.trans (hb1.mono hbW.size)
  clear hs3 hb1 hbW
  go_wp2
  go_ret
  exact ⟨rfl, hfin⟩

end Go.Proofs.YtkbbdkecillnpaaGreat
