/-
  foundrylaw06.AxesTell: the walk.
-/
import Derived.Test.YtanppgmhlcifiaaDoorZ16
import Derived.Test.YtanppgmhlcifiaaDoorZ21
namespace Go.Proofs.YtanppgmhlcifiaaDoor
open Go.RowKit Go.Maps
set_option linter.unusedSimpArgs false
set_option linter.unusedVariables false

theorem Ri.len {w : World} {a : Option Addr} {cap : Nat} {zs : List Int} (h : Ri w a cap zs) : zs.length ≤ 9223372036854775807 := by
  have h1 := h.2.1
  have h2 := h.2.2.1
  unfold maxLen at h2
  omega
theorem As.len {w : World} {a : Option Addr} {cap : Nat} {l : List Ax} (h : As w a cap l) : l.length ≤ 9223372036854775807 := by
  have h1 := h.1
  have h2 := h.2.1
  unfold maxLen at h2
  omega

set_option maxHeartbeats 2000000 in
set_option maxRecDepth 100000 in
theorem axesTell_any (a : Option Addr) (cap : Nat) (l : List Ax) (pa : Option Addr) (pc : Nat) (ps : List Int) (t : ByteArray) (w : World) (h : As w a cap l) (hp : Ri w pa pc ps) (htab : Pow w) :
    Calls Tryd.prog 3 #[.slice a l.length cap, .slice pa ps.length pc, .string t] w fun e w' => e = .returned (.bool true) ∧ Below w.heap.size w w' := by
  have z1 := h.len
  have z2 := hp.len
  by_cases hl : l.length ≤ 30
  rotate_left
  · have g1 : (30 : Int) < (l.length : Int) := by omega
    go_enter Tryd.func3, Tryd.ntmps3
    go_wp2_with fail
    refine (awake6_any _ htab).mono ?_
    rintro e u1 ⟨rfl, hb1⟩
    go_wp2_with fail
    refine (awake6_any _ (htab.below hb1)).mono ?_
    rintro e u2 ⟨rfl, hb2⟩
    have hbW := hb1.trans (hb2.mono hb1.size)
    go_wp2
    go_ret
    exact ⟨rfl, hbW⟩
  have g1 : ¬ (30 : Int) < (l.length : Int) := by omega
  by_cases hl2 : ps.length ≤ 100
  rotate_left
  · have g2 : (100 : Int) < (ps.length : Int) := by omega
    go_enter Tryd.func3, Tryd.ntmps3
    go_wp2_with fail
    refine (awake6_any _ htab).mono ?_
    rintro e u1 ⟨rfl, hb1⟩
    go_wp2_with fail
    refine (awake6_any _ (htab.below hb1)).mono ?_
    rintro e u2 ⟨rfl, hb2⟩
    have hbW := hb1.trans (hb2.mono hb1.size)
    go_wp2
    go_ret
    exact ⟨rfl, hbW⟩
  have g2 : ¬ (100 : Int) < (ps.length : Int) := by omega
  go_enter Tryd.func3, Tryd.ntmps3
  go_wp2_with fail
  refine (awake6_any _ htab).mono ?_
  rintro e u1 ⟨rfl, hb1⟩
  have hbW := hb1
  replace h := h.below hb1
  replace hp := hp.below hb1
  clear hb1 htab
  obtain ⟨f, hf⟩ : ∃ f, frA l = f := ⟨_, rfl⟩
  have HF : Hid (frA l = f) := hf
  have hff : (f == f) = true := by simp
  obtain ⟨i, hi⟩ : ∃ i, fiA l t = i := ⟨_, rfl⟩
  have HI : Hid (fiA l t = i) := hi
  have hii : (i == i) = true := by simp
  clear hf hi
  go_wp2_with fail
  refine (cformed_any a cap l _ h).mono ?_
  rintro e u2 ⟨rfl, hb2⟩
  rw [HF.out]
  replace h := h.below hb2
  replace hp := hp.below hb2
  replace hbW := hbW.trans (hb2.mono hbW.size)
  clear hb2
  go_wp2_with fail
  refine (sformedA_any a cap l _ h).mono ?_
  rintro e u3 ⟨rfl, hb3⟩
  rw [HF.out]
  replace h := h.below hb3
  replace hp := hp.below hb3
  replace hbW := hbW.trans (hb3.mono hbW.size)
  clear hb3
  go_wp2_with fail
  refine (cfind_any a cap l t _ h).mono ?_
  rintro e u4 ⟨rfl, hb4⟩
  rw [HI.out]
  replace h := h.below hb4
  replace hp := hp.below hb4
  replace hbW := hbW.trans (hb4.mono hbW.size)
  clear hb4
  go_wp2_with fail
  refine (sfindA_any a cap l t _ h).mono ?_
  rintro e u5 ⟨rfl, rfl⟩
  rw [HI.out]
  go_wp2_with fail
  refine (cclampA_any a cap l pa pc ps _ h hp (by omega) (by omega)).mono ?_
  rintro e u6 ⟨a6, c6, rfl, hr6, hb6⟩
  replace h := h.below hb6
  replace hp := hp.below hb6
  replace hbW := hbW.trans (hb6.mono hbW.size)
  clear hb6
  go_wp2_with fail
  refine (sclampA_any a cap l pa pc ps _ h hp (by omega) (by omega)).mono ?_
  rintro e u7 ⟨a7, c7, rfl, hr7, hb7⟩
  replace hr6 := hr6.below hb7
  replace hbW := hbW.trans (hb7.mono hbW.size)
  clear hb7 h hp
  generalize clK l ps l.length = zs at *
  go_wp2_with fail
  refine (ssameI_any a6 a7 c6 c7 zs _ hr6 hr7).mono ?_
  rintro e u8 ⟨rfl, hb8⟩
  replace hbW := hbW.trans (hb8.mono hbW.size)
  clear hb8 hr6 hr7
  go_wp2
  go_ret
  exact ⟨rfl, hbW⟩

end Go.Proofs.YtanppgmhlcifiaaDoor
