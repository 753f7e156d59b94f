/-
  foundrylaw17: the walk of a law.
-/
import Derived.Test.YtgambbmonbhpnaaZ6
import Derived.Test.YtgambbmonbhpnaaZ7
import Derived.Test.YtgambbmonbhpnaaZ8
namespace Go.Proofs.Ytgambbmonbhpnaa
open Go.RowKit Go.Maps
set_option linter.unusedSimpArgs false
set_option linter.unusedVariables false

set_option maxHeartbeats 8000000 in
set_option maxRecDepth 100000 in
theorem charsMap_any (S : Nat → Prop) (a : Option Addr) (ca : Nat) (l : List Rn) (s : ByteArray) (c : Int) (w : World) (hl : Gr RnE S w a ca l) (hc : I64 c) :
    Calls Try.prog 3 #[.slice a l.length ca, .string s, .int .i64 c] w fun e w' => e = .returned (.bool true) ∧ Below w.heap.size w w' := by
  have kl := hl.lenB
  have hbW := Below.refl w.heap.size w
  go_enter Try.func3, Try.ntmps3
  go_wp2_with fail
  refine (awake17_any _).mono ?_
  rintro e y1 ⟨rfl, hb1⟩
  replace hl := hl.below hb1
  replace hbW := hbW.trans (hb1.mono hbW.size)
  clear hb1
  by_cases hxg1 : 100 < l.length
  · have g1 : decide ((100 : Int) < (l.length : Int)) = true := decide_eq_true (by omega)
    go_wp2_with fail
    refine (awake17_any _).mono ?_
    rintro e uz ⟨rfl, hbz⟩
    have hfin := hbW.trans (hbz.mono hbW.size)
    clear hbz
    go_wp2
    go_ret
    exact ⟨rfl, hfin⟩
  have g1 : decide ((100 : Int) < (l.length : Int)) = false := decide_eq_false (by omega)
  by_cases hxg2 : 1000 < s.size
  · have g2 : decide ((1000 : Int) < (s.size : Int)) = true := decide_eq_true (by omega)
    go_wp2_with fail
    refine (awake17_any _).mono ?_
    rintro e uz ⟨rfl, hbz⟩
    have hfin := hbW.trans (hbz.mono hbW.size)
    clear hbz
    go_wp2
    go_ret
    exact ⟨rfl, hfin⟩
  have g2 : decide ((1000 : Int) < (s.size : Int)) = false := decide_eq_false (by omega)
  have hcc := fair17_any S a ca l (c) _ hl hc
  go_wp2_with fail
  refine hcc.mono ?_
  rintro e y2 ⟨⟨q, rfl, HQ⟩, hb1⟩
  clear hcc
  replace HQ : Hid (q = true → FaR l ∧ smB (c) = true) := HQ
  replace hl := hl.below hb1
  replace hbW := hbW.trans (hb1.mono hbW.size)
  clear hb1
  cases q with
  | false =>
    go_wp2_with fail
    refine (awake17_any _).mono ?_
    rintro e uz ⟨rfl, hbz⟩
    have hfin := hbW.trans (hbz.mono hbW.size)
    clear hbz
    go_wp2
    go_ret
    exact ⟨rfl, hfin⟩
  | true =>
  have HQ2 : Hid (FaR l ∧ smB (c) = true) := HQ.out rfl
  clear HQ
  have hno : NoR l c := HQ2.out.1.no (smB_iff.1 HQ2.out.2).1 (smB_iff.1 HQ2.out.2).2
  have HNA : Hid (∀ z : Int, 0 ≤ z → z ≤ 1114111 → NoR l z) := fun z h1 h2 => HQ2.out.1.no (by omega) (by omega)
  have HNO : Hid (NoR l c) := hno
  clear hno g1 g2
  have hcc := cglyph_any S a ca l c _ hl hc HNO.out
  go_wp2_with fail
  refine hcc.mono ?_
  rintro e y3 ⟨rfl, hb1⟩
  clear hcc
  replace hl := hl.below hb1
  replace hbW := hbW.trans (hb1.mono hbW.size)
  clear hb1
  have hcc := sglyph_any S a ca l c _ hl hc HNO.out
  go_wp2_with fail
  refine hcc.mono ?_
  rintro e y4 ⟨rfl, hb1⟩
  clear hcc
  replace hl := hl.below hb1
  replace hbW := hbW.trans (hb1.mono hbW.size)
  clear hb1
  have hgq : (glR c l == glR c l) = true := by simp
  generalize glR c l = gz at *
  have hcc := cmap_any S a ca l s _ hl (by omega) HNA.out
  go_wp2_with fail
  refine hcc.mono ?_
  rintro e y5 ⟨v5, rfl, hI5, hb1⟩
  clear hcc
  replace hl := hl.below hb1
  replace hbW := hbW.trans (hb1.mono hbW.size)
  clear hb1
  obtain ⟨a5, c5, rfl, R5⟩ := hI5.slice
  clear hI5
  have HL5 : Hid (_) := R5.lenB
  obtain ⟨n5, hn5⟩ : ∃ n, (mpC l (sb s)).length = n := ⟨_, rfl⟩
  have HN5 : Hid ((mpC l (sb s)).length = n5) := hn5
  rw [hn5]
  clear hn5
  have hcc := smap_any S a ca l s _ hl (by omega) HNA.out
  go_wp2_with fail
  refine hcc.mono ?_
  rintro e y6 ⟨v6, rfl, hI6, hb1⟩
  clear hcc
  replace hl := hl.below hb1
  replace R5 := R5.below hb1
  replace hbW := hbW.trans (hb1.mono hbW.size)
  clear hb1
  obtain ⟨a6, c6, rfl, R6⟩ := hI6.slice
  clear hI6
  rw [HN5.out]
  have hss := ssameI_any a5 a6 c5 c6 (mpC l (sb s)) _ R5 R6
  rw [HN5.out] at hss
  go_wp2_with fail
  refine hss.mono ?_
  rintro e y7 ⟨rfl, hb1⟩
  have hfin := hbW.trans (hb1.mono hbW.size)
  clear hss hb1 hbW R5 R6
  go_wp2
  go_ret
  exact ⟨rfl, hfin⟩

end Go.Proofs.Ytgambbmonbhpnaa
