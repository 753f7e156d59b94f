/-
  foundrylaw01.awake, few: the walks.
-/
import Derived.Test.YtefdkajjdaplbaaDoorCmp
namespace Go.Proofs.YtefdkajjdaplbaaDoor
open Go.RowKit
set_option linter.unusedSimpArgs false
set_option linter.unusedVariables false

set_option maxHeartbeats 400000 in
theorem awake_any (w : World) :
    Calls Tryd.prog 7 #[] w fun e w' => e = .returned (.bool true) ∧ Below w.heap.size w w' := by
  go_enter Tryd.func7, Tryd.ntmps7
  go_wp2_with fail
  refine (of_any 2 _ (by decide)).mono ?_
  rintro e w1 ⟨a1, c1, y1, rfl, hv1, ht1, hr1, hb1⟩
  have r1 := hr1.rd
  have b1 : Below w.heap.size w w1 := hb1
  clear hr1 hb1
  go_wp2_with fail
  refine (of_any 3 _ (by decide)).mono ?_
  rintro e w2 ⟨a2, c2, y2, rfl, hv2, ht2, hr2, hb2⟩
  have r2 := hr2.rd
  have r1' := r1.below hb2
  have b2 : Below w.heap.size w w2 := b1.trans (hb2.mono b1.size)
  have HC : Hid (cmpN (V y1) (V y2) = -1) := by show _ = _; rw [hv1, hv2]; rfl
  clear hr2 hb2 hv1 hv2
  go_wp2_with fail
  refine (cmp_any _ _ _ _ _ _ _ r1' r2).mono ?_
  rintro e w3 ⟨rfl, hb3⟩
  rw [HC.out]
  go_wp2
  go_ret
  exact ⟨rfl, b2.trans (hb3.mono b2.size)⟩

set_option maxHeartbeats 400000 in
theorem few_any (a b : Option Addr) (n m ca cb : Nat) (w : World) (h1 : n ≤ 9223372036854775807) (h2 : m ≤ 9223372036854775807) :
    Calls Tryd.prog 8 #[.slice a n ca, .slice b m cb] w fun e w' => e = .returned (.bool (decide (n ≤ 12 ∧ m ≤ 12))) ∧ w = w' := by
  by_cases hn : n ≤ 12
  · by_cases hm : m ≤ 12
    · go_enter Tryd.func8, Tryd.ntmps8
      go_wp2
      go_ret
      exact ⟨ret_bool (by simp [hn, hm]; omega), rfl⟩
    · go_enter Tryd.func8, Tryd.ntmps8
      go_wp2
      go_ret
      exact ⟨ret_bool (by simp [hn, hm]; omega), rfl⟩
  · go_enter Tryd.func8, Tryd.ntmps8
    go_wp2
    go_ret
    exact ⟨ret_bool (by simp [hn]), rfl⟩

end Go.Proofs.YtefdkajjdaplbaaDoor
