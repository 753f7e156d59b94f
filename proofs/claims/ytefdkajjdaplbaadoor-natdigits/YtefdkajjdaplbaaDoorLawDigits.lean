/-
  foundrylaw01.NatDigits: the walk.
-/
import Derived.Test.YtefdkajjdaplbaaDoorLaw0
import Derived.Test.YtefdkajjdaplbaaDoorLawValues
import Derived.Test.YtefdkajjdaplbaaDoorText
import Derived.Test.YtefdkajjdaplbaaDoorRText
namespace Go.Proofs.YtefdkajjdaplbaaDoor
open Go.RowKit
set_option linter.unusedSimpArgs false
set_option linter.unusedVariables false

set_option maxHeartbeats 1600000 in
theorem walkNatDigits (a0 : Option Addr) (len0 cap0 : Nat) (z0 : List Int) (w : World) (w0 : IsRow .u32 w a0 len0 cap0 z0) (htab : Pow w) :
    Calls Tryd.prog 3 #[.slice a0 len0 cap0] w fun e w' => e = .returned (.bool true) ∧ Below w.heap.size w w' := by
  obtain ⟨xs, rfl, h0⟩ := w0.rd
  clear w0 z0
  have b0 : xs.length ≤ 9223372036854775807 := by have := h0.le; have := h0.cap; unfold maxLen at this; omega
  go_enter Tryd.func3, Tryd.ntmps3
  go_wp2_with fail
  refine (awake_any _).mono ?_
  rintro e u1 ⟨rfl, hu1⟩
  go_wp2_with fail
  refine (few_nil _ _ _ _ b0).mono ?_
  rintro e u2 ⟨rfl, rfl⟩
  by_cases hf : xs.length ≤ 12
  · have hd : decide (xs.length ≤ 12) = true := by simp [hf]
    rw [hd]
    clear hd
    go_wp2_with fail
    refine (text_any _ _ _ _ (h0.below hu1) (by omega) (htab.below hu1)).mono ?_
    rintro e u2 ⟨rfl, hu2⟩
    have hb2 : Below w.heap.size w u2 := hu1.trans (hu2.mono hu1.size)
    go_wp2_with fail
    refine (rtext_any _ _ _ _ (h0.below hb2) (by omega)).mono ?_
    rintro e u3 ⟨rfl, hu3⟩
    have hb3 : Below w.heap.size w u3 := hb2.trans (hu3.mono hb2.size)
    generalize (⟨(Lib.decDigits (V xs)).toArray⟩ : ByteArray) = s
    go_wp2
    go_ret
    exact ⟨rfl, hb3⟩
  · have hd : decide (xs.length ≤ 12) = false := by simpa using hf
    rw [hd]
    go_wp2_with fail
    refine (awake_any _).mono ?_
    rintro e u3 ⟨rfl, hu3⟩
    go_wp2
    go_ret
    exact ⟨rfl, hu1.trans (hu3.mono hu1.size)⟩

end Go.Proofs.YtefdkajjdaplbaaDoor
