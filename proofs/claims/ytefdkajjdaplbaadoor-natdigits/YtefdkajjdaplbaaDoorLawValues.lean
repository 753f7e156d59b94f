/-
  foundrylaw01.NatValues: the walk.
-/
import Derived.Test.YtefdkajjdaplbaaDoorLaw0
import Derived.Test.YtefdkajjdaplbaaDoorRGcd
import Derived.Test.YtefdkajjdaplbaaDoorROf
namespace Go.Proofs.YtefdkajjdaplbaaDoor
open Go.RowKit
set_option linter.unusedSimpArgs false
set_option linter.unusedVariables false

theorem wf_u64_bounds {n : Int} (h : (Lit.int .u64 n).wf = true) : 0 ≤ n ∧ n < 18446744073709551616 := by
  simp [Lit.wf, IntKind.min, IntKind.max, IntKind.bits, IntKind.signed] at h
  omega

theorem few_nil (a : Option Addr) (n ca : Nat) (w : World) (h1 : n ≤ 9223372036854775807) :
    Calls Tryd.prog 8 #[.slice a n ca, .slice none 0 0] w fun e w' => e = .returned (.bool (decide (n ≤ 12))) ∧ w = w' :=
  (few_any a none n 0 ca 0 w h1 (by decide)).mono fun e w' h => ⟨by rw [h.1]; congr 3; simp, h.2⟩

end Go.Proofs.YtefdkajjdaplbaaDoor
