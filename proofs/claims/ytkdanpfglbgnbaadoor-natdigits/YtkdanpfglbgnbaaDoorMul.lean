/-
  nat.Mul: the walk.
-/
import Derived.Test.YtkdanpfglbgnbaaDoorAddM
import Derived.Outline
namespace Go.Proofs.YtkdanpfglbgnbaaDoor
open Go.RowKit
set_option linter.unusedSimpArgs false
set_option linter.unusedVariables false

theorem getD_zeros (n i : Nat) : (List.replicate n 0).getD i 0 = 0 := by
  by_cases h : i < n <;> simp [List.getD, h]

/-- One round of a product. -/
theorem mul_step {cs ds a b : List Nat} {i x c : Nat} (hx : a.getD i 0 = x) (hl : cs.length = ds.length) (hlen : i + b.length < ds.length) (hinv : Sv (fun j => cs.getD j 0) (i + b.length) = V (a.take i) * V b)
    (hsame : ∀ j, j < i ∨ i + b.length ≤ j → ds.getD j 0 = cs.getD j 0)
    (he : Sv (fun j => ds.getD (i + j) 0) b.length + 4294967296 ^ b.length * c = Sv (fun j => cs.getD (i + j) 0) b.length + V b * x) :
    Sv (fun j => (ds.set (i + b.length) c).getD j 0) (i + 1 + b.length) = V (a.take (i + 1)) * V b := by
  rw [show i + 1 + b.length = i + b.length + 1 by omega, Sv, getD_set_eq _ _ _ hlen]
  rw [Sv_congr (g := fun j => ds.getD j 0) (fun j hj => getD_set_ne _ _ _ _ (by omega))]
  rw [Sv_add] at hinv ⊢
  rw [Sv_congr (f := fun j => ds.getD j 0) (g := fun j => cs.getD j 0) (fun j hj => hsame j (by omega)), V_take_succ, hx, Nat.pow_add]
  generalize 4294967296 ^ i = p at hinv ⊢
  generalize 4294967296 ^ b.length = q at he ⊢
  generalize Sv (fun j => cs.getD j 0) i = A at hinv ⊢
  generalize Sv (fun j => cs.getD (i + j) 0) b.length = C at he hinv ⊢
  generalize Sv (fun j => ds.getD (i + j) 0) b.length = D at he ⊢
  generalize V (a.take i) = E at hinv ⊢
  generalize V b = F at he hinv ⊢
  have h1 : p * (D + q * c) = p * (C + F * x) := by rw [he]
  grind

theorem trim_n (a : Option Addr) (cap n : Nat) (xs : List Nat) (w : World) (hn : n = xs.length) (h : Rd w a cap xs) (hl : xs.length ≤ 1000000000) :
    Calls Tryd.prog 22 #[.slice a n cap] w fun e w' => ∃ a' cap', e = .returned (.slice a' (strip xs).length cap') ∧ Res 38 w.heap.size w' a' cap' (strip xs) ∧ Below w.heap.size w w' := by
  subst hn; exact trim_any a cap xs w h hl

end Go.Proofs.YtkdanpfglbgnbaaDoor
