/-
  nat.Add: the walk.
-/
import Derived.Test.YtkdanpfglbgnbaaDoorRCmp
namespace Go.Proofs.YtkdanpfglbgnbaaDoor
open Go.RowKit
set_option linter.unusedSimpArgs false
set_option linter.unusedVariables false

theorem cell_new1 (w : World) (e : TypeId) (q : Int) (z : Nat) (h : q = (z : Int)) : (w.alloc (.cells #[.int .u32 q] e)).cell? ⟨w.heap.size, 0, none⟩ = some (.int .u32 (z : Int)) := by
  subst h
  rw [cell_of_row _ w.heap.size 0 #[Value.int .u32 (z : Int)] e (0, 0) (heap_alloc_new w _)]
  rfl

/-- One round of an addition. -/
theorem add_step {zs L S : List Nat} {k cy x y s : Nat} (hz : zs.length = k) (he : V zs + 4294967296 ^ k * cy = V (L.take k) + V (S.take k)) (hx : L.getD k 0 = x) (hy : S.getD k 0 = y) (hs : s = x + cy + y) :
    V (zs ++ [s % 4294967296]) + 4294967296 ^ (k + 1) * (s / 4294967296) = V (L.take (k + 1)) + V (S.take (k + 1)) := by
  rw [V_snoc, hz, V_take_succ, V_take_succ, hx, hy, Nat.pow_succ]
  have hd := Nat.mod_add_div s 4294967296
  generalize s % 4294967296 = r at hd ⊢
  generalize s / 4294967296 = d at hd ⊢
  subst hs
  generalize 4294967296 ^ k = p at he ⊢
  generalize V zs = o at he ⊢
  generalize V (L.take k) = A at he ⊢
  generalize V (S.take k) = C at he ⊢
  grind

end Go.Proofs.YtkdanpfglbgnbaaDoor
