/-
  nat.divideLong: the walk.
-/
import Derived.Test.YtkdanpfglbgnbaaDoorDivD
import Derived.Test.YtkdanpfglbgnbaaDoorDivO
import Derived.Test.YtkdanpfglbgnbaaDoorMul
import Derived.Outline
namespace Go.Proofs.YtkdanpfglbgnbaaDoor
open Go.RowKit
set_option linter.unusedSimpArgs false
set_option linter.unusedVariables false

theorem Blk.set_other {e : TypeId} {w : World} {g k : Nat} {zs : List Nat} (h : Blk e w g zs) (hne : g ≠ k) (i : Nat) (v : Value) : Blk e (w.setCell ⟨k, i, none⟩ v) g zs := by
  obtain ⟨cur, h1, h2⟩ := h
  exact ⟨cur, (Below.heap_setCell w ⟨k, i, none⟩ v g hne).trans h1, h2⟩

theorem Rd.set_other {w : World} {g o k cap : Nat} {zs : List Nat} (h : Rd w (some ⟨g, o, none⟩) cap zs) (hne : g ≠ k) (i : Nat) (v : Value) : Rd (w.setCell ⟨k, i, none⟩ v) (some ⟨g, o, none⟩) cap zs :=
  h.keep (by simp [World.setCell]) fun b _ hb => by
    obtain ⟨o', e⟩ := hb
    simp at e
    exact Below.heap_setCell w ⟨k, i, none⟩ v b (by rw [← e.1]; exact hne)

theorem V_of_zeros {cs : List Nat} {n : Nat} (h : n ≤ cs.length) (hz : ∀ i, n ≤ i → cs.getD i 0 = 0) : V cs = Sv (fun i => cs.getD i 0) n := by
  rw [V_Sv, show cs.length = n + (cs.length - n) by omega, Sv_add, Sv_zero (f := fun i => cs.getD (n + i) 0) (fun i _ => hz (n + i) (by omega)), Nat.mul_zero, Nat.add_zero]

end Go.Proofs.YtkdanpfglbgnbaaDoor
