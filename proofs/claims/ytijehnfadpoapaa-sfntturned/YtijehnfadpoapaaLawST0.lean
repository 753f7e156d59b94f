/-
  A byte of a row is turned.
-/
import Derived.Test.YtijehnfadpoapaaLawS0
namespace Go.Proofs.Ytijehnfadpoapaa
open Go.RowKit Go.Maps
set_option linter.unusedSimpArgs false
set_option linter.unusedVariables false

theorem xor_u8 (a b : Nat) (ha : a < 256) (hb : b < 256) : bits .xor .u8 (a : Int) (b : Int) = ((a ^^^ b : Nat) : Int) := by
  have h1 : ((BitVec.ofInt 8 (a : Int) ^^^ BitVec.ofInt 8 (b : Int)).toNat : Nat) = a ^^^ b := by
    rw [BitVec.toNat_xor]
    simp [Nat.mod_eq_of_lt ha, Nat.mod_eq_of_lt hb]
  show IntKind.u8.wrap ((BitVec.ofInt 8 (a : Int) ^^^ BitVec.ofInt 8 (b : Int)).toNat : Int) = _
  rw [h1]
  have := Nat.xor_lt_two_pow (n := 8) ha hb
  unfold IntKind.wrap
  simp [IntKind.bits, IntKind.signed]
  omega

theorem Rw.block {e : TypeId} {base : Nat} {w : World} {a : Option Addr} {cap : Nat} {xs : List Nat} (h : Rw e base w a cap xs) (hx : xs ≠ []) : ∃ g, a = some ⟨g, 0, none⟩ ∧ base ≤ g ∧ g < w.heap.size ∧
    (∀ k, k < xs.length → w.cell? ⟨g, k, none⟩ = some (.int .u8 (xs.getD k 0 : Nat)) ∧ w.frozen? ⟨g, k, none⟩ = false) ∧
    ∀ (k z : Nat), k < xs.length → z < 256 → Rw e base (w.setCell ⟨g, k, none⟩ (.int .u8 (z : Int))) (some ⟨g, 0, none⟩) cap (xs.set k z) := by
  obtain ⟨hl, h1, h2⟩ := h
  rcases h2 with ⟨_, h0⟩ | ⟨g, cap', cur, hv, hb, hg, hc1, hc2, hc3, ht⟩
  · exact absurd (List.length_eq_zero_iff.1 h0) hx
  · simp at hv
    obtain ⟨rfl, rfl⟩ := hv
    have hcur : ∀ k, k < xs.length → cur[k]? = some (.int .u8 (xs.getD k 0 : Nat)) := by
      intro k hk
      have e1 : (cur.toList.take (xs.length * 1))[k]? = (xs.map Y)[k]? := by rw [ht]
      rw [List.getElem?_take_of_lt (by omega), List.getElem?_map, List.getElem?_eq_getElem hk] at e1
      rw [← Array.getElem?_toList, e1]
      simp [Y, List.getD, hk]
    refine ⟨g, rfl, hb, (Array.getElem?_eq_some_iff.1 hg).1, fun k hk => ⟨(cell_of_row w g k _ _ (0, 0) hg).trans (hcur k hk), frozen_of_row w g k _ _ hg⟩, fun k z hk hz => ⟨?_, ?_, ?_⟩⟩
    · intro y hy
      rcases List.mem_or_eq_of_mem_set hy with h | h
      · exact hl y h
      · rw [h]; exact hz
    · simp
    · refine .inr ⟨g, cap, _, by simp, hb, heap_setCell_same w g k _ _ _ hg, by simpa using hc1, hc2, by simpa using hc3, ?_⟩
      simp only [Array.toList_setIfInBounds, List.length_set]
      rw [List.take_set, ht, List.map_set]
      rfl

end Go.Proofs.Ytijehnfadpoapaa
