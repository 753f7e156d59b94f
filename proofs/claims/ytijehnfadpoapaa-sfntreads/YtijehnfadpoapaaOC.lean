/-
  foundrylaw04.awake; OctetsReads: the walks.
-/
import Derived.Test.YtijehnfadpoapaaO8
namespace Go.Proofs.Ytijehnfadpoapaa
open Go.RowKit Go.Maps
set_option linter.unusedSimpArgs false
set_option linter.unusedVariables false

/-- A new page. -/
theorem pc_new (w : World) (G : Nat → Prop) (hG : ∀ k, G k → k < w.heap.size) : Pc (w.alloc (.cells #[.slice none 0 0, .int .i64 0, .map none, .bool false] 56)) w.heap.size G St.zero := by
  refine ⟨fun k hk => by have := hG k hk; simp; omega, fun h => by have := hG _ h; omega, Wf.zero, _, _, heap_alloc_new w _, fun h => (by cases h), fun _ => ⟨⟨World.ownsRow_nil _ _ _ _, fun g hg => (by cases hg)⟩, .inl ⟨rfl, rfl⟩⟩⟩

end Go.Proofs.Ytijehnfadpoapaa
