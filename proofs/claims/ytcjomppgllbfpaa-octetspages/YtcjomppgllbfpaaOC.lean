/-
  foundrylaw04.awake; OctetsReads: the walks.
-/
import Derived.Test.YtcjomppgllbfpaaO8
namespace Go.Proofs.Ytcjomppgllbfpaa
open Go.RowKit Go.Maps
set_option linter.unusedSimpArgs false
set_option linter.unusedVariables false

/-- A new page. -/
theorem pc_new (w : World) (G : Nat → Prop) (hG : ∀ k, G k → k < w.heap.size) : Pc (w.alloc (.cells #[.slice none 0 0, .int .i64 0, .map none, .bool false] 39)) w.heap.size G St.zero := by
  refine ⟨fun k hk => by have := hG k hk; simp; omega, fun h => by have := hG _ h; omega, Wf.zero, _, _, heap_alloc_new w _, fun h => (by cases h), fun _ => ⟨⟨World.ownsRow_nil _ _ _ _, fun g hg => (by cases hg)⟩, .inl ⟨rfl, rfl⟩⟩⟩

set_option maxHeartbeats 400000 in
theorem awake4_any (w : World) :
    Calls Try.prog 8 #[] w fun e w' => e = .returned (.bool true) ∧ Below w.heap.size w w' := by
  have hs : St.zero.put16 (-2) = ⟨[255, 254], [], false⟩ := by rfl
  have hn : sx16 (nmV [255, 254] 0 2) = -2 := by decide
  have hi : inB 2 0 2 = true := by decide
  go_enter Try.func8, Try.ntmps8
  go_wp2_with fail
  refine (put16_any w.heap.size (fun k => k < w.heap.size) St.zero (-2) _ (pc_new w _ (fun _ h => h)) ⟨by decide, by decide⟩ (by decide)).mono ?_
  rintro e u ⟨rfl, hP, hK⟩
  rw [hs] at hP
  have hb : Below w.heap.size w u := (bl1 _).trans (hK.below (fun _ h => h))
  go_wp2_with fail
  refine (all_any _ _ _ _ hP (by decide)).mono ?_
  rintro e u2 ⟨a, c, rfl, hR, hb2⟩
  have hb' : Below w.heap.size w u2 := hb.trans (hb2.mono hb.size)
  have hr := hR.rd
  clear hb hb2 hK hP hR
  rw [show allB ⟨[255, 254], [], false⟩ = [255, 254] from rfl, show allE ⟨[255, 254], [], false⟩ = 0 from rfl] at *
  go_wp2_with fail
  refine (i16_any a c [255, 254] 0 _ hr ⟨by decide, by decide⟩).mono ?_
  rintro e u3 ⟨rfl, rfl⟩
  rw [hn, show inB ([255, 254] : List Nat).length 0 2 = true from hi]
  go_wp2
  go_ret
  exact ⟨rfl, hb'⟩

end Go.Proofs.Ytcjomppgllbfpaa
