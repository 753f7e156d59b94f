/-
  sfnt.Find: the walk.
-/
import Derived.Test.YtijehnfadpoapaaSR2
import Derived.Test.YtijehnfadpoapaaSC0
namespace Go.Proofs.Ytijehnfadpoapaa
open Go.RowKit Go.Maps
set_option linter.unusedSimpArgs false
set_option linter.unusedVariables false

set_option maxHeartbeats 1000000 in
set_option maxRecDepth 100000 in
theorem find_any (a : Option Addr) (cap : Nat) (l : List Tb) (t : ByteArray) (w : World) (h : Ts w a cap l) (hs : ∀ s ∈ l, s.bs.length ≤ 1000000000) :
    Calls Try.prog 14 #[.slice a l.length cap, .string t] w fun e w' => ∃ a' cap', e = .returned (.tuple #[.slice a' (fndB l t).length cap', .int .i64 (fndE l t)]) ∧ Rb w' a' cap' (fndB l t) ∧ Below w.heap.size w w' := by
  have k1 := h.1
  have k2 := h.2.1
  unfold maxLen at k2
  go_enter Try.func14, Try.ntmps14
  go_wp2
  go_loopw [10] (fun i wr => ∃ k : Nat, k ≤ l.length ∧ i = .int .i64 k ∧ (∀ j, j < k → (l.getD j Tb.none).tx ≠ t) ∧ Below w.heap.size w wr) (fun i _ => l.length - (intOf i).toNat)
  case atStart => exact ⟨0, Nat.zero_le _, rfl, (fun j hj => by omega), Below.refl _ _⟩
  case round =>
    obtain ⟨k, hk, rfl, hno, hB⟩ := hrel
    by_cases hkn : k < l.length
    · obtain ⟨b, off, c0, c, rfl, hb, d1, d2, hr⟩ := h.at hB k hkn
      have hfa := fnd_at (t := t) hkn hno
      have hno' : (l.getD k Tb.none).tx ≠ t → ∀ j, j < k + 1 → (l.getD j Tb.none).tx ≠ t := fun hn j hj => by
        rcases Nat.lt_or_ge j k with h1 | h1
        · exact hno j h1
        · rw [show j = k by omega]; exact hn
      have hsz := hs _ (getD_mem hkn)
      generalize l.getD k Tb.none = s at *
      obtain ⟨tx, bs⟩ := s
      dsimp only at *
      by_cases htx : tx = t
      · subst htx
        have hF : Hid (fndO l tx = some ⟨tx, bs⟩) := hfa rfl
        clear hno hno' hfa
        have hB1 := hB.alloc hB.size (.cells #[.string tx, .slice c0 bs.length c] 46)
        have hr1 := hr.below (bl1 (.cells #[.string tx, .slice c0 bs.length c] 46))
        go_wp2_with fail
        refine (clone_any c0 c bs _ hr1 hsz).mono ?_
        rintro e u ⟨a2, c2, rfl, hr2, hb2⟩
        have e1 : fndB l tx = bs := by rw [fndB, hF.out]; rfl
        have e2 : fndE l tx = 0 := by rw [fndE, hF.out]; rfl
        have hB2 := hB1.trans (hb2.mono hB1.size)
        clear hr hr1 hB hB1 hb2
        go_wp2
        go_ret2
        exact ⟨a2, c2, by rw [e1, e2]; rfl, by rw [e1]; exact hr2.rd, hB2⟩
      · have hbq := teq_no htx
        have HNO : Hid (∀ j, j < k + 1 → (l.getD j Tb.none).tx ≠ t) := hno' htx
        clear hno hno' hfa htx
        go_wp2
        go_roundw
        case rel => exact ⟨k + 1, by omega, by go_num, HNO.out, hB.alloc hB.size _⟩
        case measure => simp [intOf]; omega
    · obtain rfl : k = l.length := by omega
      have hF := fnd_no hno
      have e1 : fndB l t = [] := by rw [fndB, hF]; rfl
      have e2 : fndE l t = 5 := by rw [fndE, hF]; rfl
      clear hno hF
      go_wp2
      go_ret2
      exact ⟨none, 0, by rw [e1, e2]; rfl, by rw [e1]; exact Rb.nil _ _ _ (Nat.zero_le _) (fun _ => rfl), hB⟩

end Go.Proofs.Ytijehnfadpoapaa
