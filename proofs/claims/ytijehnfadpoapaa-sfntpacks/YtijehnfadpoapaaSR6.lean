/-
  foundryref05.Same of two lists that are alike: the walk.
-/
import Derived.Test.YtijehnfadpoapaaSR5
namespace Go.Proofs.Ytijehnfadpoapaa
open Go.RowKit Go.Maps
set_option linter.unusedSimpArgs false
set_option linter.unusedVariables false

set_option maxHeartbeats 1000000 in
set_option maxRecDepth 100000 in
theorem same8q_any (a b : Option Addr) (ca cb : Nat) (xs : List Nat) (w : World) (ha : Rb w a ca xs) (hb : Rb w b cb xs) :
    Calls Try.prog 16 #[.slice a xs.length ca, .slice b xs.length cb] w fun e w' => e = .returned (.bool true) ∧ ∃ m, w' = w.drewN m := by
  have k1 := ha.le
  have k2 := ha.cap
  unfold maxLen at k2
  have fa := ha.fm
  have fb := hb.fm
  clear ha hb
  have hne : ((xs.length : Int) != (xs.length : Int)) = false := by simp
  go_enter Try.func16, Try.ntmps16
  go_wp2
  go_loopw [5] (fun i wr => ∃ k : Nat, k ≤ xs.length ∧ i = .int .i64 k ∧ ∃ m, wr = w.drewN m) (fun i _ => xs.length - (intOf i).toNat)
  case atStart => exact ⟨0, Nat.zero_le _, rfl, 0, rfl⟩
  case round =>
    obtain ⟨k, hk, rfl, hmm⟩ := hrel
    have HM : Hid (∃ m, wr = w.drewN m) := hmm
    have hnx : Below w.heap.size w wr := by obtain ⟨m, rfl⟩ := hmm; exact below_drewN (Below.refl _ _) m
    clear hmm
    by_cases hkn : k < xs.length
    · obtain ⟨b1, o1, rfl, _, c1⟩ := fa.at hnx k hkn
      obtain ⟨b2, o2, rfl, _, c2⟩ := fb.at hnx k hkn
      obtain ⟨x, hx⟩ : ∃ x, xs.getD k 0 = x := ⟨_, rfl⟩
      rw [hx] at c1 c2
      have hxx : ((x : Int) != (x : Int)) = false := by simp
      clear hx
      have i1 : (0 : Int) ≤ (k : Int) := by omega
      have i2 : (k : Int) < (xs.length : Int) := by omega
      go_wp2_with fail
      go_quiet (fail)
      go_wp2
      go_roundw
      case rel =>
        obtain ⟨m, rfl⟩ := HM.out
        exact ⟨k + 1, by omega, by go_num, _, World.drewN_drewN _ _ _⟩
      case measure => simp [intOf]; omega
    · go_wp2
      go_ret
      exact ⟨rfl, HM.out⟩

set_option maxHeartbeats 1000000 in
set_option maxRecDepth 100000 in
theorem sames_any (a b : Option Addr) (ca cb : Nat) (l : List Tb) (w : World) (ha : Ts w a ca l) (hb : Ts w b cb l) :
    Calls Try.prog 23 #[.slice a l.length ca, .slice b l.length cb] w fun e w' => e = .returned (.bool true) ∧ Below w.heap.size w w' := by
  have k1 := ha.1
  have k2 := ha.2.1
  unfold maxLen at k2
  have hne : ((l.length : Int) != (l.length : Int)) = false := by simp
  have HA : Hid (Ts w a ca l) := ha
  have HB : Hid (Ts w b cb l) := hb
  clear ha hb
  go_enter Try.func23, Try.ntmps23
  go_wp2
  go_loopw [5] (fun i wr => ∃ k : Nat, k ≤ l.length ∧ i = .int .i64 k ∧ Below w.heap.size w wr) (fun i _ => l.length - (intOf i).toNat)
  case atStart => exact ⟨0, Nat.zero_le _, rfl, Below.refl _ _⟩
  case round =>
    obtain ⟨k, hk, rfl, hnx⟩ := hrel
    by_cases hkn : k < l.length
    · obtain ⟨b1, o1, x1, y1, rfl, n1, c1, d1, r1⟩ := HA.out.at hnx k hkn
      obtain ⟨b2, o2, x2, y2, rfl, n2, c2, d2, r2⟩ := HB.out.at hnx k hkn
      generalize l.getD k Tb.none = t at *
      obtain ⟨tx, bs⟩ := t
      dsimp only at *
      have R1 : Hid (Rb wr x1 y1 bs) := r1
      have R2 : Hid (Rb wr x2 y2 bs) := r2
      have hte := teq_yes tx
      clear n1 n2 r1 r2
      have i1 : (0 : Int) ≤ (k : Int) := by omega
      have i2 : (k : Int) < (l.length : Int) := by omega
      go_wp2_with fail
      go_quiet (first
        | (refine Calls.quiet_of (same8q_any _ _ _ _ bs _ (R1.out.below (below_drewN (Below.refl _ _) _)) (R2.out.below (below_drewN (Below.refl _ _) _)))))
      go_wp2
      go_roundw
      case rel => exact ⟨k + 1, by omega, by go_num, below_drewN hnx _⟩
      case measure => simp [intOf]; omega
    · go_wp2
      go_ret
      exact ⟨rfl, hnx⟩

end Go.Proofs.Ytijehnfadpoapaa
