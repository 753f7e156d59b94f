/-
  sfnt.Sum: the walk.
-/
import Derived.Test.YtijehnfadpoapaaSP2
namespace Go.Proofs.Ytijehnfadpoapaa
open Go.RowKit Go.Maps
set_option linter.unusedSimpArgs false
set_option linter.unusedVariables false

/-- What the byte number k counts. -/
def wgt (k : Nat) : Nat := if k % 4 = 0 then 16777216 else if k % 4 = 1 then 65536 else if k % 4 = 2 then 256 else 1
theorem sumf_small (r : List Nat) (x : Nat) (hr : r.length < 4) : sum4 (fil (r ++ [x])) = sum4 (fil r) + x * wgt r.length := by
  match r, hr with
  | [], _ => simp [fil, padN, sum4, V8, wgt, List.replicate]; omega
  | [a], _ => simp [fil, padN, sum4, V8, wgt, List.replicate]; omega
  | [a, b], _ => simp [fil, padN, sum4, V8, wgt, List.replicate]; omega
  | [a, b, c], _ => simp [fil, padN, sum4, V8, wgt, List.replicate]
  | a :: b :: c :: d :: r, h => simp at h; omega
/-- The sum grows by one byte. -/
theorem sumf_snoc (xs : List Nat) (x : Nat) : sum4 (fil (xs ++ [x])) = sum4 (fil xs) + x * wgt xs.length := by
  have e : xs = xs.take (4 * (xs.length / 4)) ++ xs.drop (4 * (xs.length / 4)) := (List.take_append_drop _ _).symm
  have hA : (xs.take (4 * (xs.length / 4))).length % 4 = 0 := by simp; omega
  have hr : (xs.drop (4 * (xs.length / 4))).length = xs.length % 4 := by simp; omega
  have hw : wgt xs.length = wgt (xs.drop (4 * (xs.length / 4))).length := by rw [hr]; unfold wgt; simp only [Nat.mod_mod]
  have hlt : (xs.drop (4 * (xs.length / 4))).length < 4 := by rw [hr]; exact Nat.mod_lt _ (by decide)
  rw [hw]
  generalize xs.take (4 * (xs.length / 4)) = A at *
  generalize xs.drop (4 * (xs.length / 4)) = r at *
  subst e
  rw [List.append_assoc, fil_append hA, fil_append hA, sum4_append hA, sum4_append hA, sumf_small r x hlt, Nat.add_assoc]
theorem sm_snoc (xs : List Nat) (x : Nat) : sm (xs ++ [x]) = (sm xs + x * wgt xs.length) % 4294967296 := by
  unfold sm
  rw [sumf_snoc]
  omega
theorem takeN_snoc (xs : List Nat) (k : Nat) (h : k < xs.length) : xs.take (k + 1) = xs.take k ++ [xs.getD k 0] := by
  rw [List.take_succ_eq_append_getElem h]
  simp [List.getD, h]

set_option maxHeartbeats 1000000 in
set_option maxRecDepth 100000 in
theorem sum_any (a : Option Addr) (cap : Nat) (xs : List Nat) (w : World) (h : Rb w a cap xs) :
    Calls Try.prog 17 #[.slice a xs.length cap] w fun e w' => e = .returned (.int .u32 (sm xs : Nat)) ∧ w = w' := by
  have k1 := h.le
  have k2 := h.cap
  unfold maxLen at k2
  go_enter Try.func17, Try.ntmps17
  go_wp2
  go_loop [3, 8] (fun s i => ∃ k : Nat, k ≤ xs.length ∧ i = .int .i64 k ∧ s = .int .u32 ((sm (xs.take k) : Nat) : Int)) (fun _ i => xs.length - (intOf i).toNat)
  case atStart => exact ⟨0, by omega, rfl, by simp [sm, fil, padN, sum4]⟩
  case round =>
    obtain ⟨k, hk, rfl, rfl⟩ := hrel
    by_cases hkn : k = xs.length
    · subst hkn
      rw [List.take_length]
      go_wp2
      go_ret
      exact ⟨rfl, rfl⟩
    · have hkl : k < xs.length := by omega
      have hx := h.lim.getD k
      have hst := sm_snoc (xs.take k) (xs.getD k 0)
      rw [← takeN_snoc xs k hkl, List.length_take_of_le (by omega)] at hst
      have hs := sm_lt (xs.take k)
      obtain ⟨b, off, ea, hb, hc⟩ := h.fm.at (Below.refl _ _) k hkl
      subst ea
      generalize xs.getD k 0 = x at *
      generalize sm (xs.take k) = s at *
      have HST : Hid (sm (xs.take (k + 1)) = (s + x * wgt k) % 4294967296) := hst
      clear hst
      have h4 : k % 4 = 0 ∨ k % 4 = 1 ∨ k % 4 = 2 ∨ k % 4 = 3 := by omega
      have hrem : (k : Int).tmod 4 = ((k % 4 : Nat) : Int) := by rw [show (4 : Int) = ((4 : Nat) : Int) from rfl, ← Int.ofNat_tmod]
      rcases h4 with h4 | h4 | h4 | h4
      all_goals
        rw [h4] at hrem
        have HW : Hid (k % 4 = _) := h4
        clear h4
        go_wp2
        go_round
        case rel => exact ⟨k + 1, by omega, by go_num, by rw [HST.out]; simp [wgt, HW.out]⟩
        case measure => simp [intOf]; omega

end Go.Proofs.Ytijehnfadpoapaa
