/-
  foundryref01.Of: the walk.
-/
import Derived.Test.YtefdkajjdaplbaaGreatDoorRTrim
import Derived.Test.YtefdkajjdaplbaaGreatDoorAdd
import Derived.Test.YtefdkajjdaplbaaGreatDoorMul
import Derived.Laws.BitsAllLaws
namespace Go.Proofs.YtefdkajjdaplbaaGreatDoor
open Go.RowKit
set_option linter.unusedSimpArgs false
set_option linter.unusedVariables false

set_option maxHeartbeats 800000 in
set_option maxRecDepth 100000 in
theorem rof_any (n : Nat) (w : World) (hn : n < 18446744073709551616) :
    Calls Tryz.prog 75 #[.int .u64 (n : Int)] w fun e w' => ∃ a cap ys, e = .returned (.slice a ys.length cap) ∧ V ys = n ∧ Tr ys ∧ Res 72 w.heap.size w' a cap ys ∧ Below w.heap.size w w' := by
  obtain ⟨i0, hi, hz0, hz1, hz2⟩ := info_parts info_limb
  go_enter Tryz.func75, Tryz.ntmps75
  go_wp2
  go_loopw [0, 3] (fun s out wr => ∃ (k m : Nat) (zs : List Nat), s = .int .u64 m ∧ m < 18446744073709551616 ∧ k = zs.length ∧ k ≤ 2 ∧ (k = 2 → m = 0) ∧ (k = 1 → m < 4294967296) ∧ Lim zs ∧ (m = 0 → Tr zs) ∧ V zs + 4294967296 ^ k * m = n ∧ wr.ownsRow w.heap.size 72 1 out k (zs.map U) ∧ Below w.heap.size w wr) (fun s _ _ => (intOf s).toNat)
  case atStart => exact ⟨0, n, [], rfl, hn, rfl, by decide, fun h => by omega, fun h => by omega, Lim.nil, fun _ => tr_nil, by simp [V], World.ownsRow_nil _ _ _ _, Below.refl _ _⟩
  case round =>
    obtain ⟨k, m, zs, rfl, hm, hkz, hk2, hm2, hm1, lz, htr, heq, hown, hnx⟩ := hrel
    have HE : Hid (V zs + 4294967296 ^ k * m = n) := heq
    have HZ : Hid (k = zs.length) := hkz
    have H2 : Hid ((k = 2 → m = 0) ∧ (k = 1 → m < 4294967296)) := ⟨hm2, hm1⟩
    have HT : Hid (m = 0 → Tr zs) := htr
    have hsz := hnx.size
    clear heq hkz hm2 hm1 htr
    by_cases hm0 : m = 0
    · subst hm0
      obtain ⟨a', cap', rfl, hres⟩ := Res.of lz hown
      clear hown
      go_wp2
      go_ret
      refine ⟨a', cap', zs, rfl, ?_, HT.out (by first | rfl | trivial), hres, hnx⟩
      have := HE.out; omega
    · have hp : 1 ≤ m := by omega
      have hk1 : k ≤ 1 := by have := H2.out.1; omega
      go_wp2_with (at_builtin; refine wpList_append_one rfl _ _ 28 rfl w.heap.size 72 i0 Tryz.underlying28 hi hz0 hz1 hz2 _ k zs rfl (hown.alloc _) wr.heap.size (m % 4294967296) rfl (cell_new1 _ _ _ _ (by omega)) (by omega) (by simp; omega) ?_)
      intro v' w1 hown1 hgrow1
      have hb1 : Below w.heap.size w w1 := (hnx.alloc hsz _).grown hgrow1 (by simp; omega) (fun k hk => (hown.lt k hk).1)
      clear hown
      go_wp2
      go_roundw
      case rel =>
        refine ⟨k + 1, m / 4294967296, zs ++ [m % 4294967296], by go_num, by omega, by rw [HZ.out]; simp, by omega, fun h => by have := H2.out.2; omega, fun h => by omega, lz.snoc (by omega), fun h => tr_snoc (by omega), ?_, own_snoc hown1, hb1⟩
        rw [V_snoc, ← HZ.out, ← HE.out, Nat.pow_succ]
        have hd := Nat.mod_add_div m 4294967296
        generalize m % 4294967296 = r at hd ⊢
        generalize m / 4294967296 = d at hd ⊢
        subst hd
        grind
      case measure => simp [intOf]; omega


end Go.Proofs.YtefdkajjdaplbaaGreatDoor
