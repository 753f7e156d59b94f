/-
  nat.Trim, nat.Of: the walks.
-/
import Derived.Test.YtefdkajjdaplbabDoorSig
import Derived.Outline
namespace Go.Proofs.YtefdkajjdaplbabDoor
open Go.RowKit
set_option linter.unusedSimpArgs false
set_option linter.unusedVariables false

theorem info_limb : (Tryd.prog.info? 33).map (fun i => (i.zero, i.size, i.bytes)) = some (some (.int .u32 0), 1, 4) := by kernel_rfl

set_option maxHeartbeats 400000 in
theorem trim_any (a : Option Addr) (cap : Nat) (xs : List Nat) (w : World) (h : Rd w a cap xs) (hl : xs.length ≤ 1000000000) :
    Calls Tryd.prog 22 #[.slice a xs.length cap] w fun e w' => ∃ a' cap', e = .returned (.slice a' (strip xs).length cap') ∧ Res 33 w.heap.size w' a' cap' (strip xs) ∧ Below w.heap.size w w' := by
  obtain ⟨i0, hi, hz0, hz1, hz2⟩ := info_parts info_limb
  have hsl := strip_length_le xs
  go_enter Tryd.func22, Tryd.ntmps22
  go_wp2_with fail
  refine (sig_any a cap xs _ (h.below ((Below.refl _ _).alloc (Nat.le_refl _) _))).mono ?_
  rintro e w' ⟨rfl, hw⟩
  subst hw
  go_wp2_with (at_builtin; refine wpList_append_rd rfl _ _ 27 rfl w.heap.size 33 i0 Tryd.underlying27 hi hz0 hz1 hz2 _ 0 [] rfl ?_ a cap _ (strip xs) rfl rfl ?_ ?_ ?_ ?_)
  · exact World.ownsRow_made w #[] 0 (Nat.le_refl _) (Nat.zero_le _) rfl
  · exact h.strip.below ((Below.refl _ _).alloc (Nat.le_refl _) _)
  · omega
  · simp
  · intro v' w1 hown hgrow
    obtain ⟨a', cap', rfl, hres⟩ := Res.of h.lim.strip hown
    go_wp2
    go_ret
    exact ⟨a', cap', rfl, hres, ((Below.refl _ _).alloc (Nat.le_refl _) _).grown hgrow (by simp) (fun k hk => by simp [Value.ownBlock] at hk; omega)⟩

set_option maxHeartbeats 400000 in
theorem of_any (n : Nat) (w : World) (hn : n < 18446744073709551616) :
    Calls Tryd.prog 10 #[.int .u64 (n : Int)] w fun e w' => ∃ a cap ys, e = .returned (.slice a ys.length cap) ∧ V ys = n ∧ Tr ys ∧ Res 33 w.heap.size w' a cap ys ∧ Below w.heap.size w w' := by
  go_enter Tryd.func10, Tryd.ntmps10
  go_wp2_with fail
  have hrd := rd_new w 33 [n % 4294967296, n / 4294967296] #[Value.int IntKind.u32 (↑n % 4294967296), Value.int IntKind.u32 (↑n / 4294967296)] (by simp [U]) (Lim.mk (by omega) (Lim.mk (by omega) Lim.nil)) (by simp [maxLen])
  refine (trim_any (some ⟨w.heap.size, 0, none⟩) 2 [n % 4294967296, n / 4294967296] _ hrd (by simp)).mono ?_
  rintro e w' ⟨a, cap, rfl, hres, hb⟩
  go_wp2
  go_ret
  refine ⟨a, cap, _, rfl, ?_, tr_strip _, hres.mono (by simp), ((Below.refl _ _).alloc (Nat.le_refl _) _).trans (hb.mono (by simp))⟩
  rw [V_strip]; simp only [V]; omega

end Go.Proofs.YtefdkajjdaplbabDoor
