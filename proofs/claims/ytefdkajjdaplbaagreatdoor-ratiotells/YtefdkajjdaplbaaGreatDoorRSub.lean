/-
  foundryref01.Sub: the walk.
-/
import Derived.Test.YtefdkajjdaplbaaGreatDoorSub
import Derived.Test.YtefdkajjdaplbaaGreatDoorRTrim
namespace Go.Proofs.YtefdkajjdaplbaaGreatDoor
open Go.RowKit
set_option linter.unusedSimpArgs false
set_option linter.unusedVariables false

set_option maxHeartbeats 1600000 in
set_option maxRecDepth 100000 in
theorem rsub_any (a : Option Addr) (cap : Nat) (xs : List Nat) (b : Option Addr) (cbp : Nat) (ys : List Nat) (w : World) (ha : Rd w a cap xs) (hb : Rd w b cbp ys) (hla : xs.length ≤ 500000000) (hlb : ys.length ≤ 500000000) :
    Calls Tryz.prog 70 #[.slice a xs.length cap, .slice b ys.length cbp] w fun e w' =>
      ∃ a' cap' zs, e = .returned (.slice a' zs.length cap') ∧ V zs = V xs - V ys ∧ Tr zs ∧ Res 72 w.heap.size w' a' cap' zs ∧ Below w.heap.size w w' := by
  obtain ⟨i0, hi, hz0, hz1, hz2⟩ := info_parts info_limb
  by_cases hle : V xs ≤ V ys
  · have hc := cmpN_le hle
    go_enter Tryz.func70, Tryz.ntmps70
    go_wp2_with fail
    refine (rcmp_any _ _ _ _ _ _ _ ha hb).mono ?_
    rintro e w1 ⟨rfl, rfl⟩
    generalize cmpN (V xs) (V ys) = q at hc ⊢
    go_wp2
    go_ret
    refine ⟨none, 0, [], rfl, ?_, tr_nil, ⟨Lim.nil, World.ownsRow_nil _ _ _ _⟩, Below.refl _ _⟩
    show 0 = _; omega
  · have hc := cmpN_gt (Nat.lt_of_not_le hle)
    have HC : Hid (cmpN (V xs) (V ys) = 1) := hc
    have HV : Hid (V ys < V xs) := Nat.lt_of_not_le hle
    have lL := ha.lim
    have lS := hb.lim
    have fL := ha.fm
    have fS := hb.fm
    have q1 := ha.le
    have q2 := ha.cap
    unfold maxLen at q2
    clear hc
    go_enter Tryz.func70, Tryz.ntmps70
    go_wp2_with fail
    refine (rcmp_any _ _ _ _ _ _ _ ha hb).mono ?_
    rintro e w0 ⟨rfl, rfl⟩
    rw [HC.out]
    clear ha hb
    go_wp2
    go_loopw [5, 6, 7] (fun out c i wr => ∃ (k : Nat) (zs : List Nat) (cy : Nat), k ≤ xs.length ∧ i = .int .i64 k ∧ c = .int .u64 cy ∧ cy ≤ 1 ∧ zs.length = k ∧ Lim zs ∧ V zs + V (ys.take k) = V (xs.take k) + 4294967296 ^ k * cy ∧ wr.ownsRow w.heap.size 72 1 out k (zs.map U) ∧ Below w.heap.size w wr) (fun _ _ i _ => xs.length - (intOf i).toNat)
    case atStart => exact ⟨0, [], 0, Nat.zero_le _, rfl, rfl, Nat.zero_le _, rfl, Lim.nil, by simp [V], World.ownsRow_nil _ _ _ _, Below.refl _ _⟩
    case round =>
      obtain ⟨k, zs, cy, hk, rfl, rfl, hcy, hzl, lz, heq, hown, hnx⟩ := hrel
      have HE : Hid (V zs + V (ys.take k) = V (xs.take k) + 4294967296 ^ k * cy) := heq
      have HZ : Hid (zs.length = k) := hzl
      have hsz := hnx.size
      clear heq hzl
      by_cases hkn : k < xs.length
      · obtain ⟨bl, ol, rfl, _, hcl⟩ := fL.at hnx k hkn
        obtain ⟨x, hx⟩ : ∃ x, xs.getD k 0 = x := ⟨_, rfl⟩
        obtain ⟨y, hy⟩ : ∃ y, ys.getD k 0 = y := ⟨_, rfl⟩
        have bx : x < 4294967296 := by rw [← hx]; exact lL.getD k
        have byy : y < 4294967296 := by rw [← hy]; exact lS.getD k
        rw [hx] at hcl
        have HX : Hid (xs.getD k 0 = x) := hx
        have HY : Hid (ys.getD k 0 = y) := hy
        clear hx hy
        by_cases hkm : k < ys.length
        · obtain ⟨bs, os, rfl, _, hcs⟩ := fS.at hnx k hkm
          rw [HY.out] at hcs
          go_wp2_with (at_builtin; refine wpList_append_one rfl _ _ 28 rfl w.heap.size 72 i0 Tryz.underlying28 hi hz0 hz1 hz2 _ k zs rfl (hown.alloc _) wr.heap.size ((x + 4294967296 - cy - y) % 4294967296) rfl (cell_new1 _ _ _ _ (by omega)) (by omega) (by simp; omega) ?_)
          intro v' w1 hown1 hgrow1
          have hb1 : Below w.heap.size w w1 := (hnx.alloc hsz _).grown hgrow1 (by simp; omega) (fun k hk => (hown.lt k hk).1)
          clear hown
          go_wp2
          go_roundw
          case rel =>
            exact ⟨k + 1, zs ++ [(x + 4294967296 - cy - y) % 4294967296], 1 - (x + 4294967296 - cy - y) / 4294967296, by omega, by go_num, u64_eq (by omega), by omega, by simp [HZ.out], lz.snoc (by omega), sub_step HZ.out HE.out HX.out HY.out (by omega) hcy byy bx, own_snoc hown1, hb1⟩
          case measure => simp [intOf]; omega
        · have y0 : y = 0 := by rw [← HY.out]; exact getD_past _ _ (by omega)
          subst y0
          go_wp2_with (at_builtin; refine wpList_append_one rfl _ _ 28 rfl w.heap.size 72 i0 Tryz.underlying28 hi hz0 hz1 hz2 _ k zs rfl (hown.alloc _) wr.heap.size ((x + 4294967296 - cy) % 4294967296) rfl (cell_new1 _ _ _ _ (by omega)) (by omega) (by simp; omega) ?_)
          intro v' w1 hown1 hgrow1
          have hb1 : Below w.heap.size w w1 := (hnx.alloc hsz _).grown hgrow1 (by simp; omega) (fun k hk => (hown.lt k hk).1)
          clear hown
          go_wp2
          go_roundw
          case rel =>
            exact ⟨k + 1, zs ++ [(x + 4294967296 - cy) % 4294967296], 1 - (x + 4294967296 - cy) / 4294967296, by omega, by go_num, u64_eq (by omega), by omega, by simp [HZ.out], lz.snoc (by omega), sub_step HZ.out HE.out HX.out HY.out (by omega) hcy byy bx, own_snoc hown1, hb1⟩
          case measure => simp [intOf]; omega
      · obtain rfl : k = xs.length := by omega
        obtain ⟨a', cap', rfl, hres⟩ := Res.of lz hown
        clear hown
        go_wp2_with fail
        refine (rtrim_any _ _ _ _ hres.rd (by rw [HZ.out]; omega)).mono ?_
        rintro e w2 ⟨a2, c2, rfl, hr2, hb2⟩
        go_wp2
        go_ret
        refine ⟨a2, c2, _, rfl, ?_, tr_strip _, hr2.mono hsz, hnx.trans (hb2.mono hsz)⟩
        rw [V_strip]
        exact sub_end lz HZ.out HE.out lL HV.out

end Go.Proofs.YtefdkajjdaplbaaGreatDoor
