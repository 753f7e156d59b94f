/-
  foundryref01.Add: the walk.
-/
import Derived.Test.YtefdkajjdaplbaaGreatDoorRTrim
import Derived.Test.YtefdkajjdaplbaaGreatDoorAdd
namespace Go.Proofs.YtefdkajjdaplbaaGreatDoor
open Go.RowKit
set_option linter.unusedSimpArgs false
set_option linter.unusedVariables false

set_option maxHeartbeats 1600000 in
set_option maxRecDepth 100000 in
theorem radd_any (a : Option Addr) (cap : Nat) (xs : List Nat) (b : Option Addr) (cbp : Nat) (ys : List Nat) (w : World) (ha : Rd w a cap xs) (hb : Rd w b cbp ys) (hla : xs.length ≤ 500000000) (hlb : ys.length ≤ 500000000) :
    Calls Tryz.prog 48 #[.slice a xs.length cap, .slice b ys.length cbp] w fun e w' =>
      ∃ a' cap' zs, e = .returned (.slice a' zs.length cap') ∧ V zs = V xs + V ys ∧ Tr zs ∧ Res 72 w.heap.size w' a' cap' zs ∧ Below w.heap.size w w' := by
  obtain ⟨i0, hi, hz0, hz1, hz2⟩ := info_parts info_limb
  have lL := ha.lim
  have lS := hb.lim
  have fL := ha.fm
  have fS := hb.fm
  have q1 := ha.le
  have q2 := ha.cap
  have q3 := hb.le
  have q4 := hb.cap
  unfold maxLen at q2 q4
  clear ha hb
  obtain ⟨mx, hmx1, hmx2, hmx3⟩ : ∃ mx, xs.length ≤ mx ∧ ys.length ≤ mx ∧ (mx = xs.length ∨ mx = ys.length) := ⟨max xs.length ys.length, by omega, by omega, by omega⟩
  go_enter Tryz.func48, Tryz.ntmps48
  go_wp2
  go_loopw [5, 6, 7] (fun out c i wr => ∃ (k : Nat) (zs : List Nat) (cy : Nat), k ≤ mx + 1 ∧ i = .int .i64 k ∧ c = .int .u64 cy ∧ cy ≤ 1 ∧ (k = mx + 1 → cy = 0) ∧ zs.length = k ∧ Lim zs ∧ V zs + 4294967296 ^ k * cy = V (xs.take k) + V (ys.take k) ∧ wr.ownsRow w.heap.size 72 1 out k (zs.map U) ∧ Below w.heap.size w wr) (fun _ _ i _ => mx + 1 - (intOf i).toNat)
  case atStart => exact ⟨0, [], 0, Nat.zero_le _, rfl, rfl, Nat.zero_le _, fun _ => rfl, rfl, Lim.nil, by simp [V], World.ownsRow_nil _ _ _ _, Below.refl _ _⟩
  case round =>
    obtain ⟨k, zs, cy, hk, rfl, rfl, hcy, hlast, hzl, lz, heq, hown, hnx⟩ := hrel
    have HE : Hid (V zs + 4294967296 ^ k * cy = V (xs.take k) + V (ys.take k)) := heq
    have HZ : Hid (zs.length = k) := hzl
    have HLA : Hid (k = mx + 1 → cy = 0) := hlast
    have hsz := hnx.size
    clear heq hzl hlast
    obtain ⟨x, hx⟩ : ∃ x, xs.getD k 0 = x := ⟨_, rfl⟩
    obtain ⟨y, hy⟩ : ∃ y, ys.getD k 0 = y := ⟨_, rfl⟩
    have bx : x < 4294967296 := by rw [← hx]; exact lL.getD k
    have byy : y < 4294967296 := by rw [← hy]; exact lS.getD k
    have HX : Hid (xs.getD k 0 = x) := hx
    have HY : Hid (ys.getD k 0 = y) := hy
    clear hx hy
    by_cases hkn : k < xs.length
    · obtain ⟨bl, ol, rfl, _, hcl⟩ := fL.at hnx k hkn
      rw [HX.out] at hcl
      by_cases hkm : k < ys.length
      · obtain ⟨bs, os, rfl, _, hcs⟩ := fS.at hnx k hkm
        rw [HY.out] at hcs
        go_wp2_with (at_builtin; refine wpList_append_one rfl _ _ 28 rfl w.heap.size 72 i0 Tryz.underlying28 hi hz0 hz1 hz2 _ k zs rfl (hown.alloc _) wr.heap.size ((cy + x + y) % 4294967296) rfl (cell_new1 _ _ _ _ (by omega)) (by omega) (by simp; omega) ?_)
        intro v' w1 hown1 hgrow1
        have hb1 : Below w.heap.size w w1 := (hnx.alloc hsz _).grown hgrow1 (by simp; omega) (fun k hk => (hown.lt k hk).1)
        clear hown
        go_wp2
        go_roundw
        case rel =>
          exact ⟨k + 1, zs ++ [(cy + x + y) % 4294967296], (cy + x + y) / 4294967296, by omega, by go_num, by go_num, by omega, by omega, by simp [HZ.out], lz.snoc (by omega), add_step HZ.out HE.out HX.out HY.out (by omega), own_snoc hown1, hb1⟩
        case measure => simp [intOf]; omega
      · have y0 : y = 0 := by rw [← HY.out]; exact getD_past _ _ (by omega)
        subst y0
        go_wp2_with (at_builtin; refine wpList_append_one rfl _ _ 28 rfl w.heap.size 72 i0 Tryz.underlying28 hi hz0 hz1 hz2 _ k zs rfl (hown.alloc _) wr.heap.size ((cy + x) % 4294967296) rfl (cell_new1 _ _ _ _ (by omega)) (by omega) (by simp; omega) ?_)
        intro v' w1 hown1 hgrow1
        have hb1 : Below w.heap.size w w1 := (hnx.alloc hsz _).grown hgrow1 (by simp; omega) (fun k hk => (hown.lt k hk).1)
        clear hown
        go_wp2
        go_roundw
        case rel =>
          exact ⟨k + 1, zs ++ [(cy + x) % 4294967296], (cy + x) / 4294967296, by omega, by go_num, by go_num, by omega, by omega, by simp [HZ.out], lz.snoc (by omega), add_step HZ.out HE.out HX.out HY.out (by omega), own_snoc hown1, hb1⟩
        case measure => simp [intOf]; omega
    · have x0 : x = 0 := by rw [← HX.out]; exact getD_past _ _ (by omega)
      subst x0
      by_cases hkm : k < ys.length
      · obtain ⟨bs, os, rfl, _, hcs⟩ := fS.at hnx k hkm
        rw [HY.out] at hcs
        go_wp2_with (at_builtin; refine wpList_append_one rfl _ _ 28 rfl w.heap.size 72 i0 Tryz.underlying28 hi hz0 hz1 hz2 _ k zs rfl (hown.alloc _) wr.heap.size ((cy + y) % 4294967296) rfl (cell_new1 _ _ _ _ (by omega)) (by omega) (by simp; omega) ?_)
        intro v' w1 hown1 hgrow1
        have hb1 : Below w.heap.size w w1 := (hnx.alloc hsz _).grown hgrow1 (by simp; omega) (fun k hk => (hown.lt k hk).1)
        clear hown
        go_wp2
        go_roundw
        case rel =>
          exact ⟨k + 1, zs ++ [(cy + y) % 4294967296], (cy + y) / 4294967296, by omega, by go_num, by go_num, by omega, by omega, by simp [HZ.out], lz.snoc (by omega), add_step HZ.out HE.out HX.out HY.out (by omega), own_snoc hown1, hb1⟩
        case measure => simp [intOf]; omega
      · have y0 : y = 0 := by rw [← HY.out]; exact getD_past _ _ (by omega)
        subst y0
        have g1 : decide ((k : Int) < (xs.length : Int)) = false := by simp; omega
        have g2 : decide ((k : Int) < (ys.length : Int)) = false := by simp; omega
        by_cases hc1 : cy = 0
        · subst hc1
          obtain ⟨a', cap', rfl, hres⟩ := Res.of lz hown
          clear hown
          go_wp2_with fail
          refine (rtrim_any _ _ _ _ hres.rd (by rw [HZ.out]; omega)).mono ?_
          rintro e w2 ⟨a2, c2, rfl, hr2, hb2⟩
          go_wp2
          go_ret
          refine ⟨a2, c2, _, rfl, ?_, tr_strip _, hr2.mono hsz, hnx.trans (hb2.mono hsz)⟩
          have h1 := HE.out
          rw [List.take_of_length_le (by omega), List.take_of_length_le (by omega)] at h1
          rw [V_strip]; omega
        · have hkmx : k ≤ mx := by have := HLA.out; omega
          have hc2 : 1 ≤ cy := by omega
          clear hc1
          go_wp2_with (at_builtin; refine wpList_append_one rfl _ _ 28 rfl w.heap.size 72 i0 Tryz.underlying28 hi hz0 hz1 hz2 _ k zs rfl (hown.alloc _) wr.heap.size ((cy) % 4294967296) rfl (cell_new1 _ _ _ _ (by omega)) (by omega) (by simp; omega) ?_)
          intro v' w1 hown1 hgrow1
          have hb1 : Below w.heap.size w w1 := (hnx.alloc hsz _).grown hgrow1 (by simp; omega) (fun k hk => (hown.lt k hk).1)
          clear hown
          go_wp2
          go_roundw
          case rel =>
            exact ⟨k + 1, zs ++ [(cy) % 4294967296], (cy) / 4294967296, by omega, by go_num, by go_num, by omega, by omega, by simp [HZ.out], lz.snoc (by omega), add_step HZ.out HE.out HX.out HY.out (by omega), own_snoc hown1, hb1⟩
          case measure => simp [intOf]; omega

end Go.Proofs.YtefdkajjdaplbaaGreatDoor
