/-
  foundryref11.points, changes, wide, sort: the walks.
  foundrylaw04.awake; OctetsReads: the walks.
  octets.Page: Later: the walk.
  octets.Page: Now: the walk.
  Rows of ints beside a page (LayG).
-/
import Derived.Test.YtngkckannclcmaaZ4
import Derived.Test.YtngkckannclcmaaZ5
import Derived.Deep.CutRange
import Derived.Test.YtngkckannclcmaaZ3
import Derived.WalkSpells
namespace Go.Proofs.Ytngkckannclcmaa
open Go.RowKit Go.Maps
set_option linter.unusedSimpArgs false
set_option linter.unusedVariables false

set_option maxHeartbeats 400000 in
set_option maxRecDepth 100000 in
theorem swide_any (z : Int) (w : World) : Calls Try.prog 30 #[.int .i64 z] w fun e w' => e = .returned (.int .i64 ((kdP z : Nat) : Int)) ∧ w = w' := by
  rcases kdP_cases z with ⟨h1, h2⟩ | ⟨h1, h2⟩
  · have HE : Hid (((kdP z : Nat) : Int) = 1) := by show _ = _; rw [h2]; rfl
    clear h2
    go_enter Try.func30, Try.ntmps30
    go_wp2
    go_ret
    exact ⟨by rw [HE.out]; rfl, rfl⟩
  · have HE : Hid (((kdP z : Nat) : Int) = 0) := by show _ = _; rw [h2]; rfl
    have g1 : ¬ 255 < z := by omega
    clear h2
    go_enter Try.func30, Try.ntmps30
    go_wp2
    go_ret
    exact ⟨by rw [HE.out]; rfl, rfl⟩
set_option maxHeartbeats 400000 in
set_option maxRecDepth 100000 in
theorem ssort_any (z : Int) (w : World) : Calls Try.prog 42 #[.int .i64 z] w fun e w' => e = .returned (.int .i64 ((kdC z : Nat) : Int)) ∧ w = w' := by
  rcases kdC_cases z with ⟨h1, h2⟩ | ⟨h0, h1, h2⟩ | ⟨h0, h1, h2⟩
  · have HE : Hid (((kdC z : Nat) : Int) = 2) := by show _ = _; rw [h2]; rfl
    have g1 : (z == 0) = true := by simp [h1]
    clear h2 h1
    go_enter Try.func42, Try.ntmps42
    go_wp2
    go_ret
    exact ⟨by rw [HE.out]; rfl, rfl⟩
  · have HE : Hid (((kdC z : Nat) : Int) = 1) := by show _ = _; rw [h2]; rfl
    have g1 : (z == 0) = false := by simp [h0]
    clear h2
    by_cases h3 : z < -128
    · have g2 : decide (z < -128) = true := decide_eq_true h3
      clear h0 h1
      go_enter Try.func42, Try.ntmps42
      go_wp2
      go_ret
      exact ⟨by rw [HE.out]; rfl, rfl⟩
    · have g2 : decide (z < -128) = false := decide_eq_false h3
      have g3 : decide (127 < z) = true := decide_eq_true (by omega)
      clear h0 h1
      go_enter Try.func42, Try.ntmps42
      go_wp2
      go_ret
      exact ⟨by rw [HE.out]; rfl, rfl⟩
  · have HE : Hid (((kdC z : Nat) : Int) = 0) := by show _ = _; rw [h2]; rfl
    have g1 : (z == 0) = false := by simp [h0]
    have g2 : decide (z < -128) = false := decide_eq_false (by omega)
    have g3 : decide (127 < z) = false := decide_eq_false (by omega)
    clear h0 h2
    go_enter Try.func42, Try.ntmps42
    go_wp2
    go_ret
    exact ⟨by rw [HE.out]; rfl, rfl⟩
theorem wrapi64' {z : Int} (h1 : -9223372036854775808 ≤ z) (h2 : z ≤ 9223372036854775807) : IntKind.i64.wrap z = z := by
  simp only [IntKind.wrap, IntKind.bits, IntKind.signed]
  simp
  omega
set_option maxHeartbeats 2000000 in
set_option maxRecDepth 100000 in
theorem spoints_any (a : Option Addr) (cap : Nat) (l : List Int) (w : World) (h : Ri w a cap l) :
    Calls Try.prog 29 #[.slice a l.length cap] w fun e w' => e = .returned (.bool (ptB l)) ∧ Below w.heap.size w w' := by
  have k2 := h.lenB
  have HH : Hid (Ri w a cap l) := h
  clear h
  go_enter Try.func29, Try.ntmps29
  go_wp2
  go_loopw [3] (fun i wr => ∃ k : Nat, k ≤ l.length ∧ i = .int .i64 k ∧ (∀ i, i < k → 0 ≤ l.getD i 0 ∧ l.getD i 0 ≤ 65535 ∧ (0 < i → l.getD (i - 1) 0 < l.getD i 0)) ∧ Below w.heap.size w wr) (fun i _ => l.length - (intOf i).toNat)
  case atStart => exact ⟨0, Nat.zero_le _, rfl, (fun j hj => by omega), Below.refl _ _⟩
  case round =>
    obtain ⟨k, hk, rfl, hok, hbW⟩ := hrel
    have HOK : Hid (∀ i, i < k → 0 ≤ l.getD i 0 ∧ l.getD i 0 ≤ 65535 ∧ (0 < i → l.getD (i - 1) 0 < l.getD i 0)) := hok
    clear hok
    by_cases hkn : k < l.length
    rotate_left
    · obtain rfl : k = l.length := by omega
      have HE : Hid (ptB l = decide ((l.length : Int) ≤ 2000)) := by show _ = _; rw [ptB_yes HOK.out]; exact decide_eq_decide.2 ⟨fun h => by omega, fun h => by omega⟩
      have g1 : ¬ (l.length : Int) < (l.length : Int) := by omega
      clear HOK
      go_wp2
      go_ret
      exact ⟨rt_bool HE.out.symm, hbW⟩
    obtain ⟨b, off, ea, hb, d0⟩ := HH.out.at hbW k hkn
    have hzi := HH.out.i64 hkn
    have HNO : Hid ((l.getD k 0 < 0 ∨ 65535 < l.getD k 0 ∨ (0 < k ∧ l.getD k 0 ≤ l.getD (k - 1) 0)) → ptB l = false) := fun h => ptB_no hkn h
    have HY : Hid ((0 ≤ l.getD k 0 ∧ l.getD k 0 ≤ 65535 ∧ (0 < k → l.getD (k - 1) 0 < l.getD k 0)) → ∀ i, i < k + 1 → 0 ≤ l.getD i 0 ∧ l.getD i 0 ≤ 65535 ∧ (0 < i → l.getD (i - 1) 0 < l.getD i 0)) := fun h i hi => by
      rcases Nat.lt_or_ge i k with h1 | h1
      · exact HOK.out i h1
      · rw [show i = k by omega]; exact h
    have HP : Hid (0 < k → ∃ m, k = m + 1 ∧ Cl wr b (off + m) (.int .i64 (l.getD m 0))) := fun h0 => by
      obtain ⟨b', off', ea', _, d1⟩ := HH.out.at hbW (k - 1) (by omega)
      rw [ea] at ea'
      cases ea'
      exact ⟨k - 1, by omega, Nat.lt_of_lt_of_le hb hbW.size, d1⟩
    obtain ⟨x, hx⟩ : ∃ x, l.getD k 0 = x := ⟨_, rfl⟩
    rw [hx] at d0 HNO HY
    subst ea
    have A0 : Cl wr b (off + k) (.int .i64 x) := ⟨Nat.lt_of_lt_of_le hb hbW.size, d0⟩
    clear d0 hx
    have q0 := A0.2
    have i1 : (0 : Int) ≤ (k : Int) := by omega
    have i2 : (k : Int) < (l.length : Int) := by omega
    by_cases h1 : x < 0
    · have g1 : decide (x < 0) = true := decide_eq_true h1
      have HE : Hid (ptB l = false) := HNO.out (.inl h1)
      clear h1 HOK HY HP
      go_upto_region 4 with fail
      refine wp_region_held_drew (S := (fun u => u.cell? ⟨b, off + k, none⟩ = some (.int .i64 x))) (by kernel_rfl) ?_ (fun hHeld => ?_)
      · (try dsimp only)
        go_keep
      have hdr : Below wr.heap.size wr wr.drew := Below.drew1
      generalize wr.drew = ud1 at hdr hHeld ⊢
      replace A0 := A0.below hdr
      replace hbW : Below w.heap.size w ud1 := hbW.trans (hdr.mono hbW.size)
      clear hdr
      refine hT 0 hHeld ?_
      refine hT 1 hHeld ?_
      refine hT 2 hHeld ?_
      refine hT 3 hHeld ?_
      refine hT 4 hHeld ?_
      refine hT 5 hHeld ?_
      refine hN 6 hHeld ?_
      refine hN 7 hHeld ?_
      refine hN 8 hHeld ?_
      refine hN 9 hHeld ?_
      refine hN 10 hHeld ?_
      refine hT 11 hHeld ?_
      refine hT 12 hHeld ?_
      refine hN 13 hHeld ?_
      refine hN 14 hHeld ?_
      refine hN 15 hHeld ?_
      refine hN 16 hHeld ?_
      refine hN 17 hHeld ?_
      refine hN 18 hHeld ?_
      refine hN 19 hHeld ?_
      refine hN 20 hHeld ?_
      refine hN 21 hHeld ?_
      refine hN 22 hHeld ?_
      refine hN 23 hHeld ?_
      refine hN 24 hHeld ?_
      refine hN 25 hHeld ?_
      refine hN 26 hHeld ?_
      refine hT 27 hHeld ?_
      refine wpAnyH_done (by kernel_rfl) ?_ _
      clear hHeld
      go_wp2
      go_ret
      exact ⟨rt_bool HE.out.symm, hbW⟩
    have g1 : decide (x < 0) = false := decide_eq_false h1
    by_cases h2 : 65535 < x
    · have g2 : decide (65535 < x) = true := decide_eq_true h2
      have HE : Hid (ptB l = false) := HNO.out (.inr (.inl h2))
      clear h1 h2 HOK HY HP
      go_upto_region 4 with fail
      refine wp_region_held_drew (S := (fun u => u.cell? ⟨b, off + k, none⟩ = some (.int .i64 x))) (by kernel_rfl) ?_ (fun hHeld => ?_)
      · (try dsimp only)
        go_keep
      have hdr : Below wr.heap.size wr wr.drew := Below.drew1
      generalize wr.drew = ud2 at hdr hHeld ⊢
      replace A0 := A0.below hdr
      replace hbW : Below w.heap.size w ud2 := hbW.trans (hdr.mono hbW.size)
      clear hdr
      refine hT 0 hHeld ?_
      refine hT 1 hHeld ?_
      refine hT 2 hHeld ?_
      refine hT 3 hHeld ?_
      refine hT 4 hHeld ?_
      refine hT 5 hHeld ?_
      refine hT 6 hHeld ?_
      refine hT 7 hHeld ?_
      refine hT 8 hHeld ?_
      refine hT 9 hHeld ?_
      refine hT 10 hHeld ?_
      refine hT 11 hHeld ?_
      refine hT 12 hHeld ?_
      refine hN 13 hHeld ?_
      refine hN 14 hHeld ?_
      refine hN 15 hHeld ?_
      refine hN 16 hHeld ?_
      refine hN 17 hHeld ?_
      refine hN 18 hHeld ?_
      refine hN 19 hHeld ?_
      refine hN 20 hHeld ?_
      refine hN 21 hHeld ?_
      refine hN 22 hHeld ?_
      refine hN 23 hHeld ?_
      refine hN 24 hHeld ?_
      refine hN 25 hHeld ?_
      refine hN 26 hHeld ?_
      refine hT 27 hHeld ?_
      refine wpAnyH_done (by kernel_rfl) ?_ _
      clear hHeld
      go_wp2
      go_ret
      exact ⟨rt_bool HE.out.symm, hbW⟩
    have g2 : decide (65535 < x) = false := decide_eq_false h2
    by_cases h3 : k = 0
    · have g3 : decide (0 < k) = false := decide_eq_false (by omega)
      have HOK2 : Hid (_) := HY.out ⟨by omega, by omega, fun h => by omega⟩
      clear h1 h2 h3 HOK HNO HP
      go_upto_region 4 with fail
      refine wp_region_held_drew (S := (fun u => u.cell? ⟨b, off + k, none⟩ = some (.int .i64 x))) (by kernel_rfl) ?_ (fun hHeld => ?_)
      · (try dsimp only)
        go_keep
      have hdr : Below wr.heap.size wr wr.drew := Below.drew1
      generalize wr.drew = ud3 at hdr hHeld ⊢
      replace A0 := A0.below hdr
      replace hbW : Below w.heap.size w ud3 := hbW.trans (hdr.mono hbW.size)
      clear hdr
      refine hT 0 hHeld ?_
      refine hT 1 hHeld ?_
      refine hT 2 hHeld ?_
      refine hT 3 hHeld ?_
      refine hT 4 hHeld ?_
      refine hT 5 hHeld ?_
      refine hT 6 hHeld ?_
      refine hT 7 hHeld ?_
      refine hT 8 hHeld ?_
      refine hT 9 hHeld ?_
      refine hT 10 hHeld ?_
      refine hT 11 hHeld ?_
      refine hT 12 hHeld ?_
      refine hT 13 hHeld ?_
      refine hT 14 hHeld ?_
      refine hT 15 hHeld ?_
      refine hN 16 hHeld ?_
      refine hN 17 hHeld ?_
      refine hN 18 hHeld ?_
      refine hN 19 hHeld ?_
      refine hN 20 hHeld ?_
      refine hN 21 hHeld ?_
      refine hN 22 hHeld ?_
      refine hN 23 hHeld ?_
      refine hN 24 hHeld ?_
      refine hN 25 hHeld ?_
      refine hT 26 hHeld ?_
      refine hT 27 hHeld ?_
      refine wpAnyH_done (by kernel_rfl) ?_ _
      clear hHeld
      go_wp2
      go_roundw
      case rel => exact ⟨k + 1, by omega, by go_num, HOK2.out, hbW⟩
      case measure => simp [intOf]; omega
    obtain ⟨m, hm, A1⟩ := HP.out (by omega)
    have hmk : (k : Int) - 1 = (m : Int) := by omega
    have hwm : IntKind.i64.wrap (m : Int) = (m : Int) := wrapi64' (by omega) (by omega)
    have i3 : (0 : Int) ≤ (m : Int) := by omega
    have i4 : (m : Int) < (l.length : Int) := by omega
    have g3 : decide (0 < k) = true := decide_eq_true (by omega)
    have hk1 : k - 1 = m := by omega
    rw [hk1] at HNO HY
    obtain ⟨y, hy⟩ : ∃ y, l.getD m 0 = y := ⟨_, rfl⟩
    rw [hy] at A1 HNO HY
    clear hy hk1 HP
    have q1 := A1.2
    by_cases h4 : x ≤ y
    · have g4 : decide (x ≤ y) = true := decide_eq_true h4
      have HE : Hid (ptB l = false) := HNO.out (.inr (.inr ⟨by omega, h4⟩))
      clear h1 h2 h3 h4 HOK HY hm
      go_upto_region 4 with fail
      refine wp_region_held_drew (S := (fun u => u.cell? ⟨b, off + k, none⟩ = some (.int .i64 x) ∧ u.cell? ⟨b, off + m, none⟩ = some (.int .i64 y))) (by kernel_rfl) ?_ (fun hHeld => ?_)
      · (try dsimp only)
        go_keep
      have hdr : Below wr.heap.size wr wr.drew := Below.drew1
      generalize wr.drew = ud4 at hdr hHeld ⊢
      replace A0 := A0.below hdr
      replace A1 := A1.below hdr
      replace hbW : Below w.heap.size w ud4 := hbW.trans (hdr.mono hbW.size)
      clear hdr
      refine hT 0 hHeld ?_
      refine hT 1 hHeld ?_
      refine hT 2 hHeld ?_
      refine hT 3 hHeld ?_
      refine hT 4 hHeld ?_
      refine hT 5 hHeld ?_
      refine hT 6 hHeld ?_
      refine hT 7 hHeld ?_
      refine hT 8 hHeld ?_
      refine hT 9 hHeld ?_
      refine hT 10 hHeld ?_
      refine hT 11 hHeld ?_
      refine hT 12 hHeld ?_
      refine hT 13 hHeld ?_
      refine hT 14 hHeld ?_
      refine hT 15 hHeld ?_
      refine hT 16 hHeld ?_
      refine hT 17 hHeld ?_
      refine hT 18 hHeld ?_
      refine hT 19 hHeld ?_
      refine hT 20 hHeld ?_
      refine hT 21 hHeld ?_
      refine hT 22 hHeld ?_
      refine hT 23 hHeld ?_
      refine hT 24 hHeld ?_
      refine hT 25 hHeld ?_
      refine hT 26 hHeld ?_
      refine hT 27 hHeld ?_
      refine wpAnyH_done (by kernel_rfl) ?_ _
      clear hHeld
      go_wp2
      go_ret
      exact ⟨rt_bool HE.out.symm, hbW⟩
    · have g4 : decide (x ≤ y) = false := decide_eq_false h4
      have HOK2 : Hid (_) := HY.out ⟨by omega, by omega, fun _ => by omega⟩
      clear h1 h2 h3 h4 HOK HNO hm
      go_upto_region 4 with fail
      refine wp_region_held_drew (S := (fun u => u.cell? ⟨b, off + k, none⟩ = some (.int .i64 x) ∧ u.cell? ⟨b, off + m, none⟩ = some (.int .i64 y))) (by kernel_rfl) ?_ (fun hHeld => ?_)
      · (try dsimp only)
        go_keep
      have hdr : Below wr.heap.size wr wr.drew := Below.drew1
      generalize wr.drew = ud5 at hdr hHeld ⊢
      replace A0 := A0.below hdr
      replace A1 := A1.below hdr
      replace hbW : Below w.heap.size w ud5 := hbW.trans (hdr.mono hbW.size)
      clear hdr
      refine hT 0 hHeld ?_
      refine hT 1 hHeld ?_
      refine hT 2 hHeld ?_
      refine hT 3 hHeld ?_
      refine hT 4 hHeld ?_
      refine hT 5 hHeld ?_
      refine hT 6 hHeld ?_
      refine hT 7 hHeld ?_
      refine hT 8 hHeld ?_
      refine hT 9 hHeld ?_
      refine hT 10 hHeld ?_
      refine hT 11 hHeld ?_
      refine hT 12 hHeld ?_
      refine hT 13 hHeld ?_
      refine hT 14 hHeld ?_
      refine hT 15 hHeld ?_
      refine hT 16 hHeld ?_
      refine hT 17 hHeld ?_
      refine hT 18 hHeld ?_
      refine hT 19 hHeld ?_
      refine hT 20 hHeld ?_
      refine hT 21 hHeld ?_
      refine hT 22 hHeld ?_
      refine hT 23 hHeld ?_
      refine hT 24 hHeld ?_
      refine hT 25 hHeld ?_
      refine hT 26 hHeld ?_
      refine hT 27 hHeld ?_
      refine wpAnyH_done (by kernel_rfl) ?_ _
      clear hHeld
      go_wp2
      go_roundw
      case rel => exact ⟨k + 1, by omega, by go_num, HOK2.out, hbW⟩
      case measure => simp [intOf]; omega

set_option maxHeartbeats 2000000 in
set_option maxRecDepth 100000 in
theorem schanges_any (a : Option Addr) (cap : Nat) (l : List Int) (w : World) (h : Ri w a cap l) :
    Calls Try.prog 41 #[.slice a l.length cap] w fun e w' => e = .returned (.bool (chB l)) ∧ Below w.heap.size w w' := by
  have k2 := h.lenB
  have HH : Hid (Ri w a cap l) := h
  clear h
  go_enter Try.func41, Try.ntmps41
  go_wp2
  go_loopw [3] (fun i wr => ∃ k : Nat, k ≤ l.length ∧ i = .int .i64 k ∧ (∀ i, i < k → -32768 ≤ l.getD i 0 ∧ l.getD i 0 ≤ 32767) ∧ Below w.heap.size w wr) (fun i _ => l.length - (intOf i).toNat)
  case atStart => exact ⟨0, Nat.zero_le _, rfl, (fun j hj => by omega), Below.refl _ _⟩
  case round =>
    obtain ⟨k, hk, rfl, hok, hbW⟩ := hrel
    have HOK : Hid (∀ i, i < k → -32768 ≤ l.getD i 0 ∧ l.getD i 0 ≤ 32767) := hok
    clear hok
    by_cases hkn : k < l.length
    · obtain ⟨b, off, ea, hb, d0⟩ := HH.out.at hbW k hkn
      obtain ⟨x, hx⟩ : ∃ x, l.getD k 0 = x := ⟨_, rfl⟩
      have HX : Hid (l.getD k 0 = x) := hx
      rw [hx] at d0
      subst ea
      clear hx
      by_cases h1 : x < -32768
      · have g1 : decide (x < -32768) = true := decide_eq_true h1
        have HE : Hid (chB l = false) := chB_no hkn (by rw [HX.out]; exact .inl h1)
        clear h1 HOK HX
        go_wp2
        go_ret
        exact ⟨rt_bool HE.out.symm, hbW⟩
      have g1 : decide (x < -32768) = false := decide_eq_false h1
      by_cases h2 : 32767 < x
      · have g2 : decide (32767 < x) = true := decide_eq_true h2
        have HE : Hid (chB l = false) := chB_no hkn (by rw [HX.out]; exact .inr h2)
        clear h1 h2 HOK HX
        go_wp2
        go_ret
        exact ⟨rt_bool HE.out.symm, hbW⟩
      have g2 : decide (32767 < x) = false := decide_eq_false h2
      have HOK2 : Hid (∀ i, i < k + 1 → -32768 ≤ l.getD i 0 ∧ l.getD i 0 ≤ 32767) := fun i hi => by
        rcases Nat.lt_or_ge i k with h1 | h1
        · exact HOK.out i h1
        · rw [show i = k by omega, HX.out]; omega
      clear h1 h2 HOK HX
      go_wp2
      go_roundw
      case rel => exact ⟨k + 1, by omega, by go_num, HOK2.out, hbW⟩
      case measure => simp [intOf]; omega
    · obtain rfl : k = l.length := by omega
      have HE : Hid (chB l = decide ((l.length : Int) ≤ 2000)) := by show _ = _; rw [chB_yes HOK.out]; exact decide_eq_decide.2 ⟨fun h => by omega, fun h => by omega⟩
      have g1 : ¬ (l.length : Int) < (l.length : Int) := by omega
      clear HOK
      go_wp2
      go_ret
      exact ⟨rt_bool HE.out.symm, hbW⟩

end Go.Proofs.Ytngkckannclcmaa

namespace Go.Proofs.Ytngkckannclcmaa
open Go.RowKit Go.Maps
set_option linter.unusedSimpArgs false
set_option linter.unusedVariables false

/-- A new page. -/
theorem pc_new (w : World) (G : Nat → Prop) (hG : ∀ k, G k → k < w.heap.size) : Pc (w.alloc (.cells #[.slice none 0 0, .int .i64 0, .map none, .bool false] 45)) w.heap.size G St.zero := by
  refine ⟨fun k hk => by have := hG k hk; simp; omega, fun h => by have := hG _ h; omega, Wf.zero, _, _, heap_alloc_new w _, fun h => (by cases h), fun _ => ⟨⟨World.ownsRow_nil _ _ _ _, fun g hg => (by cases hg)⟩, .inl ⟨rfl, rfl⟩⟩⟩

end Go.Proofs.Ytngkckannclcmaa

namespace Go.Proofs.Ytngkckannclcmaa
open Go.RowKit Go.Maps
set_option linter.unusedSimpArgs false
set_option linter.unusedVariables false

def St.later (s : St) : St := if s.no then s else { s with bs := s.bs ++ be4 0, ws := s.ws ++ [(s.bs.length : Int)] }
theorem Wf.later {s : St} (h : Wf s) : Wf s.later := by
  unfold St.later
  split
  · exact h
  · refine ⟨h.1.append (byt_be4 0), ?_, ?_, ?_⟩
    · rw [List.nodup_append]
      refine ⟨h.2.1, by simp, ?_⟩
      intro a ha b hb e
      have := h.2.2.1 a ha
      simp at hb
      omega
    · intro x hx
      simp at hx
      rcases hx with hx | hx
      · have := h.2.2.1 x hx
        simp [be4]; omega
      · simp [be4]; omega
    · have := h.2.2.2
      simp [be4]
      omega
theorem St.later_bad {s : St} (h : s.no = true) : s.later = s := by simp [St.later, h]
theorem St.later_ok {s : St} (h : s.no = false) : s.later = { s with bs := s.bs ++ be4 0, ws := s.ws ++ [(s.bs.length : Int)] } := by simp [St.later, h]

theorem wf64 {n : Int} (h : I64 n) : (Lit.int .i64 n).wf = true := WalkArith.wf_i64 h
theorem keyI : Keyed Try.prog 3 := int_keyed Try.underlying3
theorem zeroU (w : World) : (zeroValue 89).run Try.prog w = .ok (.agg #[]) w := by kernel_rfl

/-- A place more that waits. -/
theorem has_more {D : DataW Unit} {ws : List Int} {l : Int} (hm : IsMap D) (h : ∀ x : Int, Maps.has D (.int .i64 x) = decide (x ∈ ws)) (x : Int) :
    Maps.has (D.put (.int .i64 l) (.agg [])) (.int .i64 x) = decide (x ∈ ws ++ [l]) := by
  by_cases e : x = l
  · subst e
    rw [has_put_same hm (show WideAt.IsKeyLit (.int .i64 x) from trivial)]
    simp
  · rw [has_put_other (by intro e2; injection e2 with _ e3; exact e e3), h x]
    simp [e]
theorem size_more {D : DataW Unit} {ws : List Int} {l : Int} (hm : Tidy D) (h : ∀ x : Int, Maps.has D (.int .i64 x) = decide (x ∈ ws)) (hs : Maps.size D = ws.length) (hl : l ∉ ws) :
    Maps.size (D.put (.int .i64 l) (.agg [])) = (ws ++ [l]).length := by
  rw [size_put hm, h l, hs]
  simp [hl]

end Go.Proofs.Ytngkckannclcmaa

namespace Go.Proofs.Ytngkckannclcmaa
open Go.RowKit Go.Maps
set_option linter.unusedSimpArgs false
set_option linter.unusedVariables false

/-- Bytes are laid over others. -/
def ovr (bs : List Nat) (q : Nat) (xs : List Nat) : List Nat := bs.take q ++ xs ++ bs.drop (q + xs.length)
theorem ovr_len {bs : List Nat} {q : Nat} {xs : List Nat} (h : q + xs.length ≤ bs.length) : (ovr bs q xs).length = bs.length := by simp [ovr]; omega
theorem byt_ovr {bs : List Nat} {q : Nat} {xs : List Nat} (h : Byt bs) (hx : Byt xs) : Byt (ovr bs q xs) := ((h.take q).append hx).append (h.drop _)

def St.now (s : St) (m b : Int) : St :=
  if s.no then s else if m ∈ s.ws ∧ -2147483648 ≤ b ∧ b ≤ (s.bs.length : Int) then { s with bs := ovr s.bs m.toNat (be4 ((s.bs.length : Int) - b)), ws := s.ws.filter (fun x => decide (x ≠ m)) } else s.fail
theorem St.now_bad {s : St} (h : s.no = true) (m b : Int) : s.now m b = s := by simp [St.now, h]
theorem St.now_ok {s : St} (h : s.no = false) {m b : Int} (hc : m ∈ s.ws ∧ -2147483648 ≤ b ∧ b ≤ (s.bs.length : Int)) :
    s.now m b = { s with bs := ovr s.bs m.toNat (be4 ((s.bs.length : Int) - b)), ws := s.ws.filter (fun x => decide (x ≠ m)) } := by
  unfold St.now
  rw [h, if_pos hc]
  simp
theorem St.now_no {s : St} (h : s.no = false) {m b : Int} (hc : ¬ (m ∈ s.ws ∧ -2147483648 ≤ b ∧ b ≤ (s.bs.length : Int))) : s.now m b = s.fail := by
  unfold St.now
  rw [h, if_neg hc]
  simp
theorem Wf.now {s : St} (h : Wf s) (m b : Int) : Wf (s.now m b) := by
  unfold St.now
  split
  · exact h
  · split
    · rename_i hc
      obtain ⟨hm, _, _⟩ := hc
      have h1 := h.2.2.1 m hm
      have hlen : (ovr s.bs m.toNat (be4 ((s.bs.length : Int) - b))).length = s.bs.length := ovr_len (by simp [be4]; omega)
      refine ⟨byt_ovr h.1 (byt_be4 _), h.2.1.filter _, fun x hx => ?_, ?_⟩
      · rw [List.mem_filter] at hx
        have := h.2.2.1 x hx.1
        dsimp only
        rw [hlen]
        exact this
      · dsimp only
        rw [hlen]
        have := List.length_filter_le (fun x => decide (x ≠ m)) s.ws
        have := h.2.2.2
        omega
    · exact h

theorem has_less {D : DataW Unit} {ws : List Int} {m : Int} (h : ∀ x : Int, Maps.has D (.int .i64 x) = decide (x ∈ ws)) (x : Int) :
    Maps.has (D.del (.int .i64 m)) (.int .i64 x) = decide (x ∈ ws.filter (fun x => decide (x ≠ m))) := by
  by_cases e : x = m
  · subst e
    rw [has_del_same]
    simp
  · rw [has_del_other (by intro e2; injection e2 with _ e3; exact e e3), h x]
    simp [e]
theorem length_less : ∀ {ws : List Int} {m : Int}, ws.Nodup → m ∈ ws → (ws.filter (fun x => decide (x ≠ m))).length + 1 = ws.length := by
  intro ws m hn hm
  have e : ws.filter (fun x => decide (x ≠ m)) = ws.erase m := by
    rw [hn.erase_eq_filter]
    apply List.filter_congr
    intro x _
    by_cases h : x = m <;> simp [h]
  rw [e, List.length_erase_of_mem hm]
  have := List.length_pos_of_mem hm
  omega
theorem size_less {D : DataW Unit} {ws : List Int} {m : Int} (ht : Tidy D) (h : ∀ x : Int, Maps.has D (.int .i64 x) = decide (x ∈ ws)) (hs : Maps.size D = ws.length) (hn : ws.Nodup) (hm : m ∈ ws) :
    Maps.size (D.del (.int .i64 m)) = (ws.filter (fun x => decide (x ≠ m))).length := by
  have e := size_del (k := .int .i64 m) ht
  rw [h m, hs] at e
  have := length_less hn hm
  simp only [hm, decide_true, if_true] at e
  omega
theorem ownsMap_tight {w : World} {k : TypeId} {b n : Nat} {D : DataW Unit} (h : w.ownsMap Try.prog k unitElem b n D) : w.ownsMap Try.prog k unitElem b (Maps.size D) D := by
  obtain ⟨es, clock, hb, F, hs, rfl⟩ := h
  exact ⟨es, clock, hb, F, by simp [Maps.size, length_sorted], rfl⟩

theorem copyEq (u : World) (g q l cap : Nat) (cur : Array Value) (a : Option Addr) (c : Nat) (xs : List Nat) (ty : TypeId) (hg : u.heap[g]? = some (.cells cur 5 (0, 0))) (hr : Rb u a c xs) (hx : xs.length = 4) (hq : q + 4 ≤ l) (hl : l ≤ cur.size) :
    (Builtin.copy_ #[23, 23] ty #[.slice (some ⟨g, q, none⟩) (l - q) (cap - q), .slice a xs.length c]).run Try.prog u = .ok (goInt 4) (u.setRow g (cur.toList.take q ++ xs.map Y ++ cur.toList.drop (q + 4)).toArray) := by
  rcases hr.fm with h0 | ⟨b, off, rfl, hb, hc⟩
  · rw [h0] at hx; cases hx
  · have h := run_copy_row (P := Try.prog) u 23 23 ty 5 g q (l - q) (cap - q) ⟨b, off, none⟩ xs.length c cur 5 (xs.map Y) Try.underlying23 (by kernel_rfl) hg (by rw [List.length_map, hx]; show 4 = min 4 (l - q); omega) (by
      intro j v hj
      have hjl : j < xs.length := by
        rcases Nat.lt_or_ge j xs.length with h1 | h1
        · exact h1
        · rw [List.getElem?_eq_none (by simpa using h1)] at hj; cases hj
      have hadd : (⟨b, off, none⟩ : Addr).add j = ⟨b, off + j, none⟩ := by unfold Addr.add; split <;> simp_all
      rw [hadd, hc j hjl]
      rw [List.getElem?_map, List.getElem?_eq_getElem hjl] at hj
      simp at hj
      rw [← hj]
      simp [List.getD, hjl, Y]) (by simp [hx]; omega) (oneCell_Y xs)
    rw [List.length_map, hx] at h
    rw [hx]
    exact h

theorem now_fin {u : World} {B g m q l cap : Nat} {G : Nat → Prop} {s s' : St} {cur : Array Value} {D : DataW Unit} {xs : List Nat} (hGs : ∀ k, G k → k < u.heap.size) (hGB : ¬ G B)
    (hQ : Bx4 u B (.slice (some ⟨g, 0, none⟩) l cap) (.int .i64 (l : Int)) (.map (some m)) (.bool false)) (hR : Row u G (.slice (some ⟨g, 0, none⟩) l cap) s.bs) (hg : u.heap[g]? = some (.cells cur 5 (0, 0)))
    (hcur : cur.toList.take l = s.bs.map Y) (hcs : l ≤ cur.size) (hl : s.bs.length = l)
    (hmG : ¬ G m) (hown : u.ownsMap Try.prog 3 (unitElem (H := Unit)) m s'.ws.length D) (hhas : ∀ x : Int, Maps.has D (.int .i64 x) = decide (x ∈ s'.ws)) (hsize : Maps.size D = s'.ws.length)
    (hx : xs.length = 4) (hq : q + 4 ≤ l) (hb : s'.bs = ovr s.bs q xs) (hno : s'.no = false) (hw : Wf s') :
    Pc (u.setRow g (cur.toList.take q ++ xs.map Y ++ cur.toList.drop (q + 4)).toArray) B G s' ∧ Keep G u (u.setRow g (cur.toList.take q ++ xs.map Y ++ cur.toList.drop (q + 4)).toArray) := by
  have hgG : ¬ G g := hR.2 g rfl
  have hgB : B ≠ g := fun e => hR.ne hQ (by decide) (by rw [e]; rfl)
  have hlen : s'.bs.length = l := by rw [hb, ovr_len (by omega), hl]
  obtain ⟨es, clock, hbm, hF⟩ := hown
  have hgm : m ≠ g := fun e => hR.ne_map hbm (by rw [e]; rfl)
  have hrow := setRow_heap u g cur (cur.toList.take q ++ xs.map Y ++ cur.toList.drop (q + 4)).toArray _ _ hg
  refine ⟨⟨fun k hk => by simpa using hGs k hk, hGB, hw, .slice (some ⟨g, 0, none⟩) l cap, .map (some m), ?_, (fun hn => by rw [hno] at hn; cases hn), fun _ => ⟨⟨⟨?_, .inr ?_⟩, hR.2⟩, .inr ⟨m, D, rfl, hmG, ⟨es, clock, (setRow_other u g m _ hgm).trans hbm, hF⟩, hhas, hsize⟩⟩⟩, ⟨rfl, rfl, rfl, by simp, fun k hk => setRow_other u g k _ (fun e => hgG (e ▸ hk))⟩⟩
  · rw [hlen, hno]
    exact (setRow_other u g B _ hgB).trans hQ
  · simp
  · rcases hR.1.2 with ⟨e, _⟩ | ⟨g', cap', cur', e, h1, h2, h3, h4, h5, h6⟩
    · cases e
    · simp at e
      obtain ⟨rfl, _, rfl⟩ := e
      rw [hg] at h2
      simp at h2
      subst h2
      refine ⟨g, cap, _, by rw [hlen], Nat.zero_le _, hrow, by rw [hlen, ← hl]; exact h3, h4, ?_, ?_⟩
      · rw [← h5]
        simp [hx]
        omega
      · rw [Nat.mul_one, hlen, hb, ovr, hx, List.map_append, List.map_append]
        have e1 : (s.bs.take q).map Y = cur.toList.take q := by
          rw [List.map_take, ← hcur, List.take_take, Nat.min_eq_left (by omega)]
        have e2 : (s.bs.drop (q + 4)).map Y = (cur.toList.take l).drop (q + 4) := by
          rw [List.map_drop, ← hcur]
        have hcl : cur.toList.length = cur.size := Array.length_toList
        rw [e1, e2, List.take_append, List.take_of_length_le (by simp [hx]; omega), List.drop_take]
        congr 1
        congr 1
        simp [hx]
        omega

end Go.Proofs.Ytngkckannclcmaa

namespace Go.Proofs.Ytngkckannclcmaa
open Go.RowKit Go.Maps
set_option linter.unusedSimpArgs false
set_option linter.unusedVariables false

theorem info_i64 : (Try.prog.info? 3).map (fun i => (i.zero, i.size, i.bytes)) = some (some (.int .i64 0), 1, 8) := by kernel_rfl

theorem Hid_mk' {p : Prop} (h : p) : Hid p := h

/-- A row of ints of the call's own. -/
def OwnI (w : World) (v : Value) (ps : List Int) : Prop := w.ownsRow 0 3 1 v ps.length (ps.map (Value.int .i64))

theorem OwnI.nil (w : World) : OwnI w (.slice none 0 0) [] := World.ownsRow_nil w 0 _ 1
theorem OwnI.lt {w : World} {v : Value} {ps : List Int} (h : OwnI w v ps) {g : Nat} (hg : v.ownBlock = some g) : g < w.heap.size := (World.ownsRow.lt h g hg).2
theorem OwnI.kept {w w' : World} {v : Value} {ps : List Int} (h : OwnI w v ps) (hk : ∀ g, v.ownBlock = some g → w'.heap[g]? = w.heap[g]?) : OwnI w' v ps := by
  refine ⟨h.1, ?_⟩
  rcases h.2 with h0 | ⟨g, cap, cur, e, h3, h4, h5⟩
  · exact .inl h0
  · exact .inr ⟨g, cap, cur, e, h3, (hk g (by rw [e]; rfl)).trans h4, h5⟩
theorem OwnI.slice {w : World} {v : Value} {ps : List Int} (h : OwnI w v ps) : ∃ a cap, v = .slice a ps.length cap ∧ ps.length ≤ cap ∧ cap ≤ maxLen ∧ (0 < ps.length → ∃ g, a = some ⟨g, 0, none⟩) ∧ ∀ g, a = some ⟨g, 0, none⟩ → ∀ i, i < ps.length → w.cell? ⟨g, i, none⟩ = some (.int .i64 (ps.getD i 0)) := by
  rcases h.2 with ⟨e, h0⟩ | ⟨g, cap, cur, e, h3, h4, h5, h6, _⟩
  · refine ⟨none, 0, by rw [e, h0], by omega, by decide, fun h => by omega, fun g hg => by cases hg⟩
  · refine ⟨some ⟨g, 0, none⟩, cap, e, h5, h6, fun _ => ⟨g, rfl⟩, fun g' hg' i hi => ?_⟩
    simp at hg'
    subst hg'
    have := World.ownsRow.cells h (g := g) (by rw [e]; rfl) i (.int .i64 (ps.getD i 0)) (by simp [List.getD, hi])
    have hadd : (⟨g, 0, none⟩ : Addr).add i = ⟨g, i, none⟩ := by unfold Addr.add; split <;> simp_all
    rw [hadd] at this
    exact this

/-- A page, two rows of ints apart from it and from each other, and all that was there. -/
structure LayG (base : Nat) (W0 w : World) (G : Nat → Prop) (B : Nat) (s : St) (v : Value) (ps : List Int) (m : Value) (ms : List Int) : Prop where
  gb : ∀ k, k < base → G k
  pc : Pc w B G s
  vo : OwnI w v ps
  mo : OwnI w m ms
  vg : ∀ g, v.ownBlock = some g → G g ∧ base ≤ g ∧ m.ownBlock ≠ some g
  mg : ∀ g, m.ownBlock = some g → G g
  be : Below base W0 w

theorem LayG.next {base : Nat} {W0 w u : World} {G : Nat → Prop} {B : Nat} {s s' : St} {v m : Value} {ps ms : List Int} (h : LayG base W0 w G B s v ps m ms) (hP : Pc u B G s') (hK : Keep G w u) : LayG base W0 u G B s' v ps m ms :=
  ⟨h.gb, hP, h.vo.kept (fun g hg => hK.block g (h.vg g hg).1), h.mo.kept (fun g hg => hK.block g (h.mg g hg)), h.vg, h.mg, h.be.trans (hK.below h.gb)⟩
theorem LayG.base_le {base : Nat} {W0 w : World} {G : Nat → Prop} {B : Nat} {s : St} {v m : Value} {ps ms : List Int} (h : LayG base W0 w G B s v ps m ms) : base ≤ w.heap.size := by
  rcases Nat.lt_or_ge w.heap.size base with h1 | h1
  · have := h.pc.1 w.heap.size (h.gb _ h1)
    omega
  · exact h1
theorem LayG.below {base : Nat} {W0 w u : World} {G : Nat → Prop} {B : Nat} {s : St} {v m : Value} {ps ms : List Int} (h : LayG base W0 w G B s v ps m ms) (hb : Below w.heap.size w u) : LayG base W0 u G B s v ps m ms :=
  ⟨h.gb, h.pc.below hb, h.vo.kept (fun g hg => hb.block g (h.vo.lt hg)), h.mo.kept (fun g hg => hb.block g (h.mo.lt hg)), h.vg, h.mg, h.be.trans (hb.mono h.base_le)⟩
/-- The rows change their parts. -/
theorem LayG.app {base : Nat} {W0 w u : World} {G : Nat → Prop} {B : Nat} {s : St} {v v' m : Value} {ps ps' ms : List Int} (h : LayG base W0 w G B s v ps m ms) (hown : OwnI u v' ps') (hgr : w.grownBy u v.ownBlock) (hat : v'.ownBlock = v.ownBlock ∨ v'.ownBlock = some w.heap.size) :
    LayG base W0 u (fun k => G k ∨ v'.ownBlock = some k) B s v' ps' m ms := by
  have hst : ∀ k, k < w.heap.size → ¬ G k → u.heap[k]? = w.heap[k]? := fun k hk hG => hgr.block k hk (fun e => hG (h.vg k e.symm).1)
  refine ⟨fun k hk => .inl (h.gb k hk), ?_, hown, ?_, ?_, fun g hg => .inl (h.mg g hg), ?_⟩
  · refine h.pc.guard_new hgr.size hst ?_
    rintro k (hk | hk)
    · exact ⟨Nat.lt_of_lt_of_le (h.pc.1 k hk) hgr.size, fun _ => hk⟩
    · refine ⟨hown.lt hk, fun hlt => ?_⟩
      rcases hat with hat | hat
      · exact (h.vg k (by rw [← hat]; exact hk)).1
      · rw [hat] at hk; simp at hk; omega
  · exact h.mo.kept (fun g hg => hgr.block g (h.mo.lt hg) (fun e => (h.vg g e.symm).2.2 hg))
  · intro g hg
    rcases hat with hat | hat
    · have := h.vg g (by rw [← hat]; exact hg)
      exact ⟨.inl this.1, this.2⟩
    · rw [hat] at hg
      simp at hg
      subst hg
      refine ⟨.inr hat, h.base_le, fun e => ?_⟩
      have := h.mo.lt e
      omega
  · exact h.be.grown hgr h.base_le (fun k hk => (h.vg k hk).2.1)

/-- 'append(v, x)'. -/
theorem wpList_append_i {w : World} {ops : Array Oper} {rest : List Oper} {o : Oper} {a : Act} {Q : Exit → Act → World → Prop} (hgd : o.guard = none) (sx x : Operand) (ho : o.op = .call { callee := .builtin .append, args := #[sx, x], argTypes := #[22, 22] })
    {base : Nat} {W0 : World} {G : Nat → Prop} {B : Nat} {s : St} {v m : Value} {ps ms : List Int} (z : Int) (hL : LayG base W0 w G B s v ps m ms) (hs : a.eval sx = v)
    (gx : Nat) (hx : a.eval x = .slice (some ⟨gx, 0, none⟩) 1 1) (hc : w.cell? ⟨gx, 0, none⟩ = some (.int .i64 z)) (hlen : ps.length + 1 ≤ 2000000000)
    (h : ∀ v' w' G', LayG base W0 w' G' B s v' (ps ++ [z]) m ms → wpList Try.prog ops Q rest (a.put o.dst v') w') : wpList Try.prog ops Q (o :: rest) a w := by
  obtain ⟨i0, hi, hz0, hz1, hz2⟩ := info_parts info_i64
  refine wpList_append_own_at w hgd sx x 22 ho 0 3 i0 (.int .i64 0) 1 8 Try.underlying22 hi hz0 hz1 hz2 rfl (by decide) v ps.length (ps.map (Value.int .i64)) hs hL.vo ⟨gx, 0, none⟩ 1 1 [.int .i64 z] hx rfl ?_ ?_ (by unfold maxLen; omega) (by omega) (Nat.zero_le _) ?_
  · intro j u hj
    match j, hj with
    | 0, hj => simp at hj; subst hj; simpa [Addr.add] using hc
  · intro u hu
    simp at hu
    subst hu
    rfl
  · intro v' w' h1 h2 _ h4
    refine h v' w' _ (hL.app ?_ h2 h4)
    simpa [OwnI] using h1

end Go.Proofs.Ytngkckannclcmaa
