/-
  nat.Cmp: the walk.
-/
import Derived.Test.YtefdkajjdaplbabDoorTrim
import Derived.BigQuiet
import Derived.Deep.QuietTactic
import Derived.WalkSmall
import Derived.Outline
namespace Go.Proofs.YtefdkajjdaplbabDoor
open Go.RowKit
set_option linter.unusedSimpArgs false
set_option linter.unusedVariables false

/-- Less: -1; the same: 0; more: 1. -/
def cmpN (x y : Nat) : Int := if x < y then -1 else if y < x then 1 else 0

theorem ret_i64 {a b : Int} (h : a = b) : Ending.returned (.int .i64 a) = .returned (.int .i64 b) := by rw [h]
theorem ret_bool {a b : Bool} (h : a = b) : Ending.returned (.bool a) = .returned (.bool b) := by rw [h]

set_option maxHeartbeats 400000 in
theorem compare_int (x y : Nat) (w : World) :
    Calls Tryd.prog 20 #[.int .i64 (x : Int), .int .i64 (y : Int)] w fun e w' => e = .returned (.int .i64 (cmpN x y)) ∧ w = w' := by
  rcases Nat.lt_trichotomy x y with h | rfl | h
  · have h1 : (x : Int) < (y : Int) := by omega
    go_enter Tryd.func20, Tryd.ntmps20
    go_wp2
    go_ret
    exact ⟨ret_i64 (by simp [cmpN, h]), rfl⟩
  · have h1 : ¬ (x : Int) < (x : Int) := by omega
    go_enter Tryd.func20, Tryd.ntmps20
    go_wp2
    go_ret
    exact ⟨ret_i64 (by simp [cmpN]), rfl⟩
  · have h1 : (y : Int) < (x : Int) := by omega
    have h2 : ¬ (x : Int) < (y : Int) := by omega
    go_enter Tryd.func20, Tryd.ntmps20
    go_wp2
    go_ret
    exact ⟨ret_i64 (by simp [cmpN, h]; omega), rfl⟩

set_option maxHeartbeats 400000 in
theorem compare_u32 (x y : Nat) (w : World) :
    Calls Tryd.prog 21 #[.int .u32 (x : Int), .int .u32 (y : Int)] w fun e w' => e = .returned (.int .i64 (cmpN x y)) ∧ w = w' := by
  rcases Nat.lt_trichotomy x y with h | rfl | h
  · have h1 : (x : Int) < (y : Int) := by omega
    go_enter Tryd.func21, Tryd.ntmps21
    go_wp2
    go_ret
    exact ⟨ret_i64 (by simp [cmpN, h]), rfl⟩
  · have h1 : ¬ (x : Int) < (x : Int) := by omega
    go_enter Tryd.func21, Tryd.ntmps21
    go_wp2
    go_ret
    exact ⟨ret_i64 (by simp [cmpN]), rfl⟩
  · have h1 : (y : Int) < (x : Int) := by omega
    have h2 : ¬ (x : Int) < (y : Int) := by omega
    go_enter Tryd.func21, Tryd.ntmps21
    go_wp2
    go_ret
    exact ⟨ret_i64 (by simp [cmpN, h]; omega), rfl⟩

theorem compare_u32q (x y : Nat) (w : World) :
    Calls Tryd.prog 21 #[.int .u32 (x : Int), .int .u32 (y : Int)] w fun e w' => e = .returned (.int .i64 (cmpN x y)) ∧ w' = w :=
  (compare_u32 x y w).mono fun _ _ h => ⟨h.1, h.2.symm⟩

theorem Rd.at {w : World} {b off cap : Nat} {xs : List Nat} (h : Rd w (some ⟨b, off, none⟩) cap xs) (i : Nat) (hi : i < xs.length) : w.cell? ⟨b, off + i, none⟩ = some (.int .u32 (xs.getD i 0 : Nat)) := by
  rcases h.2.2.2.2 with rfl | ⟨b', off', e, hb, hc⟩
  · simp at hi
  · simp at e; obtain ⟨rfl, rfl⟩ := e; exact hc i hi
theorem Rd.lt {w : World} {b off cap : Nat} {xs : List Nat} (h : Rd w (some ⟨b, off, none⟩) cap xs) (hn : xs ≠ []) : b < w.heap.size := by
  rcases h.2.2.2.2 with rfl | ⟨b', off', e, hb, hc⟩
  · exact absurd rfl hn
  · simp at e; obtain ⟨rfl, rfl⟩ := e; exact hb

set_option maxHeartbeats 800000 in
theorem cmp_any (a : Option Addr) (cap : Nat) (xs : List Nat) (b : Option Addr) (cbp : Nat) (ys : List Nat) (w : World) (ha : Rd w a cap xs) (hb : Rd w b cbp ys) :
    Calls Tryd.prog 9 #[.slice a xs.length cap, .slice b ys.length cbp] w fun e w' => e = .returned (.int .i64 (cmpN (V xs) (V ys))) ∧ Below w.heap.size w w' := by
  have la := ha.strip
  have lb := hb.strip
  have hbd := la.le
  have hbd2 := la.cap
  have hbe := lb.le
  have hbe2 := lb.cap
  unfold maxLen at hbd2 hbe2
  have ea := V_strip xs
  have eb := V_strip ys
  have ta := tr_strip xs
  have tb := tr_strip ys
  have HV : Hid (cmpN (V xs) (V ys) = cmpN (V (strip xs)) (V (strip ys))) := by show _ = _; rw [ea, eb]
  clear ea eb
  go_enter Tryd.func9, Tryd.ntmps9
  go_wp2_with fail
  refine (sig_any a cap xs _ ha).mono ?_
  rintro e w' ⟨rfl, rfl⟩
  go_wp2_with fail
  refine (sig_any b cbp ys _ hb).mono ?_
  rintro e w' ⟨rfl, rfl⟩
  clear ha hb
  generalize strip xs = xs at *
  generalize strip ys = ys at *
  by_cases hlen : xs.length = ys.length
  · have hl2 : ((xs.length : Int) != (ys.length : Int)) = false := by simp; omega
    rcases la.2.2.2.2 with rfl | ⟨ba, oa, rfl, hla, hca⟩
    · have hy : ys = [] := List.length_eq_zero_iff.1 hlen.symm
      subst hy
      go_wp2_with fail
      go_loop [5] (fun i => i = .int .i64 (-1)) (fun i => (intOf i).toNat)
      case atStart => rfl
      case round =>
        subst hrel
        go_wp2
        go_ret
        exact ⟨ret_i64 (by rw [HV.out]; rfl), Below.refl _ _⟩
    · rcases lb.2.2.2.2 with rfl | ⟨bb, ob, rfl, hlb, hcb⟩
      · simp at hlen
        subst hlen
        go_wp2_with fail
        go_loop [5] (fun i => i = .int .i64 (-1)) (fun i => (intOf i).toNat)
        case atStart => rfl
        case round =>
          subst hrel
          go_wp2
          go_ret
          exact ⟨ret_i64 (by rw [HV.out]; rfl), Below.refl _ _⟩
      · have lax := la.lim
        have lay := lb.lim
        clear la lb
        go_wp2_with fail
        go_loopw [5] (fun i wr => ∃ (k : Nat) (m : Int), k ≤ ys.length ∧ m = (k : Int) - 1 ∧ i = .int .i64 m ∧ (∀ j, k ≤ j → xs.getD j 0 = ys.getD j 0) ∧ Below w.heap.size w wr) (fun i _ => (intOf i + 1).toNat)
        case atStart => exact ⟨ys.length, _, Nat.le_refl _, rfl, rfl, fun j hj => by simp [List.getD, List.getElem?_eq_none (show ys.length ≤ j from hj), List.getElem?_eq_none (show xs.length ≤ j by omega)], Below.refl _ _⟩
        case round =>
          obtain ⟨k, m, hk, hm, rfl, hst, hnx⟩ := hrel
          have HS : Hid (∀ j, k ≤ j → xs.getD j 0 = ys.getD j 0) := hst
          clear hst
          by_cases hk0 : k = 0
          · subst hk0
            obtain rfl : m = -1 := by omega
            clear hm
            go_wp2
            go_ret
            refine ⟨ret_i64 ?_, hnx⟩
            rw [HV.out, V_congr xs ys (fun j => HS.out j (Nat.zero_le _))]
            simp [cmpN]
          · obtain ⟨j, rfl⟩ : ∃ j, k = j + 1 := ⟨k - 1, by omega⟩
            obtain rfl : m = (j : Int) := by omega
            clear hm
            have gx := (hnx.cell (p := ⟨ba, oa + j, none⟩) hla).trans (hca j (by omega))
            have gy := (hnx.cell (p := ⟨bb, ob + j, none⟩) hlb).trans (hcb j (by omega))
            obtain ⟨x, hx⟩ : ∃ x, xs.getD j 0 = x := ⟨_, rfl⟩
            obtain ⟨y, hy⟩ : ∃ y, ys.getD j 0 = y := ⟨_, rfl⟩
            rw [hx] at gx
            rw [hy] at gy
            have HX : Hid (xs.getD j 0 = x) := hx
            have HY : Hid (ys.getD j 0 = y) := hy
            clear hx hy hca hcb
            have b1 : (0 : Int) ≤ (j : Int) := by omega
            have b2 : (j : Int) < (ys.length : Int) := by omega
            rcases Nat.lt_trichotomy x y with h | rfl | h
            · have hne : ((x : Int) != (y : Int)) = true := by simp; omega
              go_wp2_with fail
              go_quiet (fail)
              go_wp2_with fail
              have gx2 : (wr.drewN nq).cell? ⟨ba, oa + j, none⟩ = some (.int .u32 (x : Int)) := gx
              have gy2 : (wr.drewN nq).cell? ⟨bb, ob + j, none⟩ = some (.int .u32 (y : Int)) := gy
              have hnx2 := below_drewN hnx nq
              clear gx gy
              generalize wr.drewN nq = wq at gx2 gy2 hnx2 ⊢
              go_quiet ((go_at_call 21; exact Calls.quiet_of_same (compare_u32q _ _ _)))
              go_wp2
              go_ret
              refine ⟨ret_i64 ?_, below_drewN hnx2 _⟩
              have := V_lt_top j xs ys lax (fun i hi => HS.out i (by omega)) (by rw [HX.out, HY.out]; exact h)
              rw [HV.out]; simp [cmpN, h, this]
            · have hne : ((x : Int) != (x : Int)) = false := by simp
              go_wp2_with fail
              go_quiet (fail)
              go_wp2
              go_roundw
              case rel =>
                refine ⟨j, _, by omega, rfl, by go_num, fun i hi => ?_, below_drewN hnx _⟩
                rcases Nat.lt_or_eq_of_le hi with h | rfl
                · exact HS.out i (by omega)
                · rw [HX.out, HY.out]
              case measure => simp [intOf]
            · have hne : ((x : Int) != (y : Int)) = true := by simp; omega
              go_wp2_with fail
              go_quiet (fail)
              go_wp2_with fail
              have gx2 : (wr.drewN nq).cell? ⟨ba, oa + j, none⟩ = some (.int .u32 (x : Int)) := gx
              have gy2 : (wr.drewN nq).cell? ⟨bb, ob + j, none⟩ = some (.int .u32 (y : Int)) := gy
              have hnx2 := below_drewN hnx nq
              clear gx gy
              generalize wr.drewN nq = wq at gx2 gy2 hnx2 ⊢
              go_quiet ((go_at_call 21; exact Calls.quiet_of_same (compare_u32q _ _ _)))
              go_wp2
              go_ret
              refine ⟨ret_i64 ?_, below_drewN hnx2 _⟩
              have := V_lt_top j ys xs lay (fun i hi => (HS.out i (by omega)).symm) (by rw [HX.out, HY.out]; exact h)
              rw [HV.out]; unfold cmpN; rw [if_neg (by omega), if_pos h, if_neg (by omega), if_pos this]
  · have hl2 : ((xs.length : Int) != (ys.length : Int)) = true := by simp; omega
    go_wp2_with fail
    refine (compare_int xs.length ys.length _).mono ?_
    rintro e w' ⟨rfl, rfl⟩
    go_wp2
    go_ret
    refine ⟨ret_i64 ?_, Below.refl _ _⟩
    rw [HV.out]
    unfold cmpN
    rcases Nat.lt_or_gt_of_ne hlen with h | h
    · have := V_lt_of_length la.lim tb h; simp [h, this]
    · have := V_lt_of_length lb.lim ta h; rw [if_neg (by omega), if_pos h, if_neg (by omega), if_pos this]

end Go.Proofs.YtefdkajjdaplbabDoor
