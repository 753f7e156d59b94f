/-
  nat.Cmp: the walk.
  foundryref01.Cmp: the walk.
  nat.Add: the walk.
  A block of limbs that is known whole, and what a store does to it.
  Values by places: the sum of f i times 2^(32 i), for the products and quotients that are reckoned in place.
-/
import Derived.Test.YtchdoakoelfenaaGreatZX6
import Derived.BigQuiet
import Derived.Deep.QuietTactic
import Derived.WalkSmall
import Derived.Outline
namespace Go.Proofs.YtchdoakoelfenaaGreat
open Go.RowKit
set_option linter.unusedSimpArgs false
set_option linter.unusedVariables false

/-- Less: -1; the same: 0; more: 1. -/
def cmpN (x y : Nat) : Int := if x < y then -1 else if y < x then 1 else 0

theorem ret_i64 {a b : Int} (h : a = b) : Ending.returned (.int .i64 a) = .returned (.int .i64 b) := by rw [h]
theorem ret_bool {a b : Bool} (h : a = b) : Ending.returned (.bool a) = .returned (.bool b) := by rw [h]

set_option maxHeartbeats 400000 in
set_option maxRecDepth 100000 in
theorem compare_int (x y : Nat) (w : World) :
    Calls Tryz.prog 119 #[.int .i64 (x : Int), .int .i64 (y : Int)] w fun e w' => e = .returned (.int .i64 (cmpN x y)) ∧ w = w' := by
  rcases Nat.lt_trichotomy x y with h | rfl | h
  · have h1 : (x : Int) < (y : Int) := by omega
    go_enter Tryz.func119, Tryz.ntmps119
    go_wp2
    go_ret
    exact ⟨ret_i64 (by simp [cmpN, h]), rfl⟩
  · have h1 : ¬ (x : Int) < (x : Int) := by omega
    go_enter Tryz.func119, Tryz.ntmps119
    go_wp2
    go_ret
    exact ⟨ret_i64 (by simp [cmpN]), rfl⟩
  · have h1 : (y : Int) < (x : Int) := by omega
    have h2 : ¬ (x : Int) < (y : Int) := by omega
    go_enter Tryz.func119, Tryz.ntmps119
    go_wp2
    go_ret
    exact ⟨ret_i64 (by simp [cmpN, h]; omega), rfl⟩

set_option maxHeartbeats 400000 in
set_option maxRecDepth 100000 in
theorem compare_u32 (x y : Nat) (w : World) :
    Calls Tryz.prog 120 #[.int .u32 (x : Int), .int .u32 (y : Int)] w fun e w' => e = .returned (.int .i64 (cmpN x y)) ∧ w = w' := by
  rcases Nat.lt_trichotomy x y with h | rfl | h
  · have h1 : (x : Int) < (y : Int) := by omega
    go_enter Tryz.func120, Tryz.ntmps120
    go_wp2
    go_ret
    exact ⟨ret_i64 (by simp [cmpN, h]), rfl⟩
  · have h1 : ¬ (x : Int) < (x : Int) := by omega
    go_enter Tryz.func120, Tryz.ntmps120
    go_wp2
    go_ret
    exact ⟨ret_i64 (by simp [cmpN]), rfl⟩
  · have h1 : (y : Int) < (x : Int) := by omega
    have h2 : ¬ (x : Int) < (y : Int) := by omega
    go_enter Tryz.func120, Tryz.ntmps120
    go_wp2
    go_ret
    exact ⟨ret_i64 (by simp [cmpN, h]; omega), rfl⟩

theorem compare_u32q (x y : Nat) (w : World) :
    Calls Tryz.prog 120 #[.int .u32 (x : Int), .int .u32 (y : Int)] w fun e w' => e = .returned (.int .i64 (cmpN x y)) ∧ w' = w :=
  (compare_u32 x y w).mono fun _ _ h => ⟨h.1, h.2.symm⟩

theorem Rd.at {w : World} {b off cap : Nat} {xs : List Nat} (h : Rd w (some ⟨b, off, none⟩) cap xs) (i : Nat) (hi : i < xs.length) : w.cell? ⟨b, off + i, none⟩ = some (.int .u32 (xs.getD i 0 : Nat)) := by
  rcases h.2.2.2.2 with rfl | ⟨b', off', e, hb, hc⟩
  · simp at hi
  · simp at e; obtain ⟨rfl, rfl⟩ := e; exact hc i hi
theorem Rd.lt {w : World} {b off cap : Nat} {xs : List Nat} (h : Rd w (some ⟨b, off, none⟩) cap xs) (hn : xs ≠ []) : b < w.heap.size := by
  rcases h.2.2.2.2 with rfl | ⟨b', off', e, hb, hc⟩
  · exact absurd rfl hn
  · simp at e; obtain ⟨rfl, rfl⟩ := e; exact hb

set_option maxHeartbeats 800000 in
set_option maxRecDepth 100000 in
theorem cmp_any (a : Option Addr) (cap : Nat) (xs : List Nat) (b : Option Addr) (cbp : Nat) (ys : List Nat) (w : World) (ha : Rd w a cap xs) (hb : Rd w b cbp ys) :
    Calls Tryz.prog 107 #[.slice a xs.length cap, .slice b ys.length cbp] w fun e w' => e = .returned (.int .i64 (cmpN (V xs) (V ys))) ∧ Below w.heap.size w w' := by
  have la := ha.strip
  have lb := hb.strip
  have hbd := la.le
  have hbd2 := la.cap
  have hbe := lb.le
  have hbe2 := lb.cap
  unfold maxLen at hbd2 hbe2
  have ea := V_strip xs
  have eb := V_strip ys
  have ta := tr_strip xs
  have tb := tr_strip ys
  have HV : Hid (cmpN (V xs) (V ys) = cmpN (V (strip xs)) (V (strip ys))) := by show _ = _; rw [ea, eb]
  clear ea eb
  go_enter Tryz.func107, Tryz.ntmps107
  go_wp2_with fail
  refine (sig_any a cap xs _ ha).mono ?_
  rintro e w' ⟨rfl, rfl⟩
  go_wp2_with fail
  refine (sig_any b cbp ys _ hb).mono ?_
  rintro e w' ⟨rfl, rfl⟩
  clear ha hb
  generalize strip xs = xs at *
  generalize strip ys = ys at *
  by_cases hlen : xs.length = ys.length
  · have hl2 : ((xs.length : Int) != (ys.length : Int)) = false := by simp; omega
    rcases la.2.2.2.2 with rfl | ⟨ba, oa, rfl, hla, hca⟩
    · have hy : ys = [] := List.length_eq_zero_iff.1 hlen.symm
      subst hy
      go_wp2_with fail
      go_loop [5] (fun i => i = .int .i64 (-1)) (fun i => (intOf i).toNat)
      case atStart => rfl
      case round =>
        subst hrel
        go_wp2
        go_ret
        exact ⟨ret_i64 (by rw [HV.out]; rfl), Below.refl _ _⟩
    · rcases lb.2.2.2.2 with rfl | ⟨bb, ob, rfl, hlb, hcb⟩
      · simp at hlen
        subst hlen
        go_wp2_with fail
        go_loop [5] (fun i => i = .int .i64 (-1)) (fun i => (intOf i).toNat)
        case atStart => rfl
        case round =>
          subst hrel
          go_wp2
          go_ret
          exact ⟨ret_i64 (by rw [HV.out]; rfl), Below.refl _ _⟩
      · have lax := la.lim
        have lay := lb.lim
        clear la lb
        go_wp2_with fail
        go_loopw [5] (fun i wr => ∃ (k : Nat) (m : Int), k ≤ ys.length ∧ m = (k : Int) - 1 ∧ i = .int .i64 m ∧ (∀ j, k ≤ j → xs.getD j 0 = ys.getD j 0) ∧ Below w.heap.size w wr) (fun i _ => (intOf i + 1).toNat)
        case atStart => exact ⟨ys.length, _, Nat.le_refl _, rfl, rfl, fun j hj => by simp [List.getD, List.getElem?_eq_none (show ys.length ≤ j from hj), List.getElem?_eq_none (show xs.length ≤ j by omega)], Below.refl _ _⟩
        case round =>
          obtain ⟨k, m, hk, hm, rfl, hst, hnx⟩ := hrel
          have HS : Hid (∀ j, k ≤ j → xs.getD j 0 = ys.getD j 0) := hst
          clear hst
          by_cases hk0 : k = 0
          · subst hk0
            obtain rfl : m = -1 := by omega
            clear hm
            go_wp2
            go_ret
            refine ⟨ret_i64 ?_, hnx⟩
            rw [HV.out, V_congr xs ys (fun j => HS.out j (Nat.zero_le _))]
            simp [cmpN]
          · obtain ⟨j, rfl⟩ : ∃ j, k = j + 1 := ⟨k - 1, by omega⟩
            obtain rfl : m = (j : Int) := by omega
            clear hm
            have gx := (hnx.cell (p := ⟨ba, oa + j, none⟩) hla).trans (hca j (by omega))
            have gy := (hnx.cell (p := ⟨bb, ob + j, none⟩) hlb).trans (hcb j (by omega))
            obtain ⟨x, hx⟩ : ∃ x, xs.getD j 0 = x := ⟨_, rfl⟩
            obtain ⟨y, hy⟩ : ∃ y, ys.getD j 0 = y := ⟨_, rfl⟩
            rw [hx] at gx
            rw [hy] at gy
            have HX : Hid (xs.getD j 0 = x) := hx
            have HY : Hid (ys.getD j 0 = y) := hy
            clear hx hy hca hcb
            have b1 : (0 : Int) ≤ (j : Int) := by omega
            have b2 : (j : Int) < (ys.length : Int) := by omega
            rcases Nat.lt_trichotomy x y with h | rfl | h
            · have hne : ((x : Int) != (y : Int)) = true := by simp; omega
              go_wp2_with fail
              go_quiet (fail)
              go_wp2_with fail
              have gx2 : (wr.drewN nq).cell? ⟨ba, oa + j, none⟩ = some (.int .u32 (x : Int)) := gx
              have gy2 : (wr.drewN nq).cell? ⟨bb, ob + j, none⟩ = some (.int .u32 (y : Int)) := gy
              have hnx2 := below_drewN hnx nq
              clear gx gy
              generalize wr.drewN nq = wq at gx2 gy2 hnx2 ⊢
              go_quiet ((go_at_call 120; exact Calls.quiet_of_same (compare_u32q _ _ _)))
              go_wp2
              go_ret
              refine ⟨ret_i64 ?_, below_drewN hnx2 _⟩
              have := V_lt_top j xs ys lax (fun i hi => HS.out i (by omega)) (by rw [HX.out, HY.out]; exact h)
              rw [HV.out]; simp [cmpN, h, this]
            · have hne : ((x : Int) != (x : Int)) = false := by simp
              go_wp2_with fail
              go_quiet (fail)
              go_wp2
              go_roundw
              case rel =>
                refine ⟨j, _, by omega, rfl, by go_num, fun i hi => ?_, below_drewN hnx _⟩
                rcases Nat.lt_or_eq_of_le hi with h | rfl
                · exact HS.out i (by omega)
                · rw [HX.out, HY.out]
              case measure => simp [intOf]
            · have hne : ((x : Int) != (y : Int)) = true := by simp; omega
              go_wp2_with fail
              go_quiet (fail)
              go_wp2_with fail
              have gx2 : (wr.drewN nq).cell? ⟨ba, oa + j, none⟩ = some (.int .u32 (x : Int)) := gx
              have gy2 : (wr.drewN nq).cell? ⟨bb, ob + j, none⟩ = some (.int .u32 (y : Int)) := gy
              have hnx2 := below_drewN hnx nq
              clear gx gy
              generalize wr.drewN nq = wq at gx2 gy2 hnx2 ⊢
              go_quiet ((go_at_call 120; exact Calls.quiet_of_same (compare_u32q _ _ _)))
              go_wp2
              go_ret
              refine ⟨ret_i64 ?_, below_drewN hnx2 _⟩
              have := V_lt_top j ys xs lay (fun i hi => (HS.out i (by omega)).symm) (by rw [HX.out, HY.out]; exact h)
              rw [HV.out]; unfold cmpN; rw [if_neg (by omega), if_pos h, if_neg (by omega), if_pos this]
  · have hl2 : ((xs.length : Int) != (ys.length : Int)) = true := by simp; omega
    go_wp2_with fail
    refine (compare_int xs.length ys.length _).mono ?_
    rintro e w' ⟨rfl, rfl⟩
    go_wp2
    go_ret
    refine ⟨ret_i64 ?_, Below.refl _ _⟩
    rw [HV.out]
    unfold cmpN
    rcases Nat.lt_or_gt_of_ne hlen with h | h
    · have := V_lt_of_length la.lim tb h; simp [h, this]
    · have := V_lt_of_length lb.lim ta h; rw [if_neg (by omega), if_pos h, if_neg (by omega), if_pos this]

end Go.Proofs.YtchdoakoelfenaaGreat

namespace Go.Proofs.YtchdoakoelfenaaGreat
open Go.RowKit
set_option linter.unusedSimpArgs false
set_option linter.unusedVariables false

theorem getD_past (xs : List Nat) (j : Nat) (h : xs.length ≤ j) : xs.getD j 0 = 0 := by simp [List.getD, List.getElem?_eq_none h]

/-- A slice of limbs, its address written out where there is a limb. -/
theorem Rd.form {w : World} {a : Option Addr} {cap : Nat} {xs : List Nat} (h : Rd w a cap xs) :
    xs = [] ∨ ∃ b off, a = some ⟨b, off, none⟩ ∧ b < w.heap.size ∧ ∀ i, i < xs.length → w.cell? ⟨b, off + i, none⟩ = some (.int .u32 (xs.getD i 0 : Nat)) := h.2.2.2.2

set_option maxHeartbeats 1000000 in
set_option maxRecDepth 100000 in
theorem rcmp_any (a : Option Addr) (cap : Nat) (xs : List Nat) (b : Option Addr) (cbp : Nat) (ys : List Nat) (w : World) (ha : Rd w a cap xs) (hb : Rd w b cbp ys) :
    Calls Tryz.prog 79 #[.slice a xs.length cap, .slice b ys.length cbp] w fun e w' => e = .returned (.int .i64 (cmpN (V xs) (V ys))) ∧ w = w' := by
  have lx := ha.lim
  have ly := hb.lim
  have k1 := ha.le
  have k2 := ha.cap
  have k3 := hb.le
  have k4 := hb.cap
  unfold maxLen at k2 k4
  have fa := ha.form
  have fb := hb.form
  clear ha hb
  obtain ⟨n, hn⟩ : ∃ n, xs.length = n := ⟨_, rfl⟩
  obtain ⟨m, hm⟩ : ∃ m, ys.length = m := ⟨_, rfl⟩
  have HN : Hid (xs.length = n) := hn
  have HM : Hid (ys.length = m) := hm
  rw [hn] at k1 fa ⊢
  rw [hm] at k3 fb ⊢
  clear hn hm
  have HA : Hid (xs = [] ∨ ∃ b off, a = some ⟨b, off, none⟩ ∧ b < w.heap.size ∧ ∀ i, i < n → w.cell? ⟨b, off + i, none⟩ = some (.int .u32 (xs.getD i 0 : Nat))) := fa
  have HB : Hid (ys = [] ∨ ∃ b' off, b = some ⟨b', off, none⟩ ∧ b' < w.heap.size ∧ ∀ i, i < m → w.cell? ⟨b', off + i, none⟩ = some (.int .u32 (ys.getD i 0 : Nat))) := fb
  clear fa fb
  go_enter Tryz.func79, Tryz.ntmps79
  go_wp2
  all_goals
    go_loop [5] (fun i => ∃ (k : Nat) (q : Int), k ≤ max n m ∧ q = (k : Int) - 1 ∧ i = .int .i64 q ∧ (∀ j, k ≤ j → xs.getD j 0 = ys.getD j 0)) (fun i => (intOf i + 1).toNat)
    case atStart =>
      refine ⟨max n m, _, Nat.le_refl _, ?_, rfl, fun j hj => ?_⟩
      · omega
      · rw [getD_past xs j (by rw [HN.out]; omega), getD_past ys j (by rw [HM.out]; omega)]
    case round =>
      obtain ⟨k, q, hk, hq, rfl, hst⟩ := hrel
      have HS : Hid (∀ j, k ≤ j → xs.getD j 0 = ys.getD j 0) := hst
      clear hst
      by_cases hk0 : k = 0
      · subst hk0
        obtain rfl : q = -1 := by omega
        clear hq
        go_wp2
        go_ret
        refine ⟨ret_i64 ?_, rfl⟩
        rw [V_congr xs ys (fun j => HS.out j (Nat.zero_le _))]
        simp [cmpN]
      · obtain ⟨j, rfl⟩ : ∃ j, k = j + 1 := ⟨k - 1, by omega⟩
        obtain rfl : q = (j : Int) := by omega
        clear hq
        obtain ⟨x, hx⟩ : ∃ x, xs.getD j 0 = x := ⟨_, rfl⟩
        obtain ⟨y, hy⟩ : ∃ y, ys.getD j 0 = y := ⟨_, rfl⟩
        have HX : Hid (xs.getD j 0 = x) := hx
        have HY : Hid (ys.getD j 0 = y) := hy
        have fin_lt : x < y → cmpN (V xs) (V ys) = -1 := fun h => by
          have := V_lt_top j xs ys lx (fun i hi => HS.out i (by omega)) (by rw [hx, hy]; exact h)
          simp [cmpN, this]
        have fin_gt : y < x → cmpN (V xs) (V ys) = 1 := fun h => by
          have := V_lt_top j ys xs ly (fun i hi => (HS.out i (by omega)).symm) (by rw [hx, hy]; exact h)
          unfold cmpN; rw [if_neg (by omega), if_pos this]
        have hstep : x = y → ∀ i, j ≤ i → xs.getD i 0 = ys.getD i 0 := fun h i hi => by
          rcases Nat.lt_or_eq_of_le hi with h1 | rfl
          · exact HS.out i (by omega)
          · rw [hx, hy, h]
        have HLT : Hid (x < y → cmpN (V xs) (V ys) = -1) := fin_lt
        have HGT : Hid (y < x → cmpN (V xs) (V ys) = 1) := fin_gt
        have HST : Hid (x = y → ∀ i, j ≤ i → xs.getD i 0 = ys.getD i 0) := hstep
        clear fin_lt fin_gt hstep hx hy
        have ca : j < n → ∃ b off, a = some ⟨b, off, none⟩ ∧ w.cell? ⟨b, off + j, none⟩ = some (.int .u32 (x : Int)) := fun hj => by
          rcases HA.out with h0 | ⟨b, off, h1, h2, h3⟩
          · have := HN.out; rw [h0] at this; simp at this; omega
          · exact ⟨b, off, h1, by rw [h3 j hj, HX.out]⟩
        have cb : j < m → ∃ b' off, b = some ⟨b', off, none⟩ ∧ w.cell? ⟨b', off + j, none⟩ = some (.int .u32 (y : Int)) := fun hj => by
          rcases HB.out with h0 | ⟨b, off, h1, h2, h3⟩
          · have := HM.out; rw [h0] at this; simp at this; omega
          · exact ⟨b, off, h1, by rw [h3 j hj, HY.out]⟩
        have xa : n ≤ j → x = 0 := fun hj => by rw [← HX.out]; exact getD_past xs j (by rw [HN.out]; exact hj)
        have ya : m ≤ j → y = 0 := fun hj => by rw [← HY.out]; exact getD_past ys j (by rw [HM.out]; exact hj)
        clear HA HB HX HY HS
        by_cases hj1 : j < n
        all_goals by_cases hj2 : j < m
        · obtain ⟨b1, o1, rfl, c1⟩ := ca hj1
          obtain ⟨b2, o2, rfl, c2⟩ := cb hj2
          clear ca cb xa ya
          rcases Nat.lt_trichotomy x y with h | h | h
          all_goals try (exfalso; omega)
          all_goals go_wp2
          all_goals first
            | (go_ret; exact ⟨ret_i64 (HLT.out h).symm, rfl⟩)
            | (go_ret; exact ⟨ret_i64 (HGT.out h).symm, rfl⟩)
            | (go_round
               case rel => exact ⟨j, _, by omega, rfl, by go_num, HST.out h⟩
               case measure => simp [intOf])
        · obtain ⟨b1, o1, rfl, c1⟩ := ca hj1
          have y0 := ya (by omega)
          subst y0
          clear ca cb xa ya
          rcases Nat.lt_trichotomy x 0 with h | h | h
          all_goals try (exfalso; omega)
          all_goals go_wp2
          all_goals first
            | (go_ret; exact ⟨ret_i64 (HLT.out h).symm, rfl⟩)
            | (go_ret; exact ⟨ret_i64 (HGT.out h).symm, rfl⟩)
            | (go_round
               case rel => exact ⟨j, _, by omega, rfl, by go_num, HST.out h⟩
               case measure => simp [intOf])
        · obtain ⟨b2, o2, rfl, c2⟩ := cb hj2
          have x0 := xa (by omega)
          subst x0
          clear ca cb xa ya
          rcases Nat.lt_trichotomy 0 y with h | h | h
          all_goals try (exfalso; omega)
          all_goals go_wp2
          all_goals first
            | (go_ret; exact ⟨ret_i64 (HLT.out h).symm, rfl⟩)
            | (go_ret; exact ⟨ret_i64 (HGT.out h).symm, rfl⟩)
            | (go_round
               case rel => exact ⟨j, _, by omega, rfl, by go_num, HST.out h⟩
               case measure => simp [intOf])
        · omega

end Go.Proofs.YtchdoakoelfenaaGreat

namespace Go.Proofs.YtchdoakoelfenaaGreat
open Go.RowKit
set_option linter.unusedSimpArgs false
set_option linter.unusedVariables false

theorem cell_new1 (w : World) (e : TypeId) (q : Int) (z : Nat) (h : q = (z : Int)) : (w.alloc (.cells #[.int .u32 q] e)).cell? ⟨w.heap.size, 0, none⟩ = some (.int .u32 (z : Int)) := by
  subst h
  rw [cell_of_row _ w.heap.size 0 #[Value.int .u32 (z : Int)] e (0, 0) (heap_alloc_new w _)]
  rfl

/-- One round of an addition. -/
theorem add_step {zs L S : List Nat} {k cy x y s : Nat} (hz : zs.length = k) (he : V zs + 4294967296 ^ k * cy = V (L.take k) + V (S.take k)) (hx : L.getD k 0 = x) (hy : S.getD k 0 = y) (hs : s = x + cy + y) :
    V (zs ++ [s % 4294967296]) + 4294967296 ^ (k + 1) * (s / 4294967296) = V (L.take (k + 1)) + V (S.take (k + 1)) := by
  rw [V_snoc, hz, V_take_succ, V_take_succ, hx, hy, Nat.pow_succ]
  have hd := Nat.mod_add_div s 4294967296
  generalize s % 4294967296 = r at hd ⊢
  generalize s / 4294967296 = d at hd ⊢
  subst hs
  generalize 4294967296 ^ k = p at he ⊢
  generalize V zs = o at he ⊢
  generalize V (L.take k) = A at he ⊢
  generalize V (S.take k) = C at he ⊢
  grind

set_option maxHeartbeats 1600000 in
set_option maxRecDepth 100000 in
theorem add_any (a : Option Addr) (cap : Nat) (xs : List Nat) (b : Option Addr) (cbp : Nat) (ys : List Nat) (w : World) (ha : Rd w a cap xs) (hb : Rd w b cbp ys) (hla : xs.length ≤ 500000000) (hlb : ys.length ≤ 500000000) :
    Calls Tryz.prog 105 #[.slice a xs.length cap, .slice b ys.length cbp] w fun e w' =>
      ∃ a' cap' zs, e = .returned (.slice a' zs.length cap') ∧ V zs = V xs + V ys ∧ Tr zs ∧ Res 136 w.heap.size w' a' cap' zs ∧ Below w.heap.size w w' := by
  obtain ⟨i0, hi, hz0, hz1, hz2⟩ := info_parts info_limb
  have Xr := ha.strip
  have Yr := hb.strip
  have lx := strip_length_le xs
  have ly := strip_length_le ys
  go_enter Tryz.func105, Tryz.ntmps105
  go_wp2_with fail
  refine (sig_any a cap xs _ ha).mono ?_
  rintro e w' ⟨rfl, rfl⟩
  go_wp2_with fail
  refine (sig_any b cbp ys _ hb).mono ?_
  rintro e w' ⟨rfl, rfl⟩
  clear ha hb
  generalize hX : strip xs = X at Xr lx ⊢
  generalize hY : strip ys = Y at Yr ly ⊢
  by_cases hlt : X.length < Y.length
  · have hL2 := Yr.le
    have hL3 := Yr.cap
    unfold maxLen at hL3
    have lL := Yr.lim
    have lS := Xr.lim
    have fL := Yr.fm
    have fS := Xr.fm
    have HV : Hid (V Y + V X = V xs + V ys) := by show _ = _; rw [← hY, ← hX, V_strip, V_strip]; omega
    clear Yr Xr
    go_wp2_with (at_make; refine wpList_make_own _ rfl _ _ 107 rfl w.heap.size 136 i0 (.int .u32 0) 1 Tryz.underlying107 hi hz0 hz1 _ _ _ (Y.length + 1) rfl rfl (by omega) (by rw [hz2]; omega) (by unfold maxLen; omega) (Nat.le_refl _) ?_)
    intro u0 hown0 hgrow0
    have hb0 : Below w.heap.size w u0 := (Below.refl _ _).grown hgrow0 (Nat.le_refl _) (fun k h => by cases h)
    go_wp2
    go_loopw [5, 6, 27] (fun out c i wr => ∃ (k : Nat) (zs : List Nat) (cy : Nat), k ≤ Y.length ∧ i = .int .i64 k ∧ c = .int .u64 cy ∧ cy ≤ 1 ∧ zs.length = k ∧ Lim zs ∧ V zs + 4294967296 ^ k * cy = V (Y.take k) + V (X.take k) ∧ wr.ownsRow w.heap.size 136 1 out k (zs.map U) ∧ Below w.heap.size w wr) (fun _ _ i _ => Y.length - (intOf i).toNat)
    case atStart => exact ⟨0, [], 0, Nat.zero_le _, rfl, rfl, Nat.zero_le _, rfl, Lim.nil, by simp [V], hown0, hb0⟩
    case round =>
      obtain ⟨k, zs, cy, hk, rfl, rfl, hcy, hzl, lz, heq, hown, hnx⟩ := hrel
      have HE : Hid (V zs + 4294967296 ^ k * cy = V (Y.take k) + V (X.take k)) := heq
      have HZ : Hid (zs.length = k) := hzl
      have hsz := hnx.size
      clear heq hzl
      by_cases hkn : k < Y.length
      · obtain ⟨bl, ol, rfl, _, hcl⟩ := fL.at hnx k hkn
        obtain ⟨x, hx⟩ : ∃ x, Y.getD k 0 = x := ⟨_, rfl⟩
        obtain ⟨y, hy⟩ : ∃ y, X.getD k 0 = y := ⟨_, rfl⟩
        have bx : x < 4294967296 := by rw [← hx]; exact lL.getD k
        have byy : y < 4294967296 := by rw [← hy]; exact lS.getD k
        rw [hx] at hcl
        have HX : Hid (Y.getD k 0 = x) := hx
        have HY : Hid (X.getD k 0 = y) := hy
        clear hx hy
        by_cases hkm : k < X.length
        · obtain ⟨bs, os, rfl, _, hcs⟩ := fS.at hnx k hkm
          rw [HY.out] at hcs
          go_wp2_with (at_builtin; refine wpList_append_one rfl _ _ 107 rfl w.heap.size 136 i0 Tryz.underlying107 hi hz0 hz1 hz2 _ k zs rfl (hown.alloc _) wr.heap.size ((x + cy + y) % 4294967296) rfl (cell_new1 _ _ _ _ (by omega)) (by omega) (by simp; omega) ?_)
          intro v' w1 hown1 hgrow1
          have hb1 : Below w.heap.size w w1 := (hnx.alloc hsz _).grown hgrow1 (by simp; omega) (fun k hk => (hown.lt k hk).1)
          clear hcl hcs hown
          go_wp2
          go_roundw
          case rel =>
            exact ⟨k + 1, zs ++ [(x + cy + y) % 4294967296], (x + cy + y) / 4294967296, by omega, by go_num, by go_num, by omega, by simp [HZ.out], lz.snoc (by omega), add_step HZ.out HE.out HX.out HY.out rfl, own_snoc hown1, hb1⟩
          case measure => simp [intOf]; omega
        · have y0 : y = 0 := by rw [← HY.out]; exact getD_past _ _ (by omega)
          subst y0
          go_wp2_with (at_builtin; refine wpList_append_one rfl _ _ 107 rfl w.heap.size 136 i0 Tryz.underlying107 hi hz0 hz1 hz2 _ k zs rfl (hown.alloc _) wr.heap.size ((x + cy) % 4294967296) rfl (cell_new1 _ _ _ _ (by omega)) (by omega) (by simp; omega) ?_)
          intro v' w1 hown1 hgrow1
          have hb1 : Below w.heap.size w w1 := (hnx.alloc hsz _).grown hgrow1 (by simp; omega) (fun k hk => (hown.lt k hk).1)
          clear hcl hown
          go_wp2
          go_roundw
          case rel =>
            exact ⟨k + 1, zs ++ [(x + cy) % 4294967296], (x + cy) / 4294967296, by omega, by go_num, by go_num, by omega, by simp [HZ.out], lz.snoc (by omega), add_step HZ.out HE.out HX.out HY.out (by omega), own_snoc hown1, hb1⟩
          case measure => simp [intOf]; omega
      · obtain rfl : k = Y.length := by omega
        go_wp2_with (at_builtin; refine wpList_append_one rfl _ _ 107 rfl w.heap.size 136 i0 Tryz.underlying107 hi hz0 hz1 hz2 _ _ zs rfl (hown.alloc _) wr.heap.size cy rfl (cell_new1 _ _ _ _ (by omega)) (by omega) (by simp; omega) ?_)
        intro v' w1 hown1 hgrow1
        have hb1 : Below w.heap.size w w1 := (hnx.alloc hsz _).grown hgrow1 (by simp; omega) (fun k hk => (hown.lt k hk).1)
        have o1 := own_snoc hown1
        have lts := lz.snoc (show cy < 4294967296 by omega)
        obtain ⟨ts, hts⟩ : ∃ ts, zs ++ [cy] = ts := ⟨_, rfl⟩
        have htl : ts.length ≤ 1000000000 := by rw [← hts]; simp [HZ.out]; omega
        rw [hts] at o1 lts
        have HT : Hid (zs ++ [cy] = ts) := hts
        obtain ⟨a', cap', rfl, hres⟩ := Res.of lts o1
        clear hown1 hown hts o1
        go_wp2_with fail
        refine (trim_any _ _ _ _ hres.rd htl).mono ?_
        rintro e w2 ⟨a2, c2, rfl, hr2, hb2⟩
        go_wp2
        go_ret
        refine ⟨a2, c2, _, rfl, ?_, tr_strip _, hr2.mono hb1.size, hb1.trans (hb2.mono hb1.size)⟩
        have h1 := HE.out
        rw [List.take_length, List.take_of_length_le (by omega)] at h1
        rw [V_strip, ← HT.out, V_snoc, HZ.out, h1, HV.out]
  · have hL2 := Xr.le
    have hL3 := Xr.cap
    unfold maxLen at hL3
    have lL := Xr.lim
    have lS := Yr.lim
    have fL := Xr.fm
    have fS := Yr.fm
    have HV : Hid (V X + V Y = V xs + V ys) := by show _ = _; rw [← hX, ← hY, V_strip, V_strip]
    clear Xr Yr
    go_wp2_with (at_make; refine wpList_make_own _ rfl _ _ 107 rfl w.heap.size 136 i0 (.int .u32 0) 1 Tryz.underlying107 hi hz0 hz1 _ _ _ (X.length + 1) rfl rfl (by omega) (by rw [hz2]; omega) (by unfold maxLen; omega) (Nat.le_refl _) ?_)
    intro u0 hown0 hgrow0
    have hb0 : Below w.heap.size w u0 := (Below.refl _ _).grown hgrow0 (Nat.le_refl _) (fun k h => by cases h)
    go_wp2
    go_loopw [5, 6, 27] (fun out c i wr => ∃ (k : Nat) (zs : List Nat) (cy : Nat), k ≤ X.length ∧ i = .int .i64 k ∧ c = .int .u64 cy ∧ cy ≤ 1 ∧ zs.length = k ∧ Lim zs ∧ V zs + 4294967296 ^ k * cy = V (X.take k) + V (Y.take k) ∧ wr.ownsRow w.heap.size 136 1 out k (zs.map U) ∧ Below w.heap.size w wr) (fun _ _ i _ => X.length - (intOf i).toNat)
    case atStart => exact ⟨0, [], 0, Nat.zero_le _, rfl, rfl, Nat.zero_le _, rfl, Lim.nil, by simp [V], hown0, hb0⟩
    case round =>
      obtain ⟨k, zs, cy, hk, rfl, rfl, hcy, hzl, lz, heq, hown, hnx⟩ := hrel
      have HE : Hid (V zs + 4294967296 ^ k * cy = V (X.take k) + V (Y.take k)) := heq
      have HZ : Hid (zs.length = k) := hzl
      have hsz := hnx.size
      clear heq hzl
      by_cases hkn : k < X.length
      · obtain ⟨bl, ol, rfl, _, hcl⟩ := fL.at hnx k hkn
        obtain ⟨x, hx⟩ : ∃ x, X.getD k 0 = x := ⟨_, rfl⟩
        obtain ⟨y, hy⟩ : ∃ y, Y.getD k 0 = y := ⟨_, rfl⟩
        have bx : x < 4294967296 := by rw [← hx]; exact lL.getD k
        have byy : y < 4294967296 := by rw [← hy]; exact lS.getD k
        rw [hx] at hcl
        have HX : Hid (X.getD k 0 = x) := hx
        have HY : Hid (Y.getD k 0 = y) := hy
        clear hx hy
        by_cases hkm : k < Y.length
        · obtain ⟨bs, os, rfl, _, hcs⟩ := fS.at hnx k hkm
          rw [HY.out] at hcs
          go_wp2_with (at_builtin; refine wpList_append_one rfl _ _ 107 rfl w.heap.size 136 i0 Tryz.underlying107 hi hz0 hz1 hz2 _ k zs rfl (hown.alloc _) wr.heap.size ((x + cy + y) % 4294967296) rfl (cell_new1 _ _ _ _ (by omega)) (by omega) (by simp; omega) ?_)
          intro v' w1 hown1 hgrow1
          have hb1 : Below w.heap.size w w1 := (hnx.alloc hsz _).grown hgrow1 (by simp; omega) (fun k hk => (hown.lt k hk).1)
          clear hcl hcs hown
          go_wp2
          go_roundw
          case rel =>
            exact ⟨k + 1, zs ++ [(x + cy + y) % 4294967296], (x + cy + y) / 4294967296, by omega, by go_num, by go_num, by omega, by simp [HZ.out], lz.snoc (by omega), add_step HZ.out HE.out HX.out HY.out rfl, own_snoc hown1, hb1⟩
          case measure => simp [intOf]; omega
        · have y0 : y = 0 := by rw [← HY.out]; exact getD_past _ _ (by omega)
          subst y0
          go_wp2_with (at_builtin; refine wpList_append_one rfl _ _ 107 rfl w.heap.size 136 i0 Tryz.underlying107 hi hz0 hz1 hz2 _ k zs rfl (hown.alloc _) wr.heap.size ((x + cy) % 4294967296) rfl (cell_new1 _ _ _ _ (by omega)) (by omega) (by simp; omega) ?_)
          intro v' w1 hown1 hgrow1
          have hb1 : Below w.heap.size w w1 := (hnx.alloc hsz _).grown hgrow1 (by simp; omega) (fun k hk => (hown.lt k hk).1)
          clear hcl hown
          go_wp2
          go_roundw
          case rel =>
            exact ⟨k + 1, zs ++ [(x + cy) % 4294967296], (x + cy) / 4294967296, by omega, by go_num, by go_num, by omega, by simp [HZ.out], lz.snoc (by omega), add_step HZ.out HE.out HX.out HY.out (by omega), own_snoc hown1, hb1⟩
          case measure => simp [intOf]; omega
      · obtain rfl : k = X.length := by omega
        go_wp2_with (at_builtin; refine wpList_append_one rfl _ _ 107 rfl w.heap.size 136 i0 Tryz.underlying107 hi hz0 hz1 hz2 _ _ zs rfl (hown.alloc _) wr.heap.size cy rfl (cell_new1 _ _ _ _ (by omega)) (by omega) (by simp; omega) ?_)
        intro v' w1 hown1 hgrow1
        have hb1 : Below w.heap.size w w1 := (hnx.alloc hsz _).grown hgrow1 (by simp; omega) (fun k hk => (hown.lt k hk).1)
        have o1 := own_snoc hown1
        have lts := lz.snoc (show cy < 4294967296 by omega)
        obtain ⟨ts, hts⟩ : ∃ ts, zs ++ [cy] = ts := ⟨_, rfl⟩
        have htl : ts.length ≤ 1000000000 := by rw [← hts]; simp [HZ.out]; omega
        rw [hts] at o1 lts
        have HT : Hid (zs ++ [cy] = ts) := hts
        obtain ⟨a', cap', rfl, hres⟩ := Res.of lts o1
        clear hown1 hown hts o1
        go_wp2_with fail
        refine (trim_any _ _ _ _ hres.rd htl).mono ?_
        rintro e w2 ⟨a2, c2, rfl, hr2, hb2⟩
        go_wp2
        go_ret
        refine ⟨a2, c2, _, rfl, ?_, tr_strip _, hr2.mono hb1.size, hb1.trans (hb2.mono hb1.size)⟩
        have h1 := HE.out
        rw [List.take_length, List.take_of_length_le (by omega)] at h1
        rw [V_strip, ← HT.out, V_snoc, HZ.out, h1, HV.out]

end Go.Proofs.YtchdoakoelfenaaGreat

namespace Go.Proofs.YtchdoakoelfenaaGreat
open Go.RowKit
set_option linter.unusedSimpArgs false
set_option linter.unusedVariables false

/-- Block g begins with the limbs zs, and may be written. -/
def Blk (e : TypeId) (w : World) (g : Nat) (zs : List Nat) : Prop :=
  ∃ cur : Array Value, w.heap[g]? = some (.cells cur e (0, 0)) ∧ zs.length ≤ cur.size ∧ cur.toList.take zs.length = zs.map U

theorem Blk.cell {e : TypeId} {w : World} {g : Nat} {zs : List Nat} (h : Blk e w g zs) (i : Nat) (hi : i < zs.length) : w.cell? ⟨g, i, none⟩ = some (.int .u32 (zs.getD i 0 : Nat)) := by
  obtain ⟨cur, h1, h2, h3⟩ := h
  rw [cell_of_row w g i _ e (0, 0) h1]
  have h4 : (cur.toList.take zs.length)[i]? = (zs.map U)[i]? := by rw [h3]
  rw [List.getElem?_take, if_pos hi] at h4
  simp at h4
  rw [h4]
  simp [List.getD, U, hi]
theorem Blk.frozen {e : TypeId} {w : World} {g : Nat} {zs : List Nat} (h : Blk e w g zs) (i : Nat) : w.frozen? ⟨g, i, none⟩ = false := by
  obtain ⟨cur, h1, _⟩ := h
  exact frozen_of_row w g i _ e h1
theorem Blk.lt {e : TypeId} {w : World} {g : Nat} {zs : List Nat} (h : Blk e w g zs) : g < w.heap.size := by
  obtain ⟨cur, h1, _⟩ := h
  exact (Array.getElem?_eq_some_iff.1 h1).1

theorem Blk.set {e : TypeId} {w : World} {g : Nat} {zs : List Nat} (h : Blk e w g zs) (i : Nat) (q : Int) (z : Nat) (hi : i < zs.length) (hq : q = (z : Int)) : Blk e (w.setCell ⟨g, i, none⟩ (.int .u32 q)) g (zs.set i z) := by
  subst hq
  obtain ⟨cur, h1, h2, h3⟩ := h
  refine ⟨cur.setIfInBounds i (.int .u32 (z : Int)), heap_setCell_same w g i _ e (.int .u32 (z : Int)) h1, by simpa using h2, ?_⟩
  rw [List.map_set, ← h3, Array.toList_setIfInBounds, List.length_set, List.take_set]
  rfl

theorem Blk.below {e : TypeId} {w w' : World} {g : Nat} {zs : List Nat} (h : Blk e w g zs) (hb : Below w.heap.size w w') : Blk e w' g zs := by
  have hl := h.lt
  obtain ⟨cur, h1, h2⟩ := h
  exact ⟨cur, (hb.block g hl).trans h1, h2⟩

theorem Blk.other {e : TypeId} {w w' : World} {g k : Nat} {zs : List Nat} (h : Blk e w g zs) (hg : w.grownBy w' (some k)) (hne : g ≠ k) : Blk e w' g zs := by
  have hl := h.lt
  obtain ⟨cur, h1, h2⟩ := h
  exact ⟨cur, (hg.block g hl (by simpa using hne)).trans h1, h2⟩

theorem Blk.rd {e : TypeId} {w : World} {g : Nat} {zs : List Nat} (h : Blk e w g zs) (hl : Lim zs) (off n cap : Nat) (h1 : off + n ≤ zs.length) (h2 : n ≤ cap) (h3 : cap ≤ maxLen) :
    Rd w (some ⟨g, off, none⟩) cap ((zs.drop off).take n) := by
  refine ⟨(hl.drop off).take n, by simp; omega, h3, (by simp), .inr ⟨g, off, rfl, h.lt, fun i hi => ?_⟩⟩
  simp at hi
  rw [h.cell (off + i) (by omega)]
  simp [List.getD, show off + i < zs.length by omega, show i < n by omega]

theorem grownBy_setCell {w wr : World} {g : Nat} (h : w.grownBy wr (some g)) (i : Nat) (v : Value) : w.grownBy (wr.setCell ⟨g, i, none⟩ v) (some g) :=
  ⟨h.os, h.tape, h.output, by have := h.size; simp [World.setCell]; exact this, fun k hk hne => by rw [Below.heap_setCell wr ⟨g, i, none⟩ v k (fun e => hne (by simp [e]))]; exact h.block k hk hne⟩

/-- A slice in another block than the one that is written reads as it did. -/
theorem Fm.other {w wr : World} {g : Nat} {a : Option Addr} {xs : List Nat} (h : Fm w a xs) (hg : w.grownBy wr (some g)) (hs : ∀ k o, a = some ⟨k, o, none⟩ → xs ≠ [] → k ≠ g) (k : Nat) (hk : k < xs.length) :
    ∃ b off, a = some ⟨b, off, none⟩ ∧ b ≠ g ∧ wr.cell? ⟨b, off + k, none⟩ = some (.int .u32 (xs.getD k 0 : Nat)) := by
  rcases h with rfl | ⟨b, off, h1, h2, h3⟩
  · simp at hk
  · have hne : b ≠ g := hs b off h1 (by intro e; rw [e] at hk; simp at hk)
    exact ⟨b, off, h1, hne, (World.cell?_of_block (w := w) (a := ⟨b, off + k, none⟩) (hg.block b h2 (by simpa using hne))).trans (h3 k hk)⟩

theorem Rd.other {w wr : World} {g : Nat} {a : Option Addr} {cap : Nat} {xs : List Nat} (h : Rd w a cap xs) (hg : w.grownBy wr (some g)) (hs : ∀ k o, a = some ⟨k, o, none⟩ → xs ≠ [] → k ≠ g) : Rd wr a cap xs := by
  obtain ⟨h1, h2, h3, h5, h4⟩ := h
  refine ⟨h1, h2, h3, h5, ?_⟩
  rcases h4 with h4 | ⟨b, off, e, hb1, hc⟩
  · exact .inl h4
  · by_cases hx : xs = []
    · exact .inl hx
    · exact .inr ⟨b, off, e, Nat.lt_of_lt_of_le hb1 hg.size, fun i hi => (World.cell?_of_block (w := w) (a := ⟨b, off + i, none⟩) (hg.block b hb1 (by simpa using hs b off e hx))).trans (hc i hi)⟩

theorem madeCells_zero (n : Nat) : (madeCells (Value.int .u32 0).cells n).toList = (List.replicate n 0).map U := by
  apply List.ext_getElem?
  intro i
  by_cases h : i < n
  · simp [madeCells, h, U, Value.cells, Nat.mod_one]
  · simp [madeCells, h, U]

/-- What 'make([]uint32, n)' lays. -/
theorem blk_made {e : TypeId} {w' : World} {base n g : Nat} (h : w'.ownsRow base e 1 (.slice (some ⟨g, 0, none⟩) n n) n (madeCells #[Value.int .u32 0] n).toList) : Blk e w' g (List.replicate n 0) := by
  rw [show (#[Value.int .u32 0] : Array Value) = (Value.int .u32 0).cells from rfl, madeCells_zero] at h
  rcases h.2 with ⟨h0, _⟩ | ⟨g', cap, cur, h1, h2, h3, h4, h5, h6, h7⟩
  · cases h0
  · simp at h1
    obtain ⟨rfl, rfl⟩ := h1
    exact ⟨cur, h3, by simp; omega, by simpa using h7⟩

/-- Out of a row of the call's own. -/
theorem Res.blk {e : TypeId} {base : Nat} {w : World} {a : Option Addr} {cap : Nat} {xs : List Nat} (h : Res e base w a cap xs) :
    xs = [] ∨ ∃ g, a = some ⟨g, 0, none⟩ ∧ base ≤ g ∧ Blk e w g xs := by
  rcases h.2.2 with ⟨h0, h1⟩ | ⟨g, cap', cur, h1, h2, h3, h4, h5, h6, h7⟩
  · exact .inl (List.length_eq_zero_iff.1 h1)
  · simp at h1
    obtain ⟨rfl, rfl⟩ := h1
    exact .inr ⟨g, rfl, h2, cur, h3, by omega, by simpa using h7⟩

end Go.Proofs.YtchdoakoelfenaaGreat

namespace Go.Proofs.YtchdoakoelfenaaGreat
set_option linter.unusedSimpArgs false
set_option linter.unusedVariables false

/-- The sum over the first k places. -/
def Sv (f : Nat → Nat) : Nat → Nat
  | 0 => 0
  | k + 1 => Sv f k + 4294967296 ^ k * f k

theorem Sv_congr {f g : Nat → Nat} {k : Nat} (h : ∀ i, i < k → f i = g i) : Sv f k = Sv g k := by
  induction k with
  | zero => rfl
  | succ k ih => rw [Sv, Sv, ih (fun i hi => h i (by omega)), h k (by omega)]

theorem Sv_add (f : Nat → Nat) (m n : Nat) : Sv f (m + n) = Sv f m + 4294967296 ^ m * Sv (fun i => f (m + i)) n := by
  induction n with
  | zero => simp [Sv]
  | succ n ih => rw [← Nat.add_assoc, Sv, ih, Sv, Nat.pow_add, Nat.mul_add, ← Nat.add_assoc, Nat.mul_assoc]

theorem Sv_lt {f : Nat → Nat} {k : Nat} (h : ∀ i, i < k → f i < 4294967296) : Sv f k < 4294967296 ^ k := by
  induction k with
  | zero => simp [Sv]
  | succ k ih =>
    have h1 := ih (fun i hi => h i (by omega))
    have h2 := h k (by omega)
    have h3 : 4294967296 ^ k * f k ≤ 4294967296 ^ k * 4294967295 := Nat.mul_le_mul_left _ (by omega)
    rw [Sv, Nat.pow_succ]; omega

theorem Sv_zero {f : Nat → Nat} {k : Nat} (h : ∀ i, i < k → f i = 0) : Sv f k = 0 := by
  induction k with
  | zero => rfl
  | succ k ih => rw [Sv, ih (fun i hi => h i (by omega)), h k (by omega)]; simp

theorem V_take_Sv (xs : List Nat) (k : Nat) : V (xs.take k) = Sv (fun i => xs.getD i 0) k := by
  induction k with
  | zero => simp [V, Sv]
  | succ k ih => rw [V_take_succ, ih, Sv]

theorem V_Sv (xs : List Nat) : V xs = Sv (fun i => xs.getD i 0) xs.length := by rw [← V_take_Sv, List.take_length]

theorem getD_set (xs : List Nat) (i j z : Nat) : (xs.set i z).getD j 0 = if i = j ∧ j < xs.length then z else xs.getD j 0 := by
  simp only [List.getD_eq_getElem?_getD, List.getElem?_set]
  by_cases h : i = j
  · subst h
    by_cases h2 : i < xs.length
    · simp [h2]
    · simp [h2]
  · simp [h]
theorem getD_set_ne (xs : List Nat) (i j z : Nat) (h : i ≠ j) : (xs.set i z).getD j 0 = xs.getD j 0 := by rw [getD_set, if_neg (by omega)]
theorem getD_set_eq (xs : List Nat) (i z : Nat) (h : i < xs.length) : (xs.set i z).getD i 0 = z := by rw [getD_set, if_pos ⟨rfl, h⟩]

/-- One round of 'out += b * f'. -/
theorem addm_step {cs zs ys : List Nat} {off k cy f y o s p : Nat} (hy : ys.getD k 0 = y) (hp : y * f = p) (ho : zs.getD (off + k) 0 = o) (hs : s = p + o + cy) (hlen : off + k < cs.length)
    (he : Sv (fun i => cs.getD (off + i) 0) k + 4294967296 ^ k * cy = Sv (fun i => zs.getD (off + i) 0) k + V (ys.take k) * f) :
    Sv (fun i => (cs.set (off + k) (s % 4294967296)).getD (off + i) 0) (k + 1) + 4294967296 ^ (k + 1) * (s / 4294967296) = Sv (fun i => zs.getD (off + i) 0) (k + 1) + V (ys.take (k + 1)) * f := by
  rw [Sv, Sv, V_take_succ, hy, ho, getD_set_eq _ _ _ hlen, Nat.pow_succ]
  rw [Sv_congr (g := fun i => cs.getD (off + i) 0) (fun i hi => getD_set_ne _ _ _ _ (by omega))]
  have hd := Nat.mod_add_div s 4294967296
  generalize s % 4294967296 = r at hd ⊢
  generalize s / 4294967296 = d at hd ⊢
  subst hs
  subst hp
  generalize 4294967296 ^ k = q at he ⊢
  generalize Sv (fun i => cs.getD (off + i) 0) k = A at he ⊢
  generalize Sv (fun i => zs.getD (off + i) 0) k = C at he ⊢
  generalize V (ys.take k) = D at he ⊢
  grind

theorem mul_lt_64 {y f : Nat} (hy : y < 4294967296) (hf : f < 4294967296) : y * f ≤ 18446744065119617025 := by
  have := Nat.mul_le_mul (show y ≤ 4294967295 by omega) (show f ≤ 4294967295 by omega)
  simpa using this

end Go.Proofs.YtchdoakoelfenaaGreat
