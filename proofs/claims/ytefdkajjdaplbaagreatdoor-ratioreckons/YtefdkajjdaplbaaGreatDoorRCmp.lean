/-
  foundryref01.Cmp: the walk.
-/
import Derived.Test.YtefdkajjdaplbaaGreatDoorCmp
namespace Go.Proofs.YtefdkajjdaplbaaGreatDoor
open Go.RowKit
set_option linter.unusedSimpArgs false
set_option linter.unusedVariables false

theorem getD_past (xs : List Nat) (j : Nat) (h : xs.length ≤ j) : xs.getD j 0 = 0 := by simp [List.getD, List.getElem?_eq_none h]

/-- A slice of limbs, its address written out where there is a limb. -/
theorem Rd.form {w : World} {a : Option Addr} {cap : Nat} {xs : List Nat} (h : Rd w a cap xs) :
    xs = [] ∨ ∃ b off, a = some ⟨b, off, none⟩ ∧ b < w.heap.size ∧ ∀ i, i < xs.length → w.cell? ⟨b, off + i, none⟩ = some (.int .u32 (xs.getD i 0 : Nat)) := h.2.2.2.2

set_option maxHeartbeats 1000000 in
set_option maxRecDepth 100000 in
theorem rcmp_any (a : Option Addr) (cap : Nat) (xs : List Nat) (b : Option Addr) (cbp : Nat) (ys : List Nat) (w : World) (ha : Rd w a cap xs) (hb : Rd w b cbp ys) :
    Calls Tryz.prog 55 #[.slice a xs.length cap, .slice b ys.length cbp] w fun e w' => e = .returned (.int .i64 (cmpN (V xs) (V ys))) ∧ w = w' := by
  have lx := ha.lim
  have ly := hb.lim
  have k1 := ha.le
  have k2 := ha.cap
  have k3 := hb.le
  have k4 := hb.cap
  unfold maxLen at k2 k4
  have fa := ha.form
  have fb := hb.form
  clear ha hb
  obtain ⟨n, hn⟩ : ∃ n, xs.length = n := ⟨_, rfl⟩
  obtain ⟨m, hm⟩ : ∃ m, ys.length = m := ⟨_, rfl⟩
  have HN : Hid (xs.length = n) := hn
  have HM : Hid (ys.length = m) := hm
  rw [hn] at k1 fa ⊢
  rw [hm] at k3 fb ⊢
  clear hn hm
  have HA : Hid (xs = [] ∨ ∃ b off, a = some ⟨b, off, none⟩ ∧ b < w.heap.size ∧ ∀ i, i < n → w.cell? ⟨b, off + i, none⟩ = some (.int .u32 (xs.getD i 0 : Nat))) := fa
  have HB : Hid (ys = [] ∨ ∃ b' off, b = some ⟨b', off, none⟩ ∧ b' < w.heap.size ∧ ∀ i, i < m → w.cell? ⟨b', off + i, none⟩ = some (.int .u32 (ys.getD i 0 : Nat))) := fb
  clear fa fb
  go_enter Tryz.func55, Tryz.ntmps55
  go_wp2
  all_goals
    go_loop [5] (fun i => ∃ (k : Nat) (q : Int), k ≤ max n m ∧ q = (k : Int) - 1 ∧ i = .int .i64 q ∧ (∀ j, k ≤ j → xs.getD j 0 = ys.getD j 0)) (fun i => (intOf i + 1).toNat)
    case atStart =>
      refine ⟨max n m, _, Nat.le_refl _, ?_, rfl, fun j hj => ?_⟩
      · omega
      · rw [getD_past xs j (by rw [HN.out]; omega), getD_past ys j (by rw [HM.out]; omega)]
    case round =>
      obtain ⟨k, q, hk, hq, rfl, hst⟩ := hrel
      have HS : Hid (∀ j, k ≤ j → xs.getD j 0 = ys.getD j 0) := hst
      clear hst
      by_cases hk0 : k = 0
      · subst hk0
        obtain rfl : q = -1 := by omega
        clear hq
        go_wp2
        go_ret
        refine ⟨ret_i64 ?_, rfl⟩
        rw [V_congr xs ys (fun j => HS.out j (Nat.zero_le _))]
        simp [cmpN]
      · obtain ⟨j, rfl⟩ : ∃ j, k = j + 1 := ⟨k - 1, by omega⟩
        obtain rfl : q = (j : Int) := by omega
        clear hq
        obtain ⟨x, hx⟩ : ∃ x, xs.getD j 0 = x := ⟨_, rfl⟩
        obtain ⟨y, hy⟩ : ∃ y, ys.getD j 0 = y := ⟨_, rfl⟩
        have HX : Hid (xs.getD j 0 = x) := hx
        have HY : Hid (ys.getD j 0 = y) := hy
        have fin_lt : x < y → cmpN (V xs) (V ys) = -1 := fun h => by
          have := V_lt_top j xs ys lx (fun i hi => HS.out i (by omega)) (by rw [hx, hy]; exact h)
          simp [cmpN, this]
        have fin_gt : y < x → cmpN (V xs) (V ys) = 1 := fun h => by
          have := V_lt_top j ys xs ly (fun i hi => (HS.out i (by omega)).symm) (by rw [hx, hy]; exact h)
          unfold cmpN; rw [if_neg (by omega), if_pos this]
        have hstep : x = y → ∀ i, j ≤ i → xs.getD i 0 = ys.getD i 0 := fun h i hi => by
          rcases Nat.lt_or_eq_of_le hi with h1 | rfl
          · exact HS.out i (by omega)
          · rw [hx, hy, h]
        have HLT : Hid (x < y → cmpN (V xs) (V ys) = -1) := fin_lt
        have HGT : Hid (y < x → cmpN (V xs) (V ys) = 1) := fin_gt
        have HST : Hid (x = y → ∀ i, j ≤ i → xs.getD i 0 = ys.getD i 0) := hstep
        clear fin_lt fin_gt hstep hx hy
        have ca : j < n → ∃ b off, a = some ⟨b, off, none⟩ ∧ w.cell? ⟨b, off + j, none⟩ = some (.int .u32 (x : Int)) := fun hj => by
          rcases HA.out with h0 | ⟨b, off, h1, h2, h3⟩
          · have := HN.out; rw [h0] at this; simp at this; omega
          · exact ⟨b, off, h1, by rw [h3 j hj, HX.out]⟩
        have cb : j < m → ∃ b' off, b = some ⟨b', off, none⟩ ∧ w.cell? ⟨b', off + j, none⟩ = some (.int .u32 (y : Int)) := fun hj => by
          rcases HB.out with h0 | ⟨b, off, h1, h2, h3⟩
          · have := HM.out; rw [h0] at this; simp at this; omega
          · exact ⟨b, off, h1, by rw [h3 j hj, HY.out]⟩
        have xa : n ≤ j → x = 0 := fun hj => by rw [← HX.out]; exact getD_past xs j (by rw [HN.out]; exact hj)
        have ya : m ≤ j → y = 0 := fun hj => by rw [← HY.out]; exact getD_past ys j (by rw [HM.out]; exact hj)
        clear HA HB HX HY HS
        by_cases hj1 : j < n
        all_goals by_cases hj2 : j < m
        · obtain ⟨b1, o1, rfl, c1⟩ := ca hj1
          obtain ⟨b2, o2, rfl, c2⟩ := cb hj2
          clear ca cb xa ya
          rcases Nat.lt_trichotomy x y with h | h | h
          all_goals try (exfalso; omega)
          all_goals go_wp2
          all_goals first
            | (go_ret; exact ⟨ret_i64 (HLT.out h).symm, rfl⟩)
            | (go_ret; exact ⟨ret_i64 (HGT.out h).symm, rfl⟩)
            | (go_round
               case rel => exact ⟨j, _, by omega, rfl, by go_num, HST.out h⟩
               case measure => simp [intOf])
        · obtain ⟨b1, o1, rfl, c1⟩ := ca hj1
          have y0 := ya (by omega)
          subst y0
          clear ca cb xa ya
          rcases Nat.lt_trichotomy x 0 with h | h | h
          all_goals try (exfalso; omega)
          all_goals go_wp2
          all_goals first
            | (go_ret; exact ⟨ret_i64 (HLT.out h).symm, rfl⟩)
            | (go_ret; exact ⟨ret_i64 (HGT.out h).symm, rfl⟩)
            | (go_round
               case rel => exact ⟨j, _, by omega, rfl, by go_num, HST.out h⟩
               case measure => simp [intOf])
        · obtain ⟨b2, o2, rfl, c2⟩ := cb hj2
          have x0 := xa (by omega)
          subst x0
          clear ca cb xa ya
          rcases Nat.lt_trichotomy 0 y with h | h | h
          all_goals try (exfalso; omega)
          all_goals go_wp2
          all_goals first
            | (go_ret; exact ⟨ret_i64 (HLT.out h).symm, rfl⟩)
            | (go_ret; exact ⟨ret_i64 (HGT.out h).symm, rfl⟩)
            | (go_round
               case rel => exact ⟨j, _, by omega, rfl, by go_num, HST.out h⟩
               case measure => simp [intOf])
        · omega

end Go.Proofs.YtefdkajjdaplbaaGreatDoor
