/-
  nat.significant: the walk.
  nat.Trim, nat.Of: the walks.
  nat.Cmp: the walk.
  foundryref01.Cmp: the walk.
  nat.Add: the walk.
-/
import Derived.Test.YtkbbdkecillnpaaGreatZY8
import Derived.Test.YtkbbdkecillnpaaGreatProg
import Derived.Outline
import Derived.BigQuiet
import Derived.Deep.QuietTactic
import Derived.WalkSmall
namespace Go.Proofs.YtkbbdkecillnpaaGreat
open Go.RowKit
set_option linter.unusedSimpArgs false
set_option linter.unusedVariables false

theorem ret_slice {a a' : Option Addr} {n n' c c' : Nat} (h1 : a = a') (h2 : n = n') (h3 : c = c') : Ending.returned (.slice a n c) = .returned (.slice a' n' c') := by rw [h1, h2, h3]

set_option maxHeartbeats 400000 in
set_option maxRecDepth 100000 in
theorem sig_any (a : Option Addr) (cap : Nat) (xs : List Nat) (w : World) (h : Rd w a cap xs) :
    Calls Tryz.prog 126 #[.slice a xs.length cap] w fun e w' => e = .returned (.slice a (strip xs).length cap) ∧ w = w' := by
  have hc2 : xs.length ≤ cap := h.2.1
  have hc3 : cap ≤ maxLen := h.2.2.1
  unfold maxLen at hc3
  rcases h.2.2.2.2 with rfl | ⟨b, off, rfl, hb, hc⟩
  · go_enter Tryz.func126, Tryz.ntmps126
    go_wp2
    go_loop [3] (fun n => n = .int .i64 0) (fun n => (intOf n).toNat)
    case atStart => rfl
    case round =>
      subst hrel
      go_wp2
      all_goals
        go_ret
        exact ⟨ret_slice (by simp [Addr.add]) rfl rfl, rfl⟩
  · clear h
    go_enter Tryz.func126, Tryz.ntmps126
    go_wp2
    go_loop [3] (fun n => ∃ k : Nat, k ≤ xs.length ∧ n = .int .i64 k ∧ strip (xs.take k) = strip xs) (fun n => (intOf n).toNat)
    case atStart => exact ⟨xs.length, Nat.le_refl _, rfl, by rw [List.take_length]⟩
    case round =>
      obtain ⟨k, hk, rfl, hst⟩ := hrel
      have HS : Hid (strip (xs.take k) = strip xs) := hst
      clear hst
      by_cases hk0 : k = 0
      · subst hk0
        go_wp2
        go_ret
        exact ⟨ret_slice rfl (by rw [← HS.out]; rfl) rfl, rfl⟩
      · obtain ⟨j, rfl⟩ : ∃ j, k = j + 1 := ⟨k - 1, by omega⟩
        have hcj := hc j (by omega)
        obtain ⟨x, hx⟩ : ∃ x, xs.getD j 0 = x := ⟨_, rfl⟩
        rw [hx] at hcj
        have HX : Hid (xs.getD j 0 = x) := hx
        clear hx hc
        by_cases hx0 : x = 0
        · subst hx0
          go_wp2
          go_round
          case rel => exact ⟨j, by omega, rfl, by rw [← HS.out, strip_take_zero xs j (by omega) HX.out]⟩
          case measure => simp [intOf]
        · have hx1 : ((x : Int) == 0) = false := by simp; omega
          go_wp2
          go_ret
          have e : strip xs = xs.take (j + 1) := by rw [← HS.out]; exact strip_take_some xs j (by omega) (by rw [HX.out]; exact hx0)
          exact ⟨ret_slice rfl (by rw [e]; simp; omega) rfl, rfl⟩

end Go.Proofs.YtkbbdkecillnpaaGreat

namespace Go.Proofs.YtkbbdkecillnpaaGreat
open Go.RowKit
set_option linter.unusedSimpArgs false
set_option linter.unusedVariables false

theorem info_limb : (Tryz.prog.info? 157).map (fun i => (i.zero, i.size, i.bytes)) = some (some (.int .u32 0), 1, 4) := by kernel_rfl

set_option maxHeartbeats 400000 in
set_option maxRecDepth 100000 in
theorem trim_any (a : Option Addr) (cap : Nat) (xs : List Nat) (w : World) (h : Rd w a cap xs) (hl : xs.length ≤ 1000000000) :
    Calls Tryz.prog 101 #[.slice a xs.length cap] w fun e w' => ∃ a' cap', e = .returned (.slice a' (strip xs).length cap') ∧ Res 157 w.heap.size w' a' cap' (strip xs) ∧ Below w.heap.size w w' := by
  obtain ⟨i0, hi, hz0, hz1, hz2⟩ := info_parts info_limb
  have hsl := strip_length_le xs
  go_enter Tryz.func101, Tryz.ntmps101
  go_wp2_with fail
  refine (sig_any a cap xs _ (h.below ((Below.refl _ _).alloc (Nat.le_refl _) _))).mono ?_
  rintro e w' ⟨rfl, hw⟩
  subst hw
  go_wp2_with (at_builtin; refine wpList_append_rd rfl _ _ 117 rfl w.heap.size 157 i0 Tryz.underlying117 hi hz0 hz1 hz2 _ 0 [] rfl ?_ a cap _ (strip xs) rfl rfl ?_ ?_ ?_ ?_)
  · exact World.ownsRow_made w #[] 0 (Nat.le_refl _) (Nat.zero_le _) rfl
  · exact h.strip.below ((Below.refl _ _).alloc (Nat.le_refl _) _)
  · omega
  · simp
  · intro v' w1 hown hgrow
    obtain ⟨a', cap', rfl, hres⟩ := Res.of h.lim.strip hown
    go_wp2
    go_ret
    exact ⟨a', cap', rfl, hres, ((Below.refl _ _).alloc (Nat.le_refl _) _).grown hgrow (by simp) (fun k hk => by simp [Value.ownBlock] at hk; omega)⟩

set_option maxHeartbeats 400000 in
set_option maxRecDepth 100000 in
theorem of_any (n : Nat) (w : World) (hn : n < 18446744073709551616) :
    Calls Tryz.prog 80 #[.int .u64 (n : Int)] w fun e w' => ∃ a cap ys, e = .returned (.slice a ys.length cap) ∧ V ys = n ∧ Tr ys ∧ Res 157 w.heap.size w' a cap ys ∧ Below w.heap.size w w' := by
  go_enter Tryz.func80, Tryz.ntmps80
  go_wp2_with fail
  have hrd := rd_new w 157 [n % 4294967296, n / 4294967296] #[Value.int IntKind.u32 (↑n % 4294967296), Value.int IntKind.u32 (↑n / 4294967296)] (by simp [U]) (Lim.mk (by omega) (Lim.mk (by omega) Lim.nil)) (by simp [maxLen])
  refine (trim_any (some ⟨w.heap.size, 0, none⟩) 2 [n % 4294967296, n / 4294967296] _ hrd (by simp)).mono ?_
  rintro e w' ⟨a, cap, rfl, hres, hb⟩
  go_wp2
  go_ret
  refine ⟨a, cap, _, rfl, ?_, tr_strip _, hres.mono (by simp), ((Below.refl _ _).alloc (Nat.le_refl _) _).trans (hb.mono (by simp))⟩
  rw [V_strip]; simp only [V]; omega

end Go.Proofs.YtkbbdkecillnpaaGreat

namespace Go.Proofs.YtkbbdkecillnpaaGreat
open Go.RowKit
set_option linter.unusedSimpArgs false
set_option linter.unusedVariables false

/-- Less: -1; the same: 0; more: 1. -/
def cmpN (x y : Nat) : Int := if x < y then -1 else if y < x then 1 else 0

theorem ret_i64 {a b : Int} (h : a = b) : Ending.returned (.int .i64 a) = .returned (.int .i64 b) := by rw [h]
theorem ret_bool {a b : Bool} (h : a = b) : Ending.returned (.bool a) = .returned (.bool b) := by rw [h]

set_option maxHeartbeats 400000 in
set_option maxRecDepth 100000 in
theorem compare_int (x y : Nat) (w : World) :
    Calls Tryz.prog 130 #[.int .i64 (x : Int), .int .i64 (y : Int)] w fun e w' => e = .returned (.int .i64 (cmpN x y)) ∧ w = w' := by
  rcases Nat.lt_trichotomy x y with h | rfl | h
  · have h1 : (x : Int) < (y : Int) := by omega
    go_enter Tryz.func130, Tryz.ntmps130
    go_wp2
    go_ret
    exact ⟨ret_i64 (by simp [cmpN, h]), rfl⟩
  · have h1 : ¬ (x : Int) < (x : Int) := by omega
    go_enter Tryz.func130, Tryz.ntmps130
    go_wp2
    go_ret
    exact ⟨ret_i64 (by simp [cmpN]), rfl⟩
  · have h1 : (y : Int) < (x : Int) := by omega
    have h2 : ¬ (x : Int) < (y : Int) := by omega
    go_enter Tryz.func130, Tryz.ntmps130
    go_wp2
    go_ret
    exact ⟨ret_i64 (by simp [cmpN, h]; omega), rfl⟩

set_option maxHeartbeats 400000 in
set_option maxRecDepth 100000 in
theorem compare_u32 (x y : Nat) (w : World) :
    Calls Tryz.prog 131 #[.int .u32 (x : Int), .int .u32 (y : Int)] w fun e w' => e = .returned (.int .i64 (cmpN x y)) ∧ w = w' := by
  rcases Nat.lt_trichotomy x y with h | rfl | h
  · have h1 : (x : Int) < (y : Int) := by omega
    go_enter Tryz.func131, Tryz.ntmps131
    go_wp2
    go_ret
    exact ⟨ret_i64 (by simp [cmpN, h]), rfl⟩
  · have h1 : ¬ (x : Int) < (x : Int) := by omega
    go_enter Tryz.func131, Tryz.ntmps131
    go_wp2
    go_ret
    exact ⟨ret_i64 (by simp [cmpN]), rfl⟩
  · have h1 : (y : Int) < (x : Int) := by omega
    have h2 : ¬ (x : Int) < (y : Int) := by omega
    go_enter Tryz.func131, Tryz.ntmps131
    go_wp2
    go_ret
    exact ⟨ret_i64 (by simp [cmpN, h]; omega), rfl⟩

theorem compare_u32q (x y : Nat) (w : World) :
    Calls Tryz.prog 131 #[.int .u32 (x : Int), .int .u32 (y : Int)] w fun e w' => e = .returned (.int .i64 (cmpN x y)) ∧ w' = w :=
  (compare_u32 x y w).mono fun _ _ h => ⟨h.1, h.2.symm⟩

theorem Rd.at {w : World} {b off cap : Nat} {xs : List Nat} (h : Rd w (some ⟨b, off, none⟩) cap xs) (i : Nat) (hi : i < xs.length) : w.cell? ⟨b, off + i, none⟩ = some (.int .u32 (xs.getD i 0 : Nat)) := by
  rcases h.2.2.2.2 with rfl | ⟨b', off', e, hb, hc⟩
  · simp at hi
  · simp at e; obtain ⟨rfl, rfl⟩ := e; exact hc i hi
theorem Rd.lt {w : World} {b off cap : Nat} {xs : List Nat} (h : Rd w (some ⟨b, off, none⟩) cap xs) (hn : xs ≠ []) : b < w.heap.size := by
  rcases h.2.2.2.2 with rfl | ⟨b', off', e, hb, hc⟩
  · exact absurd rfl hn
  · simp at e; obtain ⟨rfl, rfl⟩ := e; exact hb

set_option maxHeartbeats 800000 in
set_option maxRecDepth 100000 in
theorem cmp_any (a : Option Addr) (cap : Nat) (xs : List Nat) (b : Option Addr) (cbp : Nat) (ys : List Nat) (w : World) (ha : Rd w a cap xs) (hb : Rd w b cbp ys) :
    Calls Tryz.prog 106 #[.slice a xs.length cap, .slice b ys.length cbp] w fun e w' => e = .returned (.int .i64 (cmpN (V xs) (V ys))) ∧ Below w.heap.size w w' := by
  have la := ha.strip
  have lb := hb.strip
  have hbd := la.le
  have hbd2 := la.cap
  have hbe := lb.le
  have hbe2 := lb.cap
  unfold maxLen at hbd2 hbe2
  have ea := V_strip xs
  have eb := V_strip ys
  have ta := tr_strip xs
  have tb := tr_strip ys
  have HV : Hid (cmpN (V xs) (V ys) = cmpN (V (strip xs)) (V (strip ys))) := by show _ = _; rw [ea, eb]
  clear ea eb
  go_enter Tryz.func106, Tryz.ntmps106
  go_wp2_with fail
  refine (sig_any a cap xs _ ha).mono ?_
  rintro e w' ⟨rfl, rfl⟩
  go_wp2_with fail
  refine (sig_any b cbp ys _ hb).mono ?_
  rintro e w' ⟨rfl, rfl⟩
  clear ha hb
  generalize strip xs = xs at *
  generalize strip ys = ys at *
  by_cases hlen : xs.length = ys.length
  · have hl2 : ((xs.length : Int) != (ys.length : Int)) = false := by simp; omega
    rcases la.2.2.2.2 with rfl | ⟨ba, oa, rfl, hla, hca⟩
    · have hy : ys = [] := List.length_eq_zero_iff.1 hlen.symm
      subst hy
      go_wp2_with fail
      go_loop [5] (fun i => i = .int .i64 (-1)) (fun i => (intOf i).toNat)
      case atStart => rfl
      case round =>
        subst hrel
        go_wp2
        go_ret
        exact ⟨ret_i64 (by rw [HV.out]; rfl), Below.refl _ _⟩
    · rcases lb.2.2.2.2 with rfl | ⟨bb, ob, rfl, hlb, hcb⟩
      · simp at hlen
        subst hlen
        go_wp2_with fail
        go_loop [5] (fun i => i = .int .i64 (-1)) (fun i => (intOf i).toNat)
        case atStart => rfl
        case round =>
          subst hrel
          go_wp2
          go_ret
          exact ⟨ret_i64 (by rw [HV.out]; rfl), Below.refl _ _⟩
      · have lax := la.lim
        have lay := lb.lim
        clear la lb
        go_wp2_with fail
        go_loopw [5] (fun i wr => ∃ (k : Nat) (m : Int), k ≤ ys.length ∧ m = (k : Int) - 1 ∧ i = .int .i64 m ∧ (∀ j, k ≤ j → xs.getD j 0 = ys.getD j 0) ∧ Below w.heap.size w wr) (fun i _ => (intOf i + 1).toNat)
        case atStart => exact ⟨ys.length, _, Nat.le_refl _, rfl, rfl, fun j hj => by simp [List.getD, List.getElem?_eq_none (show ys.length ≤ j from hj), List.getElem?_eq_none (show xs.length ≤ j by omega)], Below.refl _ _⟩
        case round =>
          obtain ⟨k, m, hk, hm, rfl, hst, hnx⟩ := hrel
          have HS : Hid (∀ j, k ≤ j → xs.getD j 0 = ys.getD j 0) := hst
          clear hst
          by_cases hk0 : k = 0
          · subst hk0
            obtain rfl : m = -1 := by omega
            clear hm
            go_wp2
            go_ret
            refine ⟨ret_i64 ?_, hnx⟩
            rw [HV.out, V_congr xs ys (fun j => HS.out j (Nat.zero_le _))]
            simp [cmpN]
          · obtain ⟨j, rfl⟩ : ∃ j, k = j + 1 := ⟨k - 1, by omega⟩
            obtain rfl : m = (j : Int) := by omega
            clear hm
            have gx := (hnx.cell (p := ⟨ba, oa + j, none⟩) hla).trans (hca j (by omega))
            have gy := (hnx.cell (p := ⟨bb, ob + j, none⟩) hlb).trans (hcb j (by omega))
            obtain ⟨x, hx⟩ : ∃ x, xs.getD j 0 = x := ⟨_, rfl⟩
            obtain ⟨y, hy⟩ : ∃ y, ys.getD j 0 = y := ⟨_, rfl⟩
            rw [hx] at gx
            rw [hy] at gy
            have HX : Hid (xs.getD j 0 = x) := hx
            have HY : Hid (ys.getD j 0 = y) := hy
            clear hx hy hca hcb
            have b1 : (0 : Int) ≤ (j : Int) := by omega
            have b2 : (j : Int) < (ys.length : Int) := by omega
            rcases Nat.lt_trichotomy x y with h | rfl | h
            · have hne : ((x : Int) != (y : Int)) = true := by simp; omega
              go_wp2_with fail
              go_quiet (fail)
              go_wp2_with fail
              have gx2 : (wr.drewN nq).cell? ⟨ba, oa + j, none⟩ = some (.int .u32 (x : Int)) := gx
              have gy2 : (wr.drewN nq).cell? ⟨bb, ob + j, none⟩ = some (.int .u32 (y : Int)) := gy
              have hnx2 := below_drewN hnx nq
              clear gx gy
              generalize wr.drewN nq = wq at gx2 gy2 hnx2 ⊢
              go_quiet ((go_at_call 131; exact Calls.quiet_of_same (compare_u32q _ _ _)))
              go_wp2
              go_ret
              refine ⟨ret_i64 ?_, below_drewN hnx2 _⟩
              have := V_lt_top j xs ys lax (fun i hi => HS.out i (by omega)) (by rw [HX.out, HY.out]; exact h)
              rw [HV.out]; simp [cmpN, h, this]
            · have hne : ((x : Int) != (x : Int)) = false := by simp
              go_wp2_with fail
              go_quiet (fail)
              go_wp2
              go_roundw
              case rel =>
                refine ⟨j, _, by omega, rfl, by go_num, fun i hi => ?_, below_drewN hnx _⟩
                rcases Nat.lt_or_eq_of_le hi with h | rfl
                · exact HS.out i (by omega)
                · rw [HX.out, HY.out]
              case measure => simp [intOf]
            · have hne : ((x : Int) != (y : Int)) = true := by simp; omega
              go_wp2_with fail
              go_quiet (fail)
              go_wp2_with fail
              have gx2 : (wr.drewN nq).cell? ⟨ba, oa + j, none⟩ = some (.int .u32 (x : Int)) := gx
              have gy2 : (wr.drewN nq).cell? ⟨bb, ob + j, none⟩ = some (.int .u32 (y : Int)) := gy
              have hnx2 := below_drewN hnx nq
              clear gx gy
              generalize wr.drewN nq = wq at gx2 gy2 hnx2 ⊢
              go_quiet ((go_at_call 131; exact Calls.quiet_of_same (compare_u32q _ _ _)))
              go_wp2
              go_ret
              refine ⟨ret_i64 ?_, below_drewN hnx2 _⟩
              have := V_lt_top j ys xs lay (fun i hi => (HS.out i (by omega)).symm) (by rw [HX.out, HY.out]; exact h)
              rw [HV.out]; unfold cmpN; rw [if_neg (by omega), if_pos h, if_neg (by omega), if_pos this]
  · have hl2 : ((xs.length : Int) != (ys.length : Int)) = true := by simp; omega
    go_wp2_with fail
    refine (compare_int xs.length ys.length _).mono ?_
    rintro e w' ⟨rfl, rfl⟩
    go_wp2
    go_ret
    refine ⟨ret_i64 ?_, Below.refl _ _⟩
    rw [HV.out]
    unfold cmpN
    rcases Nat.lt_or_gt_of_ne hlen with h | h
    · have := V_lt_of_length la.lim tb h; simp [h, this]
    · have := V_lt_of_length lb.lim ta h; rw [if_neg (by omega), if_pos h, if_neg (by omega), if_pos this]

end Go.Proofs.YtkbbdkecillnpaaGreat

namespace Go.Proofs.YtkbbdkecillnpaaGreat
open Go.RowKit
set_option linter.unusedSimpArgs false
set_option linter.unusedVariables false

theorem getD_past (xs : List Nat) (j : Nat) (h : xs.length ≤ j) : xs.getD j 0 = 0 := by simp [List.getD, List.getElem?_eq_none h]

/-- A slice of limbs, its address written out where there is a limb. -/
theorem Rd.form {w : World} {a : Option Addr} {cap : Nat} {xs : List Nat} (h : Rd w a cap xs) :
    xs = [] ∨ ∃ b off, a = some ⟨b, off, none⟩ ∧ b < w.heap.size ∧ ∀ i, i < xs.length → w.cell? ⟨b, off + i, none⟩ = some (.int .u32 (xs.getD i 0 : Nat)) := h.2.2.2.2

set_option maxHeartbeats 1000000 in
set_option maxRecDepth 100000 in
theorem rcmp_any (a : Option Addr) (cap : Nat) (xs : List Nat) (b : Option Addr) (cbp : Nat) (ys : List Nat) (w : World) (ha : Rd w a cap xs) (hb : Rd w b cbp ys) :
    Calls Tryz.prog 118 #[.slice a xs.length cap, .slice b ys.length cbp] w fun e w' => e = .returned (.int .i64 (cmpN (V xs) (V ys))) ∧ w = w' := by
  have lx := ha.lim
  have ly := hb.lim
  have k1 := ha.le
  have k2 := ha.cap
  have k3 := hb.le
  have k4 := hb.cap
  unfold maxLen at k2 k4
  have fa := ha.form
  have fb := hb.form
  clear ha hb
  obtain ⟨n, hn⟩ : ∃ n, xs.length = n := ⟨_, rfl⟩
  obtain ⟨m, hm⟩ : ∃ m, ys.length = m := ⟨_, rfl⟩
  have HN : Hid (xs.length = n) := hn
  have HM : Hid (ys.length = m) := hm
  rw [hn] at k1 fa ⊢
  rw [hm] at k3 fb ⊢
  clear hn hm
  have HA : Hid (xs = [] ∨ ∃ b off, a = some ⟨b, off, none⟩ ∧ b < w.heap.size ∧ ∀ i, i < n → w.cell? ⟨b, off + i, none⟩ = some (.int .u32 (xs.getD i 0 : Nat))) := fa
  have HB : Hid (ys = [] ∨ ∃ b' off, b = some ⟨b', off, none⟩ ∧ b' < w.heap.size ∧ ∀ i, i < m → w.cell? ⟨b', off + i, none⟩ = some (.int .u32 (ys.getD i 0 : Nat))) := fb
  clear fa fb
  go_enter Tryz.func118, Tryz.ntmps118
  go_wp2
  all_goals
    go_loop [5] (fun i => ∃ (k : Nat) (q : Int), k ≤ max n m ∧ q = (k : Int) - 1 ∧ i = .int .i64 q ∧ (∀ j, k ≤ j → xs.getD j 0 = ys.getD j 0)) (fun i => (intOf i + 1).toNat)
    case atStart =>
      refine ⟨max n m, _, Nat.le_refl _, ?_, rfl, fun j hj => ?_⟩
      · omega
      · rw [getD_past xs j (by rw [HN.out]; omega), getD_past ys j (by rw [HM.out]; omega)]
    case round =>
      obtain ⟨k, q, hk, hq, rfl, hst⟩ := hrel
      have HS : Hid (∀ j, k ≤ j → xs.getD j 0 = ys.getD j 0) := hst
      clear hst
      by_cases hk0 : k = 0
      · subst hk0
        obtain rfl : q = -1 := by omega
        clear hq
        go_wp2
        go_ret
        refine ⟨ret_i64 ?_, rfl⟩
        rw [V_congr xs ys (fun j => HS.out j (Nat.zero_le _))]
        simp [cmpN]
      · obtain ⟨j, rfl⟩ : ∃ j, k = j + 1 := ⟨k - 1, by omega⟩
        obtain rfl : q = (j : Int) := by omega
        clear hq
        obtain ⟨x, hx⟩ : ∃ x, xs.getD j 0 = x := ⟨_, rfl⟩
        obtain ⟨y, hy⟩ : ∃ y, ys.getD j 0 = y := ⟨_, rfl⟩
        have HX : Hid (xs.getD j 0 = x) := hx
        have HY : Hid (ys.getD j 0 = y) := hy
        have fin_lt : x < y → cmpN (V xs) (V ys) = -1 := fun h => by
          have := V_lt_top j xs ys lx (fun i hi => HS.out i (by omega)) (by rw [hx, hy]; exact h)
          simp [cmpN, this]
        have fin_gt : y < x → cmpN (V xs) (V ys) = 1 := fun h => by
          have := V_lt_top j ys xs ly (fun i hi => (HS.out i (by omega)).symm) (by rw [hx, hy]; exact h)
          unfold cmpN; rw [if_neg (by omega), if_pos this]
        have hstep : x = y → ∀ i, j ≤ i → xs.getD i 0 = ys.getD i 0 := fun h i hi => by
          rcases Nat.lt_or_eq_of_le hi with h1 | rfl
          · exact HS.out i (by omega)
          · rw [hx, hy, h]
        have HLT : Hid (x < y → cmpN (V xs) (V ys) = -1) := fin_lt
        have HGT : Hid (y < x → cmpN (V xs) (V ys) = 1) := fin_gt
        have HST : Hid (x = y → ∀ i, j ≤ i → xs.getD i 0 = ys.getD i 0) := hstep
        clear fin_lt fin_gt hstep hx hy
        have ca : j < n → ∃ b off, a = some ⟨b, off, none⟩ ∧ w.cell? ⟨b, off + j, none⟩ = some (.int .u32 (x : Int)) := fun hj => by
          rcases HA.out with h0 | ⟨b, off, h1, h2, h3⟩
          · have := HN.out; rw [h0] at this; simp at this; omega
          · exact ⟨b, off, h1, by rw [h3 j hj, HX.out]⟩
        have cb : j < m → ∃ b' off, b = some ⟨b', off, none⟩ ∧ w.cell? ⟨b', off + j, none⟩ = some (.int .u32 (y : Int)) := fun hj => by
          rcases HB.out with h0 | ⟨b, off, h1, h2, h3⟩
          · have := HM.out; rw [h0] at this; simp at this; omega
          · exact ⟨b, off, h1, by rw [h3 j hj, HY.out]⟩
        have xa : n ≤ j → x = 0 := fun hj => by rw [← HX.out]; exact getD_past xs j (by rw [HN.out]; exact hj)
        have ya : m ≤ j → y = 0 := fun hj => by rw [← HY.out]; exact getD_past ys j (by rw [HM.out]; exact hj)
        clear HA HB HX HY HS
        by_cases hj1 : j < n
        all_goals by_cases hj2 : j < m
        · obtain ⟨b1, o1, rfl, c1⟩ := ca hj1
          obtain ⟨b2, o2, rfl, c2⟩ := cb hj2
          clear ca cb xa ya
          rcases Nat.lt_trichotomy x y with h | h | h
          all_goals try (exfalso; omega)
          all_goals go_wp2
          all_goals first
            | (go_ret; exact ⟨ret_i64 (HLT.out h).symm, rfl⟩)
            | (go_ret; exact ⟨ret_i64 (HGT.out h).symm, rfl⟩)
            | (go_round
               case rel => exact ⟨j, _, by omega, rfl, by go_num, HST.out h⟩
               case measure => simp [intOf])
        · obtain ⟨b1, o1, rfl, c1⟩ := ca hj1
          have y0 := ya (by omega)
          subst y0
          clear ca cb xa ya
          rcases Nat.lt_trichotomy x 0 with h | h | h
          all_goals try (exfalso; omega)
          all_goals go_wp2
          all_goals first
            | (go_ret; exact ⟨ret_i64 (HLT.out h).symm, rfl⟩)
            | (go_ret; exact ⟨ret_i64 (HGT.out h).symm, rfl⟩)
            | (go_round
               case rel => exact ⟨j, _, by omega, rfl, by go_num, HST.out h⟩
               case measure => simp [intOf])
        · obtain ⟨b2, o2, rfl, c2⟩ := cb hj2
          have x0 := xa (by omega)
          subst x0
          clear ca cb xa ya
          rcases Nat.lt_trichotomy 0 y with h | h | h
          all_goals try (exfalso; omega)
          all_goals go_wp2
          all_goals first
            | (go_ret; exact ⟨ret_i64 (HLT.out h).symm, rfl⟩)
            | (go_ret; exact ⟨ret_i64 (HGT.out h).symm, rfl⟩)
            | (go_round
               case rel => exact ⟨j, _, by omega, rfl, by go_num, HST.out h⟩
               case measure => simp [intOf])
        · omega

end Go.Proofs.YtkbbdkecillnpaaGreat

namespace Go.Proofs.YtkbbdkecillnpaaGreat
open Go.RowKit
set_option linter.unusedSimpArgs false
set_option linter.unusedVariables false

theorem cell_new1 (w : World) (e : TypeId) (q : Int) (z : Nat) (h : q = (z : Int)) : (w.alloc (.cells #[.int .u32 q] e)).cell? ⟨w.heap.size, 0, none⟩ = some (.int .u32 (z : Int)) := by
  subst h
  rw [cell_of_row _ w.heap.size 0 #[Value.int .u32 (z : Int)] e (0, 0) (heap_alloc_new w _)]
  rfl

/-- One round of an addition. -/
theorem add_step {zs L S : List Nat} {k cy x y s : Nat} (hz : zs.length = k) (he : V zs + 4294967296 ^ k * cy = V (L.take k) + V (S.take k)) (hx : L.getD k 0 = x) (hy : S.getD k 0 = y) (hs : s = x + cy + y) :
    V (zs ++ [s % 4294967296]) + 4294967296 ^ (k + 1) * (s / 4294967296) = V (L.take (k + 1)) + V (S.take (k + 1)) := by
  rw [V_snoc, hz, V_take_succ, V_take_succ, hx, hy, Nat.pow_succ]
  have hd := Nat.mod_add_div s 4294967296
  generalize s % 4294967296 = r at hd ⊢
  generalize s / 4294967296 = d at hd ⊢
  subst hs
  generalize 4294967296 ^ k = p at he ⊢
  generalize V zs = o at he ⊢
  generalize V (L.take k) = A at he ⊢
  generalize V (S.take k) = C at he ⊢
  grind

set_option maxHeartbeats 1600000 in
set_option maxRecDepth 100000 in
theorem add_any (a : Option Addr) (cap : Nat) (xs : List Nat) (b : Option Addr) (cbp : Nat) (ys : List Nat) (w : World) (ha : Rd w a cap xs) (hb : Rd w b cbp ys) (hla : xs.length ≤ 500000000) (hlb : ys.length ≤ 500000000) :
    Calls Tryz.prog 104 #[.slice a xs.length cap, .slice b ys.length cbp] w fun e w' =>
      ∃ a' cap' zs, e = .returned (.slice a' zs.length cap') ∧ V zs = V xs + V ys ∧ Tr zs ∧ Res 157 w.heap.size w' a' cap' zs ∧ Below w.heap.size w w' := by
  obtain ⟨i0, hi, hz0, hz1, hz2⟩ := info_parts info_limb
  have Xr := ha.strip
  have Yr := hb.strip
  have lx := strip_length_le xs
  have ly := strip_length_le ys
  go_enter Tryz.func104, Tryz.ntmps104
  go_wp2_with fail
  refine (sig_any a cap xs _ ha).mono ?_
  rintro e w' ⟨rfl, rfl⟩
  go_wp2_with fail
  refine (sig_any b cbp ys _ hb).mono ?_
  rintro e w' ⟨rfl, rfl⟩
  clear ha hb
  generalize hX : strip xs = X at Xr lx ⊢
  generalize hY : strip ys = Y at Yr ly ⊢
  by_cases hlt : X.length < Y.length
  · have hL2 := Yr.le
    have hL3 := Yr.cap
    unfold maxLen at hL3
    have lL := Yr.lim
    have lS := Xr.lim
    have fL := Yr.fm
    have fS := Xr.fm
    have HV : Hid (V Y + V X = V xs + V ys) := by show _ = _; rw [← hY, ← hX, V_strip, V_strip]; omega
    clear Yr Xr
    go_wp2_with (at_make; refine wpList_make_own _ rfl _ _ 117 rfl w.heap.size 157 i0 (.int .u32 0) 1 Tryz.underlying117 hi hz0 hz1 _ _ _ (Y.length + 1) rfl rfl (by omega) (by rw [hz2]; omega) (by unfold maxLen; omega) (Nat.le_refl _) ?_)
    intro u0 hown0 hgrow0
    have hb0 : Below w.heap.size w u0 := (Below.refl _ _).grown hgrow0 (Nat.le_refl _) (fun k h => by cases h)
    go_wp2
    go_loopw [5, 6, 27] (fun out c i wr => ∃ (k : Nat) (zs : List Nat) (cy : Nat), k ≤ Y.length ∧ i = .int .i64 k ∧ c = .int .u64 cy ∧ cy ≤ 1 ∧ zs.length = k ∧ Lim zs ∧ V zs + 4294967296 ^ k * cy = V (Y.take k) + V (X.take k) ∧ wr.ownsRow w.heap.size 157 1 out k (zs.map U) ∧ Below w.heap.size w wr) (fun _ _ i _ => Y.length - (intOf i).toNat)
    case atStart => exact ⟨0, [], 0, Nat.zero_le _, rfl, rfl, Nat.zero_le _, rfl, Lim.nil, by simp [V], hown0, hb0⟩
    case round =>
      obtain ⟨k, zs, cy, hk, rfl, rfl, hcy, hzl, lz, heq, hown, hnx⟩ := hrel
      have HE : Hid (V zs + 4294967296 ^ k * cy = V (Y.take k) + V (X.take k)) := heq
      have HZ : Hid (zs.length = k) := hzl
      have hsz := hnx.size
      clear heq hzl
      by_cases hkn : k < Y.length
      · obtain ⟨bl, ol, rfl, _, hcl⟩ := fL.at hnx k hkn
        obtain ⟨x, hx⟩ : ∃ x, Y.getD k 0 = x := ⟨_, rfl⟩
        obtain ⟨y, hy⟩ : ∃ y, X.getD k 0 = y := ⟨_, rfl⟩
        have bx : x < 4294967296 := by rw [← hx]; exact lL.getD k
        have byy : y < 4294967296 := by rw [← hy]; exact lS.getD k
        rw [hx] at hcl
        have HX : Hid (Y.getD k 0 = x) := hx
        have HY : Hid (X.getD k 0 = y) := hy
        clear hx hy
        by_cases hkm : k < X.length
        · obtain ⟨bs, os, rfl, _, hcs⟩ := fS.at hnx k hkm
          rw [HY.out] at hcs
          go_wp2_with (at_builtin; refine wpList_append_one rfl _ _ 117 rfl w.heap.size 157 i0 Tryz.underlying117 hi hz0 hz1 hz2 _ k zs rfl (hown.alloc _) wr.heap.size ((x + cy + y) % 4294967296) rfl (cell_new1 _ _ _ _ (by omega)) (by omega) (by simp; omega) ?_)
          intro v' w1 hown1 hgrow1
          have hb1 : Below w.heap.size w w1 := (hnx.alloc hsz _).grown hgrow1 (by simp; omega) (fun k hk => (hown.lt k hk).1)
          clear hcl hcs hown
          go_wp2
          go_roundw
          case rel =>
            exact ⟨k + 1, zs ++ [(x + cy + y) % 4294967296], (x + cy + y) / 4294967296, by omega, by go_num, by go_num, by omega, by simp [HZ.out], lz.snoc (by omega), add_step HZ.out HE.out HX.out HY.out rfl, own_snoc hown1, hb1⟩
          case measure => simp [intOf]; omega
        · have y0 : y = 0 := by rw [← HY.out]; exact getD_past _ _ (by omega)
          subst y0
          go_wp2_with (at_builtin; refine wpList_append_one rfl _ _ 117 rfl w.heap.size 157 i0 Tryz.underlying117 hi hz0 hz1 hz2 _ k zs rfl (hown.alloc _) wr.heap.size ((x + cy) % 4294967296) rfl (cell_new1 _ _ _ _ (by omega)) (by omega) (by simp; omega) ?_)
          intro v' w1 hown1 hgrow1
          have hb1 : Below w.heap.size w w1 := (hnx.alloc hsz _).grown hgrow1 (by simp; omega) (fun k hk => (hown.lt k hk).1)
          clear hcl hown
          go_wp2
          go_roundw
          case rel =>
            exact ⟨k + 1, zs ++ [(x + cy) % 4294967296], (x + cy) / 4294967296, by omega, by go_num, by go_num, by omega, by simp [HZ.out], lz.snoc (by omega), add_step HZ.out HE.out HX.out HY.out (by omega), own_snoc hown1, hb1⟩
          case measure => simp [intOf]; omega
      · obtain rfl : k = Y.length := by omega
        go_wp2_with (at_builtin; refine wpList_append_one rfl _ _ 117 rfl w.heap.size 157 i0 Tryz.underlying117 hi hz0 hz1 hz2 _ _ zs rfl (hown.alloc _) wr.heap.size cy rfl (cell_new1 _ _ _ _ (by omega)) (by omega) (by simp; omega) ?_)
        intro v' w1 hown1 hgrow1
        have hb1 : Below w.heap.size w w1 := (hnx.alloc hsz _).grown hgrow1 (by simp; omega) (fun k hk => (hown.lt k hk).1)
        have o1 := own_snoc hown1
        have lts := lz.snoc (show cy < 4294967296 by omega)
        obtain ⟨ts, hts⟩ : ∃ ts, zs ++ [cy] = ts := ⟨_, rfl⟩
        have htl : ts.length ≤ 1000000000 := by rw [← hts]; simp [HZ.out]; omega
        rw [hts] at o1 lts
        have HT : Hid (zs ++ [cy] = ts) := hts
        obtain ⟨a', cap', rfl, hres⟩ := Res.of lts o1
        clear hown1 hown hts o1
        go_wp2_with fail
        refine (trim_any _ _ _ _ hres.rd htl).mono ?_
        rintro e w2 ⟨a2, c2, rfl, hr2, hb2⟩
        go_wp2
        go_ret
        refine ⟨a2, c2, _, rfl, ?_, tr_strip _, hr2.mono hb1.size, hb1.trans (hb2.mono hb1.size)⟩
        have h1 := HE.out
        rw [List.take_length, List.take_of_length_le (by omega)] at h1
        rw [V_strip, ← HT.out, V_snoc, HZ.out, h1, HV.out]
  · have hL2 := Xr.le
    have hL3 := Xr.cap
    unfold maxLen at hL3
    have lL := Xr.lim
    have lS := Yr.lim
    have fL := Xr.fm
    have fS := Yr.fm
    have HV : Hid (V X + V Y = V xs + V ys) := by show _ = _; rw [← hX, ← hY, V_strip, V_strip]
    clear Xr Yr
    go_wp2_with (at_make; refine wpList_make_own _ rfl _ _ 117 rfl w.heap.size 157 i0 (.int .u32 0) 1 Tryz.underlying117 hi hz0 hz1 _ _ _ (X.length + 1) rfl rfl (by omega) (by rw [hz2]; omega) (by unfold maxLen; omega) (Nat.le_refl _) ?_)
    intro u0 hown0 hgrow0
    have hb0 : Below w.heap.size w u0 := (Below.refl _ _).grown hgrow0 (Nat.le_refl _) (fun k h => by cases h)
    go_wp2
    go_loopw [5, 6, 27] (fun out c i wr => ∃ (k : Nat) (zs : List Nat) (cy : Nat), k ≤ X.length ∧ i = .int .i64 k ∧ c = .int .u64 cy ∧ cy ≤ 1 ∧ zs.length = k ∧ Lim zs ∧ V zs + 4294967296 ^ k * cy = V (X.take k) + V (Y.take k) ∧ wr.ownsRow w.heap.size 157 1 out k (zs.map U) ∧ Below w.heap.size w wr) (fun _ _ i _ => X.length - (intOf i).toNat)
    case atStart => exact ⟨0, [], 0, Nat.zero_le _, rfl, rfl, Nat.zero_le _, rfl, Lim.nil, by simp [V], hown0, hb0⟩
    case round =>
      obtain ⟨k, zs, cy, hk, rfl, rfl, hcy, hzl, lz, heq, hown, hnx⟩ := hrel
      have HE : Hid (V zs + 4294967296 ^ k * cy = V (X.take k) + V (Y.take k)) := heq
      have HZ : Hid (zs.length = k) := hzl
      have hsz := hnx.size
      clear heq hzl
      by_cases hkn : k < X.length
      · obtain ⟨bl, ol, rfl, _, hcl⟩ := fL.at hnx k hkn
        obtain ⟨x, hx⟩ : ∃ x, X.getD k 0 = x := ⟨_, rfl⟩
        obtain ⟨y, hy⟩ : ∃ y, Y.getD k 0 = y := ⟨_, rfl⟩
        have bx : x < 4294967296 := by rw [← hx]; exact lL.getD k
        have byy : y < 4294967296 := by rw [← hy]; exact lS.getD k
        rw [hx] at hcl
        have HX : Hid (X.getD k 0 = x) := hx
        have HY : Hid (Y.getD k 0 = y) := hy
        clear hx hy
        by_cases hkm : k < Y.length
        · obtain ⟨bs, os, rfl, _, hcs⟩ := fS.at hnx k hkm
          rw [HY.out] at hcs
          go_wp2_with (at_builtin; refine wpList_append_one rfl _ _ 117 rfl w.heap.size 157 i0 Tryz.underlying117 hi hz0 hz1 hz2 _ k zs rfl (hown.alloc _) wr.heap.size ((x + cy + y) % 4294967296) rfl (cell_new1 _ _ _ _ (by omega)) (by omega) (by simp; omega) ?_)
          intro v' w1 hown1 hgrow1
          have hb1 : Below w.heap.size w w1 := (hnx.alloc hsz _).grown hgrow1 (by simp; omega) (fun k hk => (hown.lt k hk).1)
          clear hcl hcs hown
          go_wp2
          go_roundw
          case rel =>
            exact ⟨k + 1, zs ++ [(x + cy + y) % 4294967296], (x + cy + y) / 4294967296, by omega, by go_num, by go_num, by omega, by simp [HZ.out], lz.snoc (by omega), add_step HZ.out HE.out HX.out HY.out rfl, own_snoc hown1, hb1⟩
          case measure => simp [intOf]; omega
        · have y0 : y = 0 := by rw [← HY.out]; exact getD_past _ _ (by omega)
          subst y0
          go_wp2_with (at_builtin; refine wpList_append_one rfl _ _ 117 rfl w.heap.size 157 i0 Tryz.underlying117 hi hz0 hz1 hz2 _ k zs rfl (hown.alloc _) wr.heap.size ((x + cy) % 4294967296) rfl (cell_new1 _ _ _ _ (by omega)) (by omega) (by simp; omega) ?_)
          intro v' w1 hown1 hgrow1
          have hb1 : Below w.heap.size w w1 := (hnx.alloc hsz _).grown hgrow1 (by simp; omega) (fun k hk => (hown.lt k hk).1)
          clear hcl hown
          go_wp2
          go_roundw
          case rel =>
            exact ⟨k + 1, zs ++ [(x + cy) % 4294967296], (x + cy) / 4294967296, by omega, by go_num, by go_num, by omega, by simp [HZ.out], lz.snoc (by omega), add_step HZ.out HE.out HX.out HY.out (by omega), own_snoc hown1, hb1⟩
          case measure => simp [intOf]; omega
      · obtain rfl : k = X.length := by omega
        go_wp2_with (at_builtin; refine wpList_append_one rfl _ _ 117 rfl w.heap.size 157 i0 Tryz.underlying117 hi hz0 hz1 hz2 _ _ zs rfl (hown.alloc _) wr.heap.size cy rfl (cell_new1 _ _ _ _ (by omega)) (by omega) (by simp; omega) ?_)
        intro v' w1 hown1 hgrow1
        have hb1 : Below w.heap.size w w1 := (hnx.alloc hsz _).grown hgrow1 (by simp; omega) (fun k hk => (hown.lt k hk).1)
        have o1 := own_snoc hown1
        have lts := lz.snoc (show cy < 4294967296 by omega)
        obtain ⟨ts, hts⟩ : ∃ ts, zs ++ [cy] = ts := ⟨_, rfl⟩
        have htl : ts.length ≤ 1000000000 := by rw [← hts]; simp [HZ.out]; omega
        rw [hts] at o1 lts
        have HT : Hid (zs ++ [cy] = ts) := hts
        obtain ⟨a', cap', rfl, hres⟩ := Res.of lts o1
        clear hown1 hown hts o1
        go_wp2_with fail
        refine (trim_any _ _ _ _ hres.rd htl).mono ?_
        rintro e w2 ⟨a2, c2, rfl, hr2, hb2⟩
        go_wp2
        go_ret
        refine ⟨a2, c2, _, rfl, ?_, tr_strip _, hr2.mono hb1.size, hb1.trans (hb2.mono hb1.size)⟩
        have h1 := HE.out
        rw [List.take_length, List.take_of_length_le (by omega)] at h1
        rw [V_strip, ← HT.out, V_snoc, HZ.out, h1, HV.out]

end Go.Proofs.YtkbbdkecillnpaaGreat
