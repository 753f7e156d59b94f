/-
  foundryref01.length, up: the walks.
-/
import Derived.Test.YtefdkajjdaplbaaGreatDoorRBit
import Derived.Test.YtefdkajjdaplbaaGreatDoorDivB
namespace Go.Proofs.YtefdkajjdaplbaaGreatDoor
open Go.RowKit
set_option linter.unusedSimpArgs false
set_option linter.unusedVariables false

theorem lt_pow_of_bit {v j : Nat} (h : v < 2 ^ (j + 1)) (hb : v / 2 ^ j % 2 = 0) : v < 2 ^ j := by
  have hp : 0 < 2 ^ j := Nat.pow_pos (by decide)
  rw [Nat.pow_succ] at h
  have h1 : v / 2 ^ j < 2 := Nat.div_lt_of_lt_mul (by omega)
  have h2 : v / 2 ^ j = 0 := by generalize v / 2 ^ j = t at h1 hb ⊢; omega
  rcases (Nat.div_eq_zero_iff).1 h2 with h3 | h3
  · omega
  · exact h3
theorem pow_le_of_bit {v j : Nat} (hb : v / 2 ^ j % 2 = 1) : 2 ^ j ≤ v := by
  rcases Nat.lt_or_ge v (2 ^ j) with h | h
  · rw [Nat.div_eq_of_lt h] at hb; simp at hb
  · exact h

set_option maxHeartbeats 800000 in
set_option maxRecDepth 100000 in
theorem rlen_any (a : Option Addr) (cap : Nat) (xs : List Nat) (w : World) (h : Rd w a cap xs) (hl : xs.length ≤ 500000000) :
    Calls Tryz.prog 73 #[.slice a xs.length cap] w fun e w' => ∃ n : Nat, e = .returned (.int .i64 (n : Int)) ∧ n ≤ 32 * xs.length ∧ V xs < 2 ^ n ∧ (1 ≤ n → 2 ^ (n - 1) ≤ V xs) ∧ w = w' := by
  go_enter Tryz.func73, Tryz.ntmps73
  go_wp2_with fail
  refine (rbits_any _ _ _ _ (by omega)).mono ?_
  rintro e w' ⟨rfl, rfl⟩
  go_wp2
  go_loop [3] (fun i => ∃ k : Nat, k ≤ 32 * xs.length ∧ i = .int .i64 (k : Int) ∧ V xs < 2 ^ k) (fun i => (intOf i).toNat)
  case atStart => exact ⟨32 * xs.length, Nat.le_refl _, by go_num, by rw [← pow_32]; exact V_lt h.lim⟩
  case round =>
    obtain ⟨k, hk, rfl, hv⟩ := hrel
    have HV : Hid (V xs < 2 ^ k) := hv
    clear hv
    by_cases hk0 : k = 0
    · subst hk0
      go_wp2
      go_ret
      exact ⟨0, rfl, Nat.zero_le _, HV.out, fun h => by omega, rfl⟩
    · obtain ⟨j, rfl⟩ : ∃ j, k = j + 1 := ⟨k - 1, by omega⟩
      have hjj : ((j + 1 : Nat) : Int) - 1 = (j : Int) := by omega
      go_wp2_with fail
      refine (rbit_any _ _ _ _ _ h (by omega)).mono ?_
      rintro e w' ⟨rfl, rfl⟩
      rcases Nat.mod_two_eq_zero_or_one (V xs / 2 ^ j) with hb0 | hb0
      · rw [hb0]
        have HB : Hid (V xs / 2 ^ j % 2 = 0) := hb0
        clear hb0
        go_wp2
        go_round
        case rel => exact ⟨j, by omega, by go_num, lt_pow_of_bit HV.out HB.out⟩
        case measure => simp [intOf]
      · rw [hb0]
        have HB : Hid (V xs / 2 ^ j % 2 = 1) := hb0
        clear hb0
        go_wp2
        go_ret
        exact ⟨j + 1, rfl, hk, HV.out, fun _ => pow_le_of_bit HB.out, rfl⟩

theorem up_step {zs xs : List Nat} {m k cy x p s : Nat} (hz : zs.length = m + k) (he : V zs + 4294967296 ^ (m + k) * cy = 4294967296 ^ m * (V (xs.take k) * 2 ^ s)) (hx : xs.getD k 0 = x) (hp : x * 2 ^ s = p) :
    V (zs ++ [(cy + p) % 4294967296]) + 4294967296 ^ (m + (k + 1)) * ((cy + p) / 4294967296) = 4294967296 ^ m * (V (xs.take (k + 1)) * 2 ^ s) := by
  rw [V_snoc, hz, V_take_succ, hx, ← Nat.add_assoc, Nat.pow_succ]
  have hd := Nat.mod_add_div (cy + p) 4294967296
  generalize (cy + p) % 4294967296 = r at hd ⊢
  generalize (cy + p) / 4294967296 = d at hd ⊢
  subst hp
  rw [Nat.pow_add] at he ⊢
  generalize 4294967296 ^ k = q at he ⊢
  generalize 4294967296 ^ m = t at he ⊢
  generalize V zs = o at he ⊢
  generalize V (xs.take k) = A at he ⊢
  generalize 2 ^ s = S at he hd ⊢
  have h1 : t * q * (r + 4294967296 * d) = t * q * (cy + x * S) := by rw [hd]
  grind

set_option maxHeartbeats 1600000 in
set_option maxRecDepth 100000 in
theorem rup_any (a : Option Addr) (cap : Nat) (xs : List Nat) (n : Nat) (w : World) (h : Rd w a cap xs) (hl : xs.length ≤ 400000000) (hn : n ≤ 400000000) :
    Calls Tryz.prog 74 #[.slice a xs.length cap, .int .i64 (n : Int)] w fun e w' =>
      ∃ a' cap' zs, e = .returned (.slice a' zs.length cap') ∧ V zs = V xs * 2 ^ n ∧ Tr zs ∧ Res 72 w.heap.size w' a' cap' zs ∧ Below w.heap.size w w' := by
  obtain ⟨i0, hi, hz0, hz1, hz2⟩ := info_parts info_limb
  have fL := h.fm
  have lL := h.lim
  clear h
  obtain ⟨m, hm⟩ : ∃ m, n / 32 = m := ⟨_, rfl⟩
  obtain ⟨s, hs⟩ : ∃ s, n % 32 = s := ⟨_, rfl⟩
  have hs32 : s < 32 := by omega
  have hmb : m ≤ 400000000 := by omega
  have hmi : (n : Int) / 32 = (m : Int) := by omega
  have hsi : (n : Int) % 32 = (s : Int) := by omega
  have HPW : Hid (2 ^ n = 4294967296 ^ m * 2 ^ s) := by
    show _ = _
    rw [pow_32, ← Nat.pow_add]; congr 1; omega
  clear hm hs
  go_enter Tryz.func74, Tryz.ntmps74
  go_wp2_with (at_make; refine wpList_make_full _ rfl _ _ 28 rfl w.heap.size 72 i0 (.int .u32 0) 1 Tryz.underlying28 hi hz0 hz1 _ _ _ _ m rfl rfl (by omega) (by omega) (by rw [hz2]; omega) (by unfold maxLen; omega) (Nat.le_refl _) ?_)
  intro u0 hown0 hgrow0
  have hb0 : Below w.heap.size w u0 := (Below.refl _ _).grown hgrow0 (Nat.le_refl _) (fun k h => by cases h)
  have hown1 : u0.ownsRow w.heap.size 72 1 (.slice (some ⟨w.heap.size, 0, none⟩) m m) m ((List.replicate m 0).map U) := by
    rw [← madeCells_zero]; exact hown0
  clear hown0 hgrow0
  go_wp2
  go_loopw [5, 6, 7] (fun out c i wr => ∃ (k : Nat) (zs : List Nat) (cy : Nat), k ≤ xs.length ∧ i = .int .i64 k ∧ c = .int .u64 cy ∧ cy < 2 ^ s ∧ zs.length = m + k ∧ Lim zs ∧ V zs + 4294967296 ^ (m + k) * cy = 4294967296 ^ m * (V (xs.take k) * 2 ^ s) ∧ wr.ownsRow w.heap.size 72 1 out (m + k) (zs.map U) ∧ Below w.heap.size w wr) (fun _ _ i _ => xs.length - (intOf i).toNat)
  case atStart => exact ⟨0, List.replicate m 0, 0, Nat.zero_le _, rfl, rfl, Nat.pow_pos (by decide), by simp, fun x hx => by rw [List.eq_of_mem_replicate hx]; decide, by rw [V_zeros]; simp [V], hown1, hb0⟩
  case round =>
    obtain ⟨k, zs, cy, hk, rfl, rfl, hcy, hzl, lz, heq, hown, hnx⟩ := hrel
    have HE : Hid (V zs + 4294967296 ^ (m + k) * cy = 4294967296 ^ m * (V (xs.take k) * 2 ^ s)) := heq
    have HZ : Hid (zs.length = m + k) := hzl
    have hsz := hnx.size
    have hP1 : 2 ^ s ≤ 2 ^ 31 := Nat.pow_le_pow_right (by decide) (by omega)
    clear heq hzl
    by_cases hkn : k < xs.length
    · obtain ⟨bl, ol, rfl, _, hcl⟩ := fL.at hnx k hkn
      obtain ⟨x, hx⟩ : ∃ x, xs.getD k 0 = x := ⟨_, rfl⟩
      have bx : x < 4294967296 := by rw [← hx]; exact lL.getD k
      rw [hx] at hcl
      have HX : Hid (xs.getD k 0 = x) := hx
      obtain ⟨p, hp⟩ : ∃ p, x * 2 ^ s = p := ⟨_, rfl⟩
      have bp0 : p ≤ 4294967295 * 2 ^ s := by rw [← hp]; exact Nat.mul_le_mul_right _ (by omega)
      have bp : p ≤ 9223372034707292160 := by omega
      have hpi : (x : Int) * 2 ^ s = (p : Int) := by rw [← hp]; simp
      have hw1 : IntKind.u64.wrap (p : Int) = (p : Int) := by rw [wrap_u64_mod]; omega
      have hcy' : (cy + p) / 4294967296 < 2 ^ s := Nat.div_lt_of_lt_mul (by omega)
      have HP : Hid (x * 2 ^ s = p) := hp
      have bcy : cy < 2147483648 := by omega
      have HCY : Hid ((cy + p) / 4294967296 < 2 ^ s) := hcy'
      clear hx hp hP1 bp0 hcy hcy'
      go_wp2_with (at_builtin; refine wpList_append_one rfl _ _ 28 rfl w.heap.size 72 i0 Tryz.underlying28 hi hz0 hz1 hz2 _ (m + k) zs rfl (hown.alloc _) wr.heap.size ((cy + p) % 4294967296) rfl (cell_new1 _ _ _ _ (by omega)) (by omega) (by simp; omega) ?_)
      intro v' w1 hown1 hgrow1
      have hb1 : Below w.heap.size w w1 := (hnx.alloc hsz _).grown hgrow1 (by simp; omega) (fun k hk => (hown.lt k hk).1)
      clear hown
      go_wp2
      go_roundw
      case rel =>
        exact ⟨k + 1, zs ++ [(cy + p) % 4294967296], (cy + p) / 4294967296, by omega, by go_num, by go_num, HCY.out, by simp [HZ.out]; omega, lz.snoc (by omega), up_step HZ.out HE.out HX.out HP.out, own_snoc hown1, hb1⟩
      case measure => simp [intOf]; omega
    · obtain rfl : k = xs.length := by omega
      have bcy : cy < 4294967296 := by omega
      clear hcy hP1
      go_wp2_with (at_builtin; refine wpList_append_one rfl _ _ 28 rfl w.heap.size 72 i0 Tryz.underlying28 hi hz0 hz1 hz2 _ _ zs rfl (hown.alloc _) wr.heap.size cy rfl (cell_new1 _ _ _ _ (by omega)) (by omega) (by simp; omega) ?_)
      intro v' w1 hown1 hgrow1
      have hb1 : Below w.heap.size w w1 := (hnx.alloc hsz _).grown hgrow1 (by simp; omega) (fun k hk => (hown.lt k hk).1)
      have o1 := own_snoc hown1
      have lts := lz.snoc bcy
      obtain ⟨ts, hts⟩ : ∃ ts, zs ++ [cy] = ts := ⟨_, rfl⟩
      have htl : ts.length ≤ 1000000000 := by rw [← hts]; simp [HZ.out]; omega
      rw [hts] at o1 lts
      have HT : Hid (zs ++ [cy] = ts) := hts
      obtain ⟨a', cap', rfl, hres⟩ := Res.of lts o1
      clear hown1 hown hts o1
      go_wp2_with fail
      refine (rtrim_any _ _ _ _ hres.rd htl).mono ?_
      rintro e w2 ⟨a2, c2, rfl, hr2, hb2⟩
      go_wp2
      go_ret
      refine ⟨a2, c2, _, rfl, ?_, tr_strip _, hr2.mono hb1.size, hb1.trans (hb2.mono hb1.size)⟩
      have h1 := HE.out
      rw [List.take_length] at h1
      rw [V_strip, ← HT.out, V_snoc, HZ.out, h1, HPW.out, Nat.mul_left_comm]

end Go.Proofs.YtefdkajjdaplbaaGreatDoor
