/-
  foundryref01.Bit, bits: the walks.
  foundryref01.length, up: the walks.
  foundryref01.Sub: the walk.
  foundryref01.Div: the walk.
  foundryref01.Small, Gcd: the walks.
-/
import Derived.Test.YtchdoakoelfenaaGreatZX27
import Derived.Test.YtchdoakoelfenaaGreatZX8
import Derived.Laws.BitsAllLaws
import Derived.Test.YtchdoakoelfenaaGreatZX10
import Derived.Outline
namespace Go.Proofs.YtchdoakoelfenaaGreat
open Go.RowKit
set_option linter.unusedSimpArgs false
set_option linter.unusedVariables false

theorem and_one_u32 (n : Nat) (h : n < 4294967296) : bits BinOp.and IntKind.u32 (n : Int) 1 = ((n % 2 : Nat) : Int) := by
  have := u32_and_nat n 1 h (by decide)
  rw [Nat.and_one_is_mod] at this
  exact this

/-- A bit of a number is a bit of one of its limbs. -/
theorem V_bit (xs : List Nat) (lm : Lim xs) (i : Nat) : V xs / 2 ^ i % 2 = xs.getD (i / 32) 0 / 2 ^ (i % 32) % 2 := by
  have e := V_take_drop xs (i / 32)
  have hd := V_head_tail (xs.drop (i / 32))
  have hg : (xs.drop (i / 32)).getD 0 0 = xs.getD (i / 32) 0 := by simp [List.getD]
  rw [hg] at hd
  have hl : V (xs.take (i / 32)) < 4294967296 ^ (i / 32) := by
    have := V_take_Sv xs (i / 32)
    rw [this]
    exact Sv_lt (fun j _ => lm.getD j)
  have hp : 2 ^ i = 4294967296 ^ (i / 32) * 2 ^ (i % 32) := by
    rw [show (4294967296 : Nat) = 2 ^ 32 from rfl, ← Nat.pow_mul, ← Nat.pow_add, Nat.div_add_mod]
  rw [hp, ← Nat.div_div_eq_div_mul, e, Nat.add_mul_div_left _ _ (Nat.pow_pos (by decide)), Nat.div_eq_of_lt hl, Nat.zero_add, hd]
  generalize V (xs.drop (i / 32)).tail = T
  generalize xs.getD (i / 32) 0 = x
  have h32 : (4294967296 : Nat) = 2 ^ (i % 32) * (2 * 2 ^ (31 - i % 32)) := by
    have : (4294967296 : Nat) = 2 ^ 32 := rfl
    rw [this, ← Nat.pow_succ', ← Nat.pow_add]
    congr 1
    omega
  rw [h32, Nat.mul_assoc, Nat.add_mul_div_left _ _ (Nat.pow_pos (by decide)), Nat.mul_assoc, Nat.add_mul_mod_self_left]

set_option maxHeartbeats 400000 in
set_option maxRecDepth 100000 in
theorem rbits_any (a : Option Addr) (n cap : Nat) (w : World) (hn : n ≤ 100000000000000000) :
    Calls Tryz.prog 81 #[.slice a n cap] w fun e w' => e = .returned (.int .i64 (32 * (n : Int))) ∧ w = w' := by
  go_enter Tryz.func81, Tryz.ntmps81
  go_wp2
  go_ret
  exact ⟨rfl, rfl⟩

set_option maxHeartbeats 400000 in
set_option maxRecDepth 100000 in
theorem rbit_any (a : Option Addr) (cap : Nat) (xs : List Nat) (i : Nat) (w : World) (h : Rd w a cap xs) (hi : i ≤ 100000000000000000) :
    Calls Tryz.prog 83 #[.slice a xs.length cap, .int .i64 (i : Int)] w fun e w' => e = .returned (.int .u32 ((V xs / 2 ^ i % 2 : Nat) : Int)) ∧ w = w' := by
  have k1 := h.le
  have k2 := h.cap
  unfold maxLen at k2
  have fm := h.fm
  have lm := h.lim
  clear h
  by_cases hlt : i / 32 < xs.length
  · obtain ⟨b, off, rfl, _, hc⟩ := fm.at (Below.refl _ _) (i / 32) hlt
    obtain ⟨x, hx⟩ : ∃ x, xs.getD (i / 32) 0 = x := ⟨_, rfl⟩
    rw [hx] at hc
    have bx : x < 4294967296 := by rw [← hx]; exact lm.getD _
    go_enter Tryz.func83, Tryz.ntmps83
    go_wp2
    go_ret
    refine ⟨ret_u32 ?_, rfl⟩
    have hq : x / 2 ^ (i % 32) ≤ x := Nat.div_le_self _ _
    have hcast : (x : Int) / 2 ^ (i % 32) = ((x / 2 ^ (i % 32) : Nat) : Int) := by simp
    rw [V_bit xs lm i, hx, hcast, and_one_u32 _ (by omega)]
  · go_enter Tryz.func83, Tryz.ntmps83
    go_wp2
    go_ret
    refine ⟨ret_u32 ?_, rfl⟩
    rw [V_bit xs lm i, getD_past _ _ (by omega)]
    simp

theorem pow_32 (m : Nat) : 4294967296 ^ m = 2 ^ (32 * m) := by rw [Nat.pow_mul]

end Go.Proofs.YtchdoakoelfenaaGreat

namespace Go.Proofs.YtchdoakoelfenaaGreat
open Go.RowKit
set_option linter.unusedSimpArgs false
set_option linter.unusedVariables false

theorem lt_pow_of_bit {v j : Nat} (h : v < 2 ^ (j + 1)) (hb : v / 2 ^ j % 2 = 0) : v < 2 ^ j := by
  have hp : 0 < 2 ^ j := Nat.pow_pos (by decide)
  rw [Nat.pow_succ] at h
  have h1 : v / 2 ^ j < 2 := Nat.div_lt_of_lt_mul (by omega)
  have h2 : v / 2 ^ j = 0 := by generalize v / 2 ^ j = t at h1 hb ⊢; omega
  rcases (Nat.div_eq_zero_iff).1 h2 with h3 | h3
  · omega
  · exact h3
theorem pow_le_of_bit {v j : Nat} (hb : v / 2 ^ j % 2 = 1) : 2 ^ j ≤ v := by
  rcases Nat.lt_or_ge v (2 ^ j) with h | h
  · rw [Nat.div_eq_of_lt h] at hb; simp at hb
  · exact h

set_option maxHeartbeats 800000 in
set_option maxRecDepth 100000 in
theorem rlen_any (a : Option Addr) (cap : Nat) (xs : List Nat) (w : World) (h : Rd w a cap xs) (hl : xs.length ≤ 500000000) :
    Calls Tryz.prog 98 #[.slice a xs.length cap] w fun e w' => ∃ n : Nat, e = .returned (.int .i64 (n : Int)) ∧ n ≤ 32 * xs.length ∧ V xs < 2 ^ n ∧ (1 ≤ n → 2 ^ (n - 1) ≤ V xs) ∧ w = w' := by
  go_enter Tryz.func98, Tryz.ntmps98
  go_wp2_with fail
  refine (rbits_any _ _ _ _ (by omega)).mono ?_
  rintro e w' ⟨rfl, rfl⟩
  go_wp2
  go_loop [3] (fun i => ∃ k : Nat, k ≤ 32 * xs.length ∧ i = .int .i64 (k : Int) ∧ V xs < 2 ^ k) (fun i => (intOf i).toNat)
  case atStart => exact ⟨32 * xs.length, Nat.le_refl _, by go_num, by rw [← pow_32]; exact V_lt h.lim⟩
  case round =>
    obtain ⟨k, hk, rfl, hv⟩ := hrel
    have HV : Hid (V xs < 2 ^ k) := hv
    clear hv
    by_cases hk0 : k = 0
    · subst hk0
      go_wp2
      go_ret
      exact ⟨0, rfl, Nat.zero_le _, HV.out, fun h => by omega, rfl⟩
    · obtain ⟨j, rfl⟩ : ∃ j, k = j + 1 := ⟨k - 1, by omega⟩
      have hjj : ((j + 1 : Nat) : Int) - 1 = (j : Int) := by omega
      go_wp2_with fail
      refine (rbit_any _ _ _ _ _ h (by omega)).mono ?_
      rintro e w' ⟨rfl, rfl⟩
      rcases Nat.mod_two_eq_zero_or_one (V xs / 2 ^ j) with hb0 | hb0
      · rw [hb0]
        have HB : Hid (V xs / 2 ^ j % 2 = 0) := hb0
        clear hb0
        go_wp2
        go_round
        case rel => exact ⟨j, by omega, by go_num, lt_pow_of_bit HV.out HB.out⟩
        case measure => simp [intOf]
      · rw [hb0]
        have HB : Hid (V xs / 2 ^ j % 2 = 1) := hb0
        clear hb0
        go_wp2
        go_ret
        exact ⟨j + 1, rfl, hk, HV.out, fun _ => pow_le_of_bit HB.out, rfl⟩

theorem up_step {zs xs : List Nat} {m k cy x p s : Nat} (hz : zs.length = m + k) (he : V zs + 4294967296 ^ (m + k) * cy = 4294967296 ^ m * (V (xs.take k) * 2 ^ s)) (hx : xs.getD k 0 = x) (hp : x * 2 ^ s = p) :
    V (zs ++ [(cy + p) % 4294967296]) + 4294967296 ^ (m + (k + 1)) * ((cy + p) / 4294967296) = 4294967296 ^ m * (V (xs.take (k + 1)) * 2 ^ s) := by
  rw [V_snoc, hz, V_take_succ, hx, ← Nat.add_assoc, Nat.pow_succ]
  have hd := Nat.mod_add_div (cy + p) 4294967296
  generalize (cy + p) % 4294967296 = r at hd ⊢
  generalize (cy + p) / 4294967296 = d at hd ⊢
  subst hp
  rw [Nat.pow_add] at he ⊢
  generalize 4294967296 ^ k = q at he ⊢
  generalize 4294967296 ^ m = t at he ⊢
  generalize V zs = o at he ⊢
  generalize V (xs.take k) = A at he ⊢
  generalize 2 ^ s = S at he hd ⊢
  have h1 : t * q * (r + 4294967296 * d) = t * q * (cy + x * S) := by rw [hd]
  grind

set_option maxHeartbeats 1600000 in
set_option maxRecDepth 100000 in
theorem rup_any (a : Option Addr) (cap : Nat) (xs : List Nat) (n : Nat) (w : World) (h : Rd w a cap xs) (hl : xs.length ≤ 400000000) (hn : n ≤ 400000000) :
    Calls Tryz.prog 99 #[.slice a xs.length cap, .int .i64 (n : Int)] w fun e w' =>
      ∃ a' cap' zs, e = .returned (.slice a' zs.length cap') ∧ V zs = V xs * 2 ^ n ∧ Tr zs ∧ Res 136 w.heap.size w' a' cap' zs ∧ Below w.heap.size w w' := by
  obtain ⟨i0, hi, hz0, hz1, hz2⟩ := info_parts info_limb
  have fL := h.fm
  have lL := h.lim
  clear h
  obtain ⟨m, hm⟩ : ∃ m, n / 32 = m := ⟨_, rfl⟩
  obtain ⟨s, hs⟩ : ∃ s, n % 32 = s := ⟨_, rfl⟩
  have hs32 : s < 32 := by omega
  have hmb : m ≤ 400000000 := by omega
  have hmi : (n : Int) / 32 = (m : Int) := by omega
  have hsi : (n : Int) % 32 = (s : Int) := by omega
  have HPW : Hid (2 ^ n = 4294967296 ^ m * 2 ^ s) := by
    show _ = _
    rw [pow_32, ← Nat.pow_add]; congr 1; omega
  clear hm hs
  go_enter Tryz.func99, Tryz.ntmps99
  go_wp2_with (at_make; refine wpList_make_full _ rfl _ _ 89 rfl w.heap.size 136 i0 (.int .u32 0) 1 Tryz.underlying89 hi hz0 hz1 _ _ _ _ m rfl rfl (by omega) (by omega) (by rw [hz2]; omega) (by unfold maxLen; omega) (Nat.le_refl _) ?_)
  intro u0 hown0 hgrow0
  have hb0 : Below w.heap.size w u0 := (Below.refl _ _).grown hgrow0 (Nat.le_refl _) (fun k h => by cases h)
  have hown1 : u0.ownsRow w.heap.size 136 1 (.slice (some ⟨w.heap.size, 0, none⟩) m m) m ((List.replicate m 0).map U) := by
    rw [← madeCells_zero]; exact hown0
  clear hown0 hgrow0
  go_wp2
  go_loopw [5, 6, 7] (fun out c i wr => ∃ (k : Nat) (zs : List Nat) (cy : Nat), k ≤ xs.length ∧ i = .int .i64 k ∧ c = .int .u64 cy ∧ cy < 2 ^ s ∧ zs.length = m + k ∧ Lim zs ∧ V zs + 4294967296 ^ (m + k) * cy = 4294967296 ^ m * (V (xs.take k) * 2 ^ s) ∧ wr.ownsRow w.heap.size 136 1 out (m + k) (zs.map U) ∧ Below w.heap.size w wr) (fun _ _ i _ => xs.length - (intOf i).toNat)
  case atStart => exact ⟨0, List.replicate m 0, 0, Nat.zero_le _, rfl, rfl, Nat.pow_pos (by decide), by simp, fun x hx => by rw [List.eq_of_mem_replicate hx]; decide, by rw [V_zeros]; simp [V], hown1, hb0⟩
  case round =>
    obtain ⟨k, zs, cy, hk, rfl, rfl, hcy, hzl, lz, heq, hown, hnx⟩ := hrel
    have HE : Hid (V zs + 4294967296 ^ (m + k) * cy = 4294967296 ^ m * (V (xs.take k) * 2 ^ s)) := heq
    have HZ : Hid (zs.length = m + k) := hzl
    have hsz := hnx.size
    have hP1 : 2 ^ s ≤ 2 ^ 31 := Nat.pow_le_pow_right (by decide) (by omega)
    clear heq hzl
    by_cases hkn : k < xs.length
    · obtain ⟨bl, ol, rfl, _, hcl⟩ := fL.at hnx k hkn
      obtain ⟨x, hx⟩ : ∃ x, xs.getD k 0 = x := ⟨_, rfl⟩
      have bx : x < 4294967296 := by rw [← hx]; exact lL.getD k
      rw [hx] at hcl
      have HX : Hid (xs.getD k 0 = x) := hx
      obtain ⟨p, hp⟩ : ∃ p, x * 2 ^ s = p := ⟨_, rfl⟩
      have bp0 : p ≤ 4294967295 * 2 ^ s := by rw [← hp]; exact Nat.mul_le_mul_right _ (by omega)
      have bp : p ≤ 9223372034707292160 := by omega
      have hpi : (x : Int) * 2 ^ s = (p : Int) := by rw [← hp]; simp
      have hw1 : IntKind.u64.wrap (p : Int) = (p : Int) := by rw [wrap_u64_mod]; omega
      have hcy' : (cy + p) / 4294967296 < 2 ^ s := Nat.div_lt_of_lt_mul (by omega)
      have HP : Hid (x * 2 ^ s = p) := hp
      have bcy : cy < 2147483648 := by omega
      have HCY : Hid ((cy + p) / 4294967296 < 2 ^ s) := hcy'
      clear hx hp hP1 bp0 hcy hcy'
      go_wp2_with (at_builtin; refine wpList_append_one rfl _ _ 89 rfl w.heap.size 136 i0 Tryz.underlying89 hi hz0 hz1 hz2 _ (m + k) zs rfl (hown.alloc _) wr.heap.size ((cy + p) % 4294967296) rfl (cell_new1 _ _ _ _ (by omega)) (by omega) (by simp; omega) ?_)
      intro v' w1 hown1 hgrow1
      have hb1 : Below w.heap.size w w1 := (hnx.alloc hsz _).grown hgrow1 (by simp; omega) (fun k hk => (hown.lt k hk).1)
      clear hown
      go_wp2
      go_roundw
      case rel =>
        exact ⟨k + 1, zs ++ [(cy + p) % 4294967296], (cy + p) / 4294967296, by omega, by go_num, by go_num, HCY.out, by simp [HZ.out]; omega, lz.snoc (by omega), up_step HZ.out HE.out HX.out HP.out, own_snoc hown1, hb1⟩
      case measure => simp [intOf]; omega
    · obtain rfl : k = xs.length := by omega
      have bcy : cy < 4294967296 := by omega
      clear hcy hP1
      go_wp2_with (at_builtin; refine wpList_append_one rfl _ _ 89 rfl w.heap.size 136 i0 Tryz.underlying89 hi hz0 hz1 hz2 _ _ zs rfl (hown.alloc _) wr.heap.size cy rfl (cell_new1 _ _ _ _ (by omega)) (by omega) (by simp; omega) ?_)
      intro v' w1 hown1 hgrow1
      have hb1 : Below w.heap.size w w1 := (hnx.alloc hsz _).grown hgrow1 (by simp; omega) (fun k hk => (hown.lt k hk).1)
      have o1 := own_snoc hown1
      have lts := lz.snoc bcy
      obtain ⟨ts, hts⟩ : ∃ ts, zs ++ [cy] = ts := ⟨_, rfl⟩
      have htl : ts.length ≤ 1000000000 := by rw [← hts]; simp [HZ.out]; omega
      rw [hts] at o1 lts
      have HT : Hid (zs ++ [cy] = ts) := hts
      obtain ⟨a', cap', rfl, hres⟩ := Res.of lts o1
      clear hown1 hown hts o1
      go_wp2_with fail
      refine (rtrim_any _ _ _ _ hres.rd htl).mono ?_
      rintro e w2 ⟨a2, c2, rfl, hr2, hb2⟩
      go_wp2
      go_ret
      refine ⟨a2, c2, _, rfl, ?_, tr_strip _, hr2.mono hb1.size, hb1.trans (hb2.mono hb1.size)⟩
      have h1 := HE.out
      rw [List.take_length] at h1
      rw [V_strip, ← HT.out, V_snoc, HZ.out, h1, HPW.out, Nat.mul_left_comm]

end Go.Proofs.YtchdoakoelfenaaGreat

namespace Go.Proofs.YtchdoakoelfenaaGreat
open Go.RowKit
set_option linter.unusedSimpArgs false
set_option linter.unusedVariables false

set_option maxHeartbeats 1600000 in
set_option maxRecDepth 100000 in
theorem rsub_any (a : Option Addr) (cap : Nat) (xs : List Nat) (b : Option Addr) (cbp : Nat) (ys : List Nat) (w : World) (ha : Rd w a cap xs) (hb : Rd w b cbp ys) (hla : xs.length ≤ 500000000) (hlb : ys.length ≤ 500000000) :
    Calls Tryz.prog 80 #[.slice a xs.length cap, .slice b ys.length cbp] w fun e w' =>
      ∃ a' cap' zs, e = .returned (.slice a' zs.length cap') ∧ V zs = V xs - V ys ∧ Tr zs ∧ Res 136 w.heap.size w' a' cap' zs ∧ Below w.heap.size w w' := by
  obtain ⟨i0, hi, hz0, hz1, hz2⟩ := info_parts info_limb
  by_cases hle : V xs ≤ V ys
  · have hc := cmpN_le hle
    go_enter Tryz.func80, Tryz.ntmps80
    go_wp2_with fail
    refine (rcmp_any _ _ _ _ _ _ _ ha hb).mono ?_
    rintro e w1 ⟨rfl, rfl⟩
    generalize cmpN (V xs) (V ys) = q at hc ⊢
    go_wp2
    go_ret
    refine ⟨none, 0, [], rfl, ?_, tr_nil, ⟨Lim.nil, World.ownsRow_nil _ _ _ _⟩, Below.refl _ _⟩
    show 0 = _; omega
  · have hc := cmpN_gt (Nat.lt_of_not_le hle)
    have HC : Hid (cmpN (V xs) (V ys) = 1) := hc
    have HV : Hid (V ys < V xs) := Nat.lt_of_not_le hle
    have lL := ha.lim
    have lS := hb.lim
    have fL := ha.fm
    have fS := hb.fm
    have q1 := ha.le
    have q2 := ha.cap
    unfold maxLen at q2
    clear hc
    go_enter Tryz.func80, Tryz.ntmps80
    go_wp2_with fail
    refine (rcmp_any _ _ _ _ _ _ _ ha hb).mono ?_
    rintro e w0 ⟨rfl, rfl⟩
    rw [HC.out]
    clear ha hb
    go_wp2
    go_loopw [5, 6, 7] (fun out c i wr => ∃ (k : Nat) (zs : List Nat) (cy : Nat), k ≤ xs.length ∧ i = .int .i64 k ∧ c = .int .u64 cy ∧ cy ≤ 1 ∧ zs.length = k ∧ Lim zs ∧ V zs + V (ys.take k) = V (xs.take k) + 4294967296 ^ k * cy ∧ wr.ownsRow w.heap.size 136 1 out k (zs.map U) ∧ Below w.heap.size w wr) (fun _ _ i _ => xs.length - (intOf i).toNat)
    case atStart => exact ⟨0, [], 0, Nat.zero_le _, rfl, rfl, Nat.zero_le _, rfl, Lim.nil, by simp [V], World.ownsRow_nil _ _ _ _, Below.refl _ _⟩
    case round =>
      obtain ⟨k, zs, cy, hk, rfl, rfl, hcy, hzl, lz, heq, hown, hnx⟩ := hrel
      have HE : Hid (V zs + V (ys.take k) = V (xs.take k) + 4294967296 ^ k * cy) := heq
      have HZ : Hid (zs.length = k) := hzl
      have hsz := hnx.size
      clear heq hzl
      by_cases hkn : k < xs.length
      · obtain ⟨bl, ol, rfl, _, hcl⟩ := fL.at hnx k hkn
        obtain ⟨x, hx⟩ : ∃ x, xs.getD k 0 = x := ⟨_, rfl⟩
        obtain ⟨y, hy⟩ : ∃ y, ys.getD k 0 = y := ⟨_, rfl⟩
        have bx : x < 4294967296 := by rw [← hx]; exact lL.getD k
        have byy : y < 4294967296 := by rw [← hy]; exact lS.getD k
        rw [hx] at hcl
        have HX : Hid (xs.getD k 0 = x) := hx
        have HY : Hid (ys.getD k 0 = y) := hy
        clear hx hy
        by_cases hkm : k < ys.length
        · obtain ⟨bs, os, rfl, _, hcs⟩ := fS.at hnx k hkm
          rw [HY.out] at hcs
          go_wp2_with (at_builtin; refine wpList_append_one rfl _ _ 89 rfl w.heap.size 136 i0 Tryz.underlying89 hi hz0 hz1 hz2 _ k zs rfl (hown.alloc _) wr.heap.size ((x + 4294967296 - cy - y) % 4294967296) rfl (cell_new1 _ _ _ _ (by omega)) (by omega) (by simp; omega) ?_)
          intro v' w1 hown1 hgrow1
          have hb1 : Below w.heap.size w w1 := (hnx.alloc hsz _).grown hgrow1 (by simp; omega) (fun k hk => (hown.lt k hk).1)
          clear hown
          go_wp2
          go_roundw
          case rel =>
            exact ⟨k + 1, zs ++ [(x + 4294967296 - cy - y) % 4294967296], 1 - (x + 4294967296 - cy - y) / 4294967296, by omega, by go_num, u64_eq (by omega), by omega, by simp [HZ.out], lz.snoc (by omega), sub_step HZ.out HE.out HX.out HY.out (by omega) hcy byy bx, own_snoc hown1, hb1⟩
          case measure => simp [intOf]; omega
        · have y0 : y = 0 := by rw [← HY.out]; exact getD_past _ _ (by omega)
          subst y0
          go_wp2_with (at_builtin; refine wpList_append_one rfl _ _ 89 rfl w.heap.size 136 i0 Tryz.underlying89 hi hz0 hz1 hz2 _ k zs rfl (hown.alloc _) wr.heap.size ((x + 4294967296 - cy) % 4294967296) rfl (cell_new1 _ _ _ _ (by omega)) (by omega) (by simp; omega) ?_)
          intro v' w1 hown1 hgrow1
          have hb1 : Below w.heap.size w w1 := (hnx.alloc hsz _).grown hgrow1 (by simp; omega) (fun k hk => (hown.lt k hk).1)
          clear hown
          go_wp2
          go_roundw
          case rel =>
            exact ⟨k + 1, zs ++ [(x + 4294967296 - cy) % 4294967296], 1 - (x + 4294967296 - cy) / 4294967296, by omega, by go_num, u64_eq (by omega), by omega, by simp [HZ.out], lz.snoc (by omega), sub_step HZ.out HE.out HX.out HY.out (by omega) hcy byy bx, own_snoc hown1, hb1⟩
          case measure => simp [intOf]; omega
      · obtain rfl : k = xs.length := by omega
        obtain ⟨a', cap', rfl, hres⟩ := Res.of lz hown
        clear hown
        go_wp2_with fail
        refine (rtrim_any _ _ _ _ hres.rd (by rw [HZ.out]; omega)).mono ?_
        rintro e w2 ⟨a2, c2, rfl, hr2, hb2⟩
        go_wp2
        go_ret
        refine ⟨a2, c2, _, rfl, ?_, tr_strip _, hr2.mono hsz, hnx.trans (hb2.mono hsz)⟩
        rw [V_strip]
        exact sub_end lz HZ.out HE.out lL HV.out

end Go.Proofs.YtchdoakoelfenaaGreat

namespace Go.Proofs.YtchdoakoelfenaaGreat
open Go.RowKit
set_option linter.unusedSimpArgs false
set_option linter.unusedVariables false

theorem rdiv_start {A B la lb n : Nat} (ha : A < 2 ^ la) (hb : 2 ^ (lb - 1) ≤ B) (hlb : 1 ≤ lb) (hn : la - lb ≤ n) : A < B * 2 ^ (n + 1) := by
  have h1 : 2 ^ (lb - 1) * 2 ^ (n + 1) ≤ B * 2 ^ (n + 1) := Nat.mul_le_mul_right _ hb
  rw [← Nat.pow_add] at h1
  have h2 : 2 ^ la ≤ 2 ^ (lb - 1 + (n + 1)) := Nat.pow_le_pow_right (by decide) (by omega)
  omega

/-- A limb of a number whose low bits are 0 has room for one more. -/
theorem limb_room {Q : List Nat} (lQ : Lim Q) {i : Nat} (h : V Q % 2 ^ (i + 1) = 0) : Q.getD (i / 32) 0 + 2 ^ (i % 32) < 4294967296 := by
  have e := V_take_drop Q (i / 32)
  have hd := V_head_tail (Q.drop (i / 32))
  have hg : (Q.drop (i / 32)).getD 0 0 = Q.getD (i / 32) 0 := by simp [List.getD]
  rw [hg] at hd
  have hl : V (Q.take (i / 32)) < 4294967296 ^ (i / 32) := by rw [V_take_Sv]; exact Sv_lt (fun j _ => lQ.getD j)
  have hx := lQ.getD (i / 32)
  have hp : 2 ^ (i + 1) = 4294967296 ^ (i / 32) * 2 ^ (i % 32 + 1) := by rw [pow_32, ← Nat.pow_add]; congr 1; omega
  have hP : 0 < 4294967296 ^ (i / 32) := Nat.pow_pos (by decide)
  obtain ⟨t, ht⟩ := Nat.dvd_of_mod_eq_zero h
  have h1 : V (Q.drop (i / 32)) = 2 ^ (i % 32 + 1) * t := by
    have : V Q / 4294967296 ^ (i / 32) = V (Q.drop (i / 32)) := by rw [e, Nat.add_mul_div_left _ _ hP, Nat.div_eq_of_lt hl, Nat.zero_add]
    rw [← this, ht, hp, Nat.mul_assoc, Nat.mul_div_cancel_left _ hP]
  have h32 : (4294967296 : Nat) = 2 ^ (i % 32 + 1) * 2 ^ (31 - i % 32) := by rw [← Nat.pow_add, show i % 32 + 1 + (31 - i % 32) = 32 by omega]
  have hS : 0 < 2 ^ (i % 32) := Nat.pow_pos (by decide)
  generalize Q.getD (i / 32) 0 = x at *
  generalize V (Q.drop (i / 32)).tail = T at *
  have h2 : x % 2 ^ (i % 32 + 1) = 0 := by
    have h3 : (x + 4294967296 * T) % 2 ^ (i % 32 + 1) = 0 := by rw [← hd, h1, Nat.mul_mod_right]
    rw [h32, Nat.mul_assoc, Nat.add_mul_mod_self_left] at h3
    exact h3
  obtain ⟨u, hu⟩ := Nat.dvd_of_mod_eq_zero h2
  rw [h32] at hx ⊢
  rw [Nat.pow_succ] at *
  generalize 2 ^ (i % 32) = S at *
  generalize 2 ^ (31 - i % 32) = R at *
  rw [hu] at hx ⊢
  have hur : u < R := Nat.lt_of_mul_lt_mul_left hx
  have h4 : S * 2 * (u + 1) ≤ S * 2 * R := Nat.mul_le_mul_left _ hur
  rw [Nat.mul_add, Nat.mul_one] at h4
  omega

theorem V_set_add {Q : List Nat} {j d : Nat} (h : j < Q.length) : V (Q.set j (Q.getD j 0 + d)) = V Q + 4294967296 ^ j * d := by
  have e1 := V_take_drop (Q.set j (Q.getD j 0 + d)) j
  have e2 := V_take_drop Q j
  rw [V_drop, getD_set_eq _ _ _ h, List.drop_set_of_lt (by omega), List.take_set_of_le (by omega)] at e1
  rw [V_drop Q j] at e2
  rw [e1, e2]
  generalize 4294967296 ^ j = p
  grind

theorem rdiv_take {R B A Qv i : Nat} (hinv : R + B * Qv = A) (hge : B * 2 ^ i ≤ R) : (R - B * 2 ^ i) + B * (Qv + 2 ^ i) = A := by
  rw [Nat.mul_add]; omega
theorem rdiv_less {R B i : Nat} (h : R < B * 2 ^ (i + 1)) (hge : B * 2 ^ i ≤ R) : R - B * 2 ^ i < B * 2 ^ i := by
  rw [Nat.pow_succ, ← Nat.mul_assoc] at h; omega
theorem mod_low {v i : Nat} (h : v % 2 ^ (i + 1) = 0) : v % 2 ^ i = 0 := by
  obtain ⟨t, ht⟩ := Nat.dvd_of_mod_eq_zero h
  rw [ht, Nat.pow_succ, Nat.mul_assoc, Nat.mul_mod_right]
theorem mod_low_add {v i : Nat} (h : v % 2 ^ (i + 1) = 0) : (v + 2 ^ i) % 2 ^ i = 0 := by
  rw [Nat.add_mod_right]; exact mod_low h

theorem Res.addr {e : TypeId} {base : Nat} {w : World} {a : Option Addr} {cap : Nat} {xs : List Nat} (h : Res e base w a cap xs) (g o : Nat) (ha : a = some ⟨g, o, none⟩) : base ≤ g ∧ g < w.heap.size := by
  rcases h.2.2 with ⟨h0, _⟩ | ⟨g', cap', cur, h1, h2, h3, _⟩
  · rw [ha] at h0; cases h0
  · rw [ha] at h1
    simp at h1
    rw [h1.1.1]
    exact ⟨h2, (Array.getElem?_eq_some_iff.1 h3).1⟩

theorem Res.set_other {e : TypeId} {base k : Nat} {w : World} {a : Option Addr} {cap : Nat} {xs : List Nat} (h : Res e base w a cap xs) (hne : ∀ g o, a = some ⟨g, o, none⟩ → g ≠ k) (i : Nat) (v : Value) : Res e base (w.setCell ⟨k, i, none⟩ v) a cap xs := by
  refine ⟨h.1, h.2.1, ?_⟩
  rcases h.2.2 with h0 | ⟨g, cap', cur, h1, h2, h3, h4⟩
  · exact .inl h0
  · have hg : g ≠ k := hne g 0 (by simp at h1; exact h1.1)
    exact .inr ⟨g, cap', cur, h1, h2, (Below.heap_setCell w ⟨k, i, none⟩ v g hg).trans h3, h4⟩

theorem rtrim_n (a : Option Addr) (cap n : Nat) (xs : List Nat) (w : World) (hn : n = xs.length) (h : Rd w a cap xs) (hl : xs.length ≤ 1000000000) :
    Calls Tryz.prog 97 #[.slice a n cap] w fun e w' => ∃ a' cap', e = .returned (.slice a' (strip xs).length cap') ∧ Res 136 w.heap.size w' a' cap' (strip xs) ∧ Below w.heap.size w w' := by
  subst hn; exact rtrim_any a cap xs w h hl

set_option maxHeartbeats 4000000 in
set_option maxRecDepth 100000 in
theorem rdiv_any (a : Option Addr) (cap : Nat) (xs : List Nat) (b : Option Addr) (cbp : Nat) (ys : List Nat) (w : World) (ha : Rd w a cap xs) (hb : Rd w b cbp ys) (hla : xs.length ≤ 10000000) (hlb : ys.length ≤ 10000000) :
    Calls Tryz.prog 75 #[.slice a xs.length cap, .slice b ys.length cbp] w fun e w' =>
      ∃ a1 c1 z1 a2 c2 z2, e = .returned (.tuple #[.slice a1 z1.length c1, .slice a2 z2.length c2]) ∧ V z1 = V xs / V ys ∧ V z2 = remN (V xs) (V ys) ∧ Tr z1 ∧ Tr z2 ∧ Res 136 w.heap.size w' a1 c1 z1 ∧ Res 136 w.heap.size w' a2 c2 z2 ∧ Below w.heap.size w w' := by
  obtain ⟨i0, hi, hz0, hz1, hz2⟩ := info_parts info_limb
  go_enter Tryz.func75, Tryz.ntmps75
  go_wp2_with fail
  refine (rtrim_any _ _ xs _ ha (by omega)).mono ?_
  rintro e w1 ⟨aR, cR, rfl, hR1, hb1⟩
  have hs1 := hb1.size
  have ha1 := ha.below hb1
  have hb1r := hb.below hb1
  have lx := ha.lim
  have ly := hb.lim
  clear ha
  go_wp2_with fail
  refine (rlen_any _ _ ys _ hb1r (by omega)).mono ?_
  rintro e w' ⟨lb, rfl, hlb1, hlb2, hlb3, rfl⟩
  by_cases hlb0 : lb = 0
  · subst hlb0
    have hY0 : V ys = 0 := by simpa using hlb2
    have HY0 : Hid (V ys = 0) := hY0
    clear hY0 hlb2 hlb3
    go_wp2
    go_ret2
    exact ⟨none, 0, [], none, 0, [], rfl, by rw [HY0.out, Nat.div_zero]; rfl, by rw [remN_zero _ HY0.out]; rfl, tr_nil, tr_nil, ⟨Lim.nil, World.ownsRow_nil _ _ _ _⟩, ⟨Lim.nil, World.ownsRow_nil _ _ _ _⟩, hb1⟩
  · have hq : ((lb : Int) == 0) = false := beq_eq_false_iff_ne.2 (by omega)
    have HLB : Hid (2 ^ (lb - 1) ≤ V ys) := hlb3 (by omega)
    clear hlb2 hlb3
    go_wp2_with fail
    refine (rlen_any _ _ xs _ ha1 (by omega)).mono ?_
    rintro e w' ⟨la, rfl, hla1, hla2, _, rfl⟩
    have HLA : Hid (V xs < 2 ^ la) := hla2
    clear hla2
    go_wp2_with fail
    refine (rlen_any _ _ ys _ hb1r (by omega)).mono ?_
    rintro e w' ⟨lb', rfl, hlb1', hlb2', hlb3', rfl⟩
    have hpos : 0 < V ys := Nat.lt_of_lt_of_le (Nat.pow_pos (by decide)) HLB.out
    have hlb'1 : 1 ≤ lb' := by
      rcases Nat.eq_zero_or_pos lb' with h | h
      · rw [h] at hlb2'; simp at hlb2'; omega
      · exact h
    obtain ⟨n, hn⟩ : ∃ n, la - lb' = n := ⟨_, rfl⟩
    have hmx : max ((la : Int) - (lb' : Int)) 0 = (n : Int) := by omega
    have hnb : n ≤ 320000000 := by omega
    have HST : Hid (V xs < V ys * 2 ^ (n + 1)) := rdiv_start HLA.out (hlb3' hlb'1) hlb'1 (by omega)
    have HPOS : Hid (0 < V ys) := hpos
    have HN32 : Hid (n ≤ 32 * xs.length) := by show _ ≤ _; omega
    clear hpos hlb2' hlb3' hn HLB HLA
    go_wp2_with (at_make; refine wpList_make_full _ rfl _ _ 89 rfl w1.heap.size 136 i0 (.int .u32 0) 1 Tryz.underlying89 hi hz0 hz1 _ _ _ _ (n / 32 + 1) rfl rfl (by omega) (by omega) (by rw [hz2]; omega) (by unfold maxLen; omega) (Nat.le_refl _) ?_)
    intro u0 hown0 hgrow0
    have hb0 : Below w1.heap.size w1 u0 := (Below.refl _ _).grown hgrow0 (Nat.le_refl _) (fun k h => by cases h)
    have hB0 := blk_made hown0
    have hR0 := hR1.below hb0
    have hbw0 : Below w.heap.size w u0 := hb1.trans (hb0.mono hs1)
    have haddr : ∀ g o, aR = some ⟨g, o, none⟩ → g ≠ w1.heap.size := fun g o e => by have := (hR1.addr g o e).2; omega
    have HAD : Hid (∀ g o, aR = some ⟨g, o, none⟩ → g ≠ w1.heap.size) := haddr
    have HVS : Hid (V (strip xs) = V xs) := V_strip xs
    have tX := tr_strip xs
    clear hown0 hgrow0 hmx haddr
    generalize strip xs = X at hR0 hR1 HVS tX ⊢
    go_wp2
    go_loopw [6, 9] (fun rv i wr => ∃ (k : Nat) (q : Int) (aR : Option Addr) (cR : Nat) (R Q : List Nat), k ≤ n + 1 ∧ q = (k : Int) - 1 ∧ i = .int .i64 q ∧ rv = .slice aR R.length cR ∧ Tr R ∧ Res 136 w.heap.size wr aR cR R ∧ (∀ g o, aR = some ⟨g, o, none⟩ → g ≠ w1.heap.size) ∧
        Q.length = n / 32 + 1 ∧ Lim Q ∧ Blk 136 wr w1.heap.size Q ∧ V R + V ys * V Q = V xs ∧ V R < V ys * 2 ^ k ∧ V Q % 2 ^ k = 0 ∧ Below w.heap.size w wr) (fun _ i _ => (intOf i + 1).toNat)
    case atStart =>
      exact ⟨n + 1, _, aR, cR, X, List.replicate (n / 32 + 1) 0, Nat.le_refl _, by omega, rfl, rfl, tX, hR0, HAD.out, List.length_replicate, fun x hx => by rw [List.eq_of_mem_replicate hx]; decide, hB0, by rw [V_zeros, Nat.mul_zero, Nat.add_zero]; exact HVS.out, by rw [HVS.out]; exact HST.out, by rw [V_zeros, Nat.zero_mod], hbw0⟩
    case round =>
      obtain ⟨k, q, aR', cR', R, Q, hk, hqk, rfl, rfl, tR, hR, hadr, hQl, lQ, hB, hinv, hless, hmod, hnx⟩ := hrel
      have HI : Hid (V R + V ys * V Q = V xs) := hinv
      have HL : Hid (V R < V ys * 2 ^ k) := hless
      have HM : Hid (V Q % 2 ^ k = 0) := hmod
      have HQ : Hid (Q.length = n / 32 + 1) := hQl
      have HA : Hid (∀ g o, aR' = some ⟨g, o, none⟩ → g ≠ w1.heap.size) := hadr
      have hsz := hnx.size
      have hRl : R.length ≤ xs.length := len_le_of_V tR (Nat.lt_of_le_of_lt (by omega) (V_lt lx))
      clear hinv hless hmod hQl hadr
      by_cases hk0 : k = 0
      · subst hk0
        obtain rfl : q = -1 := by omega
        clear hqk
        have hr := hB.rd lQ 0 (n / 32 + 1) (n / 32 + 1) (by rw [HQ.out]; omega) (Nat.le_refl _) (by unfold maxLen; omega)
        rw [List.drop_zero, List.take_of_length_le (by rw [HQ.out]; exact Nat.le_refl _)] at hr
        go_wp2_with fail
        refine (rtrim_n _ _ (n / 32 + 1) Q _ HQ.out.symm hr (by rw [HQ.out]; omega)).mono ?_
        rintro e v1 ⟨a1, c1, rfl, hr1, hv1⟩
        have hbv : Below w.heap.size w v1 := hnx.trans (hv1.mono hsz)
        have hR' := hR.below hv1
        go_wp2
        go_ret2
        have hl := HL.out
        rw [Nat.pow_zero, Nat.mul_one] at hl
        have hi1 := HI.out
        refine ⟨a1, c1, strip Q, aR', cR', R, rfl, ?_, ?_, tr_strip _, tR, hr1.mono hsz, hR', hbv⟩
        · rw [V_strip, ← hi1, Nat.add_mul_div_left _ _ HPOS.out, Nat.div_eq_of_lt hl, Nat.zero_add]
        · rw [remN_pos _ HPOS.out, ← hi1, Nat.add_mul_mod_self_left, Nat.mod_eq_of_lt hl]
      · obtain ⟨j, rfl⟩ : ∃ j, k = j + 1 := ⟨k - 1, by omega⟩
        obtain rfl : q = (j : Int) := by omega
        clear hqk
        go_wp2_with fail
        refine (rup_any _ _ ys j _ (hb.below hnx) (by omega) (by omega)).mono ?_
        rintro e v1 ⟨ax, cx, x, rfl, hxv, hxt, hxr, hv1⟩
        have hbv1 : Below w.heap.size w v1 := hnx.trans (hv1.mono hsz)
        have hR' := hR.below hv1
        have hB' := hB.below hv1
        have hxl : x.length ≤ ys.length + xs.length := by
          refine len_le_of_V hxt ?_
          have h1 : 2 ^ j ≤ 4294967296 ^ xs.length := by rw [pow_32]; exact Nat.pow_le_pow_right (by decide) (by have := HN32.out; omega)
          rw [hxv, Nat.pow_add]
          calc V ys * 2 ^ j ≤ V ys * 4294967296 ^ xs.length := Nat.mul_le_mul_left _ h1
            _ < 4294967296 ^ ys.length * 4294967296 ^ xs.length := Nat.mul_lt_mul_of_pos_right (V_lt ly) (Nat.pow_pos (by decide))
        have HXV : Hid (V x = V ys * 2 ^ j) := hxv
        clear hxv hR hB
        go_wp2_with fail
        refine (rcmp_any _ _ _ _ _ _ _ hR'.rd hxr.rd).mono ?_
        rintro e v2 ⟨rfl, rfl⟩
        by_cases hge : V x ≤ V R
        · have hc : 0 ≤ cmpN (V R) (V x) := by unfold cmpN; rw [if_neg (by omega)]; split <;> omega
          generalize cmpN (V R) (V x) = cc at hc ⊢
          have HGE : Hid (V ys * 2 ^ j ≤ V R) := by show _ ≤ _; rw [← HXV.out]; exact hge
          clear hge
          go_wp2_with fail
          refine (rsub_any _ _ _ _ _ _ _ hR'.rd hxr.rd (by omega) (by omega)).mono ?_
          rintro e v2 ⟨a2, c2, R2, rfl, hv2, ht2, hr2, hb2⟩
          have hbv2 : Below w.heap.size w v2 := hbv1.trans (hb2.mono hbv1.size)
          have hB2 := hB'.below hb2
          have hBlt := hB'.lt
          have HR2 : Hid (V R2 = V R - V ys * 2 ^ j) := by show _ = _; rw [hv2, HXV.out]
          have HA2 : Hid (∀ g o, a2 = some ⟨g, o, none⟩ → g ≠ w1.heap.size) := fun g o e => by have := (hr2.addr g o e).1; omega
          have hroom := limb_room lQ HM.out
          have c2' := hB2.cell (j / 32) (by rw [HQ.out]; omega)
          have c3 := hB2.frozen (j / 32)
          obtain ⟨y, hy⟩ : ∃ y, Q.getD (j / 32) 0 = y := ⟨_, rfl⟩
          obtain ⟨S, hS⟩ : ∃ S, 2 ^ (j % 32) = S := ⟨_, rfl⟩
          rw [hy, hS] at hroom
          rw [hy] at c2'
          have HY : Hid (Q.getD (j / 32) 0 = y) := hy
          have HS : Hid (2 ^ (j % 32) = S) := hS
          have hSi : (2 : Int) ^ (j % 32) = (S : Int) := by rw [← hS]; simp
          have hj32 : j / 32 < n / 32 + 1 := by omega
          clear hv2 hy hS hR' hxr hB'
          have HQV : Hid (V (Q.set (j / 32) (y + S)) = V Q + 2 ^ j) := by
            show _ = _
            rw [← HY.out, V_set_add (by rw [HQ.out]; omega), ← HS.out, pow_32, ← Nat.pow_add, show 32 * (j / 32) + j % 32 = j by omega]
          go_wp2
          go_roundw
          case rel =>
            exact ⟨j, _, a2, c2, R2, Q.set (j / 32) (y + S), by omega, rfl, by go_num, rfl, ht2, (hr2.mono hbv1.size).set_other HA2.out _ _, HA2.out, by rw [List.length_set]; exact HQ.out, lQ.set _ hroom, hB2.set _ _ _ (by rw [HQ.out]; omega) (by omega), by rw [HR2.out, HQV.out]; exact rdiv_take HI.out HGE.out, by rw [HR2.out]; exact rdiv_less HL.out HGE.out, by rw [HQV.out]; exact mod_low_add HM.out, hbv2.setCell hs1 _⟩
          case measure => simp [intOf]
        · have hc : cmpN (V R) (V x) = -1 := by unfold cmpN; rw [if_pos (by omega)]
          rw [hc]
          have HLT : Hid (V R < V ys * 2 ^ j) := by show _ < _; rw [← HXV.out]; omega
          clear hc hge
          go_wp2
          go_roundw
          case rel =>
            exact ⟨j, _, aR', cR', R, Q, by omega, rfl, by go_num, rfl, tR, hR', HA.out, HQ.out, lQ, hB', HI.out, HLT.out, mod_low HM.out, hbv1⟩
          case measure => simp [intOf]

end Go.Proofs.YtchdoakoelfenaaGreat

namespace Go.Proofs.YtchdoakoelfenaaGreat
open Go.RowKit
set_option linter.unusedSimpArgs false
set_option linter.unusedVariables false

set_option maxHeartbeats 1000000 in
set_option maxRecDepth 100000 in
theorem rsmall_any (a : Option Addr) (cap : Nat) (xs : List Nat) (w : World) (h : Rd w a cap xs) (hl : xs.length ≤ 1000000000) :
    Calls Tryz.prog 77 #[.slice a xs.length cap] w fun e w' => e = .returned (.tuple #[.int .u64 (smallN (V xs) : Nat), .bool (isSmall (V xs))]) ∧ Below w.heap.size w w' := by
  go_enter Tryz.func77, Tryz.ntmps77
  go_wp2_with fail
  refine (rtrim_any a cap xs _ h hl).mono ?_
  rintro e w1 ⟨aT, cT, rfl, hT, hb1⟩
  have Xr := hT.rd
  have tX := tr_strip xs
  clear h hT
  have HV : Hid (V (strip xs) = V xs) := V_strip xs
  generalize strip xs = X at Xr tX HV ⊢
  have k1 := Xr.le
  have k2 := Xr.cap
  unfold maxLen at k2
  have fX := Xr.fm
  have lX := Xr.lim
  clear Xr
  by_cases hl : 2 < X.length
  · have HG : Hid (¬ V xs < 18446744073709551616) := by show ¬ _; rw [← HV.out]; exact V_three_ge tX hl
    go_wp2
    go_ret2
    exact ⟨by rw [smallN_ge HG.out, isSmall_ge HG.out]; rfl, hb1⟩
  · have HG : Hid (V xs < 18446744073709551616) := by show _ < _; rw [← HV.out]; exact V_two_lt lX (by omega)
    go_wp2
    go_loop [5, 6] (fun n i => ∃ (k m : Nat) (q : Int), k ≤ X.length ∧ q = (k : Int) - 1 ∧ i = .int .i64 q ∧ n = .int .u64 m ∧ m = V (X.drop k)) (fun _ i => (intOf i + 1).toNat)
    case atStart => exact ⟨X.length, 0, _, Nat.le_refl _, rfl, rfl, rfl, by simp [V]⟩
    case round =>
      obtain ⟨k, m, q, hk, hq, rfl, rfl, hm⟩ := hrel
      have HM : Hid (m = V (X.drop k)) := hm
      clear hm
      by_cases hk0 : k = 0
      · subst hk0
        obtain rfl : q = -1 := by omega
        clear hq
        go_wp2
        go_ret2
        refine ⟨?_, hb1⟩
        rw [smallN_lt HG.out, isSmall_lt HG.out, ← HV.out]
        have := HM.out
        rw [List.drop_zero] at this
        rw [← this]
        rfl
      · obtain ⟨j, rfl⟩ : ∃ j, k = j + 1 := ⟨k - 1, by omega⟩
        obtain rfl : q = (j : Int) := by omega
        clear hq
        obtain ⟨bl, ol, rfl, _, hcx⟩ := fX.at (Below.refl _ _) j (by omega)
        obtain ⟨x, hx⟩ : ∃ x, X.getD j 0 = x := ⟨_, rfl⟩
        have bx : x < 4294967296 := by rw [← hx]; exact lX.getD j
        rw [hx] at hcx
        have hd := V_drop X j
        rw [hx, ← HM.out] at hd
        have hlt : V (X.drop j) < 18446744073709551616 := V_two_lt (lX.drop j) (by simp; omega)
        have hb2 : x + 4294967296 * m < 18446744073709551616 := by omega
        have HD : Hid (V (X.drop j) = x + 4294967296 * m) := hd
        clear hx hd hlt
        go_wp2
        go_round
        case rel => exact ⟨j, m * 4294967296 + x, _, by omega, rfl, by go_num, congrArg (Value.int .u64) (by omega), by rw [HD.out]; omega⟩
        case measure => simp [intOf]

set_option maxHeartbeats 2000000 in
set_option maxRecDepth 100000 in
theorem rgcd_any (a : Option Addr) (cap : Nat) (xs : List Nat) (b : Option Addr) (cbp : Nat) (ys : List Nat) (w : World) (ha : Rd w a cap xs) (hb : Rd w b cbp ys) (hla : xs.length ≤ 10000000) (hlb : ys.length ≤ 10000000) :
    Calls Tryz.prog 84 #[.slice a xs.length cap, .slice b ys.length cbp] w fun e w' =>
      ∃ a' cap' zs, e = .returned (.slice a' zs.length cap') ∧ V zs = Nat.gcd (V xs) (V ys) ∧ Tr zs ∧ Res 136 w.heap.size w' a' cap' zs ∧ Below w.heap.size w w' := by
  go_enter Tryz.func84, Tryz.ntmps84
  go_wp2_with fail
  refine (rtrim_any _ _ xs _ ha (by omega)).mono ?_
  rintro e w1 ⟨a1, c1, rfl, hr1, hb1⟩
  have hs1 := hb1.size
  go_wp2_with fail
  refine (rtrim_any _ _ ys _ (hb.below hb1) (by omega)).mono ?_
  rintro e w2 ⟨a2, c2, rfl, hr2, hb2⟩
  have hr1' := hr1.below hb2
  have hbw2 : Below w.heap.size w w2 := hb1.trans (hb2.mono hs1)
  have HV : Hid (V (strip xs) = V xs ∧ V (strip ys) = V ys) := ⟨V_strip xs, V_strip ys⟩
  have t1 := tr_strip xs
  have t2 := tr_strip ys
  have l1 := strip_length_le xs
  have l2 := strip_length_le ys
  generalize strip xs = X0 at hr1 hr1' HV t1 l1 ⊢
  generalize strip ys = Y0 at hr2 HV t2 l2 ⊢
  clear ha hb hr1
  go_wp2
  go_loopg [5, 6] (V Y0) (fun k p q wr => ∃ (aA : Option Addr) (cA : Nat) (X : List Nat) (aB : Option Addr) (cB : Nat) (Y : List Nat), p = .slice aA X.length cA ∧ q = .slice aB Y.length cB ∧ X.length ≤ 10000000 ∧ Y.length ≤ 10000000 ∧ V Y = k ∧ Tr X ∧ Tr Y ∧ Res 136 w.heap.size wr aA cA X ∧ Res 136 w.heap.size wr aB cB Y ∧ Nat.gcd (V X) (V Y) = Nat.gcd (V xs) (V ys) ∧ Below w.heap.size w wr)
  case atStart => exact ⟨a1, c1, X0, a2, c2, Y0, rfl, rfl, by omega, by omega, rfl, t1, t2, hr1', hr2.mono hs1, by rw [HV.out.1, HV.out.2], hbw2⟩
  case round =>
    obtain ⟨aA, cA, X, aB, cB, Y, rfl, rfl, hX, hY, hk, tX, tY, rX, rY, hg, hnx⟩ := hrel
    have HG : Hid (Nat.gcd (V X) (V Y) = Nat.gcd (V xs) (V ys)) := hg
    have HK : Hid (V Y = gk) := hk
    have hsz := hnx.size
    clear hg hk
    by_cases hy0 : Y.length = 0
    · have HY : Hid (V Y = 0) := by show _ = _; rw [List.length_eq_zero_iff.1 hy0]; rfl
      have hyl : ¬ (0 : Int) < (Y.length : Int) := by omega
      clear hy0
      go_wp2
      go_ret
      refine ⟨aA, cA, X, rfl, ?_, tX, rX, hnx⟩
      rw [← HG.out, HY.out, Nat.gcd_zero_right]
    · have hyl : (0 : Int) < (Y.length : Int) := by omega
      have hpos : 0 < V Y := by
        rcases Nat.eq_zero_or_pos (V Y) with h | h
        · exact absurd (by rw [eq_nil_of_V tY h]; rfl) hy0
        · exact h
      have HPOS : Hid (0 < V Y) := hpos
      clear hy0 hpos
      go_wp2_with fail
      refine (rdiv_any _ _ _ _ _ _ _ rX.rd rY.rd hX hY).mono ?_
      rintro e v1 ⟨b1, d1, z1, b2, d2, z2, rfl, hv1, hv2, ht1, ht2, hq1, hq2, hb3⟩
      rw [remN_pos _ HPOS.out] at hv2
      have hlt : V z2 < V Y := by rw [hv2]; exact Nat.mod_lt _ HPOS.out
      have HLT : Hid (V z2 < gk) := by show _ < _; rw [← HK.out]; exact hlt
      have hl2 : z2.length ≤ Y.length := by
        rcases Nat.lt_or_ge Y.length z2.length with h | h
        · have := V_lt_of_length rY.lim ht2 h; omega
        · exact h
      have HG2 : Hid (Nat.gcd (V Y) (V z2) = Nat.gcd (V xs) (V ys)) := by show _ = _; rw [hv2, gcd_step]; exact HG.out
      have rY' := rY.below hb3
      have hbw : Below w.heap.size w v1 := hnx.trans (hb3.mono hsz)
      clear hv1 hv2 hlt hq1 rX
      go_wp2
      go_roundg (V z2)
      case measure => exact HLT.out
      case rel => exact ⟨aB, cB, Y, b2, d2, z2, rfl, rfl, hY, by omega, rfl, tY, ht2, rY', hq2.mono hsz, HG2.out, hbw⟩

end Go.Proofs.YtchdoakoelfenaaGreat
