/-
  foundryref01.Of, Bit, bits, double, Mul: the walks.
-/
import Derived.Test.YtkdanpfglbgnbaaRAdd
import Derived.Test.YtkdanpfglbgnbaaMul
import Derived.Laws.BitsAllLaws
namespace Go.Proofs.Ytkdanpfglbgnbaa
open Go.RowKit
set_option linter.unusedSimpArgs false
set_option linter.unusedVariables false

theorem and_one_u32 (n : Nat) (h : n < 4294967296) : bits BinOp.and IntKind.u32 (n : Int) 1 = ((n % 2 : Nat) : Int) := by
  have := u32_and_nat n 1 h (by decide)
  rw [Nat.and_one_is_mod] at this
  exact this

/-- A bit of a number is a bit of one of its limbs. -/
theorem V_bit (xs : List Nat) (lm : Lim xs) (i : Nat) : V xs / 2 ^ i % 2 = xs.getD (i / 32) 0 / 2 ^ (i % 32) % 2 := by
  have e := V_take_drop xs (i / 32)
  have hd := V_head_tail (xs.drop (i / 32))
  have hg : (xs.drop (i / 32)).getD 0 0 = xs.getD (i / 32) 0 := by simp [List.getD]
  rw [hg] at hd
  have hl : V (xs.take (i / 32)) < 4294967296 ^ (i / 32) := by
    have := V_take_Sv xs (i / 32)
    rw [this]
    exact Sv_lt (fun j _ => lm.getD j)
  have hp : 2 ^ i = 4294967296 ^ (i / 32) * 2 ^ (i % 32) := by
    rw [show (4294967296 : Nat) = 2 ^ 32 from rfl, ← Nat.pow_mul, ← Nat.pow_add, Nat.div_add_mod]
  rw [hp, ← Nat.div_div_eq_div_mul, e, Nat.add_mul_div_left _ _ (Nat.pow_pos (by decide)), Nat.div_eq_of_lt hl, Nat.zero_add, hd]
  generalize V (xs.drop (i / 32)).tail = T
  generalize xs.getD (i / 32) 0 = x
  have h32 : (4294967296 : Nat) = 2 ^ (i % 32) * (2 * 2 ^ (31 - i % 32)) := by
    have : (4294967296 : Nat) = 2 ^ 32 := rfl
    rw [this, ← Nat.pow_succ', ← Nat.pow_add]
    congr 1
    omega
  rw [h32, Nat.mul_assoc, Nat.add_mul_div_left _ _ (Nat.pow_pos (by decide)), Nat.mul_assoc, Nat.add_mul_mod_self_left]

theorem of_le32 {k : Nat} (h : k ≤ 2) : k = 0 ∨ k = 1 ∨ k = 2 := by omega

set_option maxHeartbeats 800000 in
theorem rof_any (n : Nat) (w : World) (hn : n < 18446744073709551616) :
    Calls Try.prog 38 #[.int .u64 (n : Int)] w fun e w' => ∃ a cap ys, e = .returned (.slice a ys.length cap) ∧ V ys = n ∧ Tr ys ∧ Res 40 w.heap.size w' a cap ys ∧ Below w.heap.size w w' := by
  obtain ⟨i0, hi, hz0, hz1, hz2⟩ := info_parts info_limb
  go_enter Try.func38, Try.ntmps38
  go_wp2
  go_loopw [0, 3] (fun s out wr => ∃ (k m : Nat) (zs : List Nat), s = .int .u64 m ∧ m < 18446744073709551616 ∧ k = zs.length ∧ k ≤ 2 ∧ (k = 2 → m = 0) ∧ (k = 1 → m < 4294967296) ∧ Lim zs ∧ (m = 0 → Tr zs) ∧ V zs + 4294967296 ^ k * m = n ∧ wr.ownsRow w.heap.size 40 1 out k (zs.map U) ∧ Below w.heap.size w wr) (fun s _ _ => (intOf s).toNat)
  case atStart => exact ⟨0, n, [], rfl, hn, rfl, by decide, fun h => by omega, fun h => by omega, Lim.nil, fun _ => tr_nil, by simp [V], World.ownsRow_nil _ _ _ _, Below.refl _ _⟩
  case round =>
    obtain ⟨k, m, zs, rfl, hm, hkz, hk2, hm2, hm1, lz, htr, heq, hown, hnx⟩ := hrel
    have HE : Hid (V zs + 4294967296 ^ k * m = n) := heq
    have HZ : Hid (k = zs.length) := hkz
    have H2 : Hid ((k = 2 → m = 0) ∧ (k = 1 → m < 4294967296)) := ⟨hm2, hm1⟩
    have HT : Hid (m = 0 → Tr zs) := htr
    have hsz := hnx.size
    clear heq hkz hm2 hm1 htr
    by_cases hm0 : m = 0
    · subst hm0
      obtain ⟨a', cap', rfl, hres⟩ := Res.of lz hown
      clear hown
      go_wp2
      go_ret
      refine ⟨a', cap', zs, rfl, ?_, HT.out (by first | rfl | trivial), hres, hnx⟩
      have := HE.out; omega
    · have hp : 1 ≤ m := by omega
      have hk1 : k ≤ 1 := by have := H2.out.1; omega
      go_wp2_with (at_builtin; refine wpList_append_one rfl _ _ 30 rfl w.heap.size 40 i0 Try.underlying30 hi hz0 hz1 hz2 _ k zs rfl (hown.alloc _) wr.heap.size (m % 4294967296) rfl (cell_new1 _ _ _ _ (by omega)) (by omega) (by simp; omega) ?_)
      intro v' w1 hown1 hgrow1
      have hb1 : Below w.heap.size w w1 := (hnx.alloc hsz _).grown hgrow1 (by simp; omega) (fun k hk => (hown.lt k hk).1)
      clear hown
      go_wp2
      go_roundw
      case rel =>
        refine ⟨k + 1, m / 4294967296, zs ++ [m % 4294967296], by go_num, by omega, by rw [HZ.out]; simp, by omega, fun h => by have := H2.out.2; omega, fun h => by omega, lz.snoc (by omega), fun h => tr_snoc (by omega), ?_, own_snoc hown1, hb1⟩
        rw [V_snoc, ← HZ.out, ← HE.out, Nat.pow_succ]
        have hd := Nat.mod_add_div m 4294967296
        generalize m % 4294967296 = r at hd ⊢
        generalize m / 4294967296 = d at hd ⊢
        subst hd
        grind
      case measure => simp [intOf]; omega

set_option maxHeartbeats 400000 in
theorem rbits_any (a : Option Addr) (n cap : Nat) (w : World) (hn : n ≤ 100000000000000000) :
    Calls Try.prog 29 #[.slice a n cap] w fun e w' => e = .returned (.int .i64 (32 * (n : Int))) ∧ w = w' := by
  go_enter Try.func29, Try.ntmps29
  go_wp2
  go_ret
  exact ⟨rfl, rfl⟩

set_option maxHeartbeats 400000 in
theorem rbit_any (a : Option Addr) (cap : Nat) (xs : List Nat) (i : Nat) (w : World) (h : Rd w a cap xs) (hi : i ≤ 100000000000000000) :
    Calls Try.prog 31 #[.slice a xs.length cap, .int .i64 (i : Int)] w fun e w' => e = .returned (.int .u32 ((V xs / 2 ^ i % 2 : Nat) : Int)) ∧ w = w' := by
  have k1 := h.le
  have k2 := h.cap
  unfold maxLen at k2
  have fm := h.fm
  have lm := h.lim
  clear h
  by_cases hlt : i / 32 < xs.length
  · obtain ⟨b, off, rfl, _, hc⟩ := fm.at (Below.refl _ _) (i / 32) hlt
    obtain ⟨x, hx⟩ : ∃ x, xs.getD (i / 32) 0 = x := ⟨_, rfl⟩
    rw [hx] at hc
    have bx : x < 4294967296 := by rw [← hx]; exact lm.getD _
    go_enter Try.func31, Try.ntmps31
    go_wp2
    go_ret
    refine ⟨ret_u32 ?_, rfl⟩
    have hq : x / 2 ^ (i % 32) ≤ x := Nat.div_le_self _ _
    have hcast : (x : Int) / 2 ^ (i % 32) = ((x / 2 ^ (i % 32) : Nat) : Int) := by simp
    rw [V_bit xs lm i, hx, hcast, and_one_u32 _ (by omega)]
  · go_enter Try.func31, Try.ntmps31
    go_wp2
    go_ret
    refine ⟨ret_u32 ?_, rfl⟩
    rw [V_bit xs lm i, getD_past _ _ (by omega)]
    simp

set_option maxHeartbeats 400000 in
theorem rdouble_any (a : Option Addr) (cap : Nat) (xs : List Nat) (w : World) (h : Rd w a cap xs) (hl : xs.length ≤ 500000000) :
    Calls Try.prog 30 #[.slice a xs.length cap, .int .u32 0] w fun e w' => ∃ a' cap' zs, e = .returned (.slice a' zs.length cap') ∧ V zs = 2 * V xs ∧ Tr zs ∧ Res 40 w.heap.size w' a' cap' zs ∧ Below w.heap.size w w' := by
  go_enter Try.func30, Try.ntmps30
  go_wp2_with fail
  refine (radd_any _ _ _ _ _ _ _ h h hl hl).mono ?_
  rintro e w1 ⟨a1, c1, z1, rfl, hv1, ht1, hr1, hb1⟩
  go_wp2
  go_ret
  exact ⟨a1, c1, z1, rfl, by omega, ht1, hr1, hb1⟩

theorem pow_32 (m : Nat) : 4294967296 ^ m = 2 ^ (32 * m) := by rw [Nat.pow_mul]

theorem len_of_mul {zs xs ys : List Nat} {q : Nat} (ht : Tr zs) (lx : Lim xs) (ly : Lim ys) (hv : V zs = V xs * q) (hq : q ≤ V ys) : zs.length ≤ xs.length + ys.length := by
  refine len_le_of_V ht ?_
  rw [hv, Nat.pow_add]
  have h1 := V_lt lx
  have h2 := V_lt ly
  calc V xs * q ≤ V xs * V ys := Nat.mul_le_mul_left _ hq
    _ < 4294967296 ^ xs.length * 4294967296 ^ ys.length := Nat.mul_lt_mul'' h1 h2

set_option maxHeartbeats 1000000 in
theorem rmul_any (a : Option Addr) (cap : Nat) (xs : List Nat) (b : Option Addr) (cbp : Nat) (ys : List Nat) (w : World) (ha : Rd w a cap xs) (hb : Rd w b cbp ys) (hla : xs.length ≤ 100000000) (hlb : ys.length ≤ 100000000) :
    Calls Try.prog 18 #[.slice a xs.length cap, .slice b ys.length cbp] w fun e w' =>
      ∃ a' cap' zs, e = .returned (.slice a' zs.length cap') ∧ V zs = V xs * V ys ∧ Tr zs ∧ Res 40 w.heap.size w' a' cap' zs ∧ Below w.heap.size w w' := by
  go_enter Try.func18, Try.ntmps18
  go_wp2_with fail
  refine (rbits_any _ _ _ _ (by omega)).mono ?_
  rintro e w' ⟨rfl, rfl⟩
  go_wp2
  go_loopw [5, 6] (fun out i wr => ∃ (k : Nat) (q : Int) (a' : Option Addr) (cap' : Nat) (zs : List Nat), k ≤ 32 * ys.length ∧ q = (k : Int) - 1 ∧ i = .int .i64 q ∧ out = .slice a' zs.length cap' ∧ Tr zs ∧ V zs = V xs * (V ys / 2 ^ k) ∧ Res 40 w.heap.size wr a' cap' zs ∧ Below w.heap.size w wr) (fun _ i _ => (intOf i + 1).toNat)
  case atStart =>
    refine ⟨32 * ys.length, _, none, 0, [], Nat.le_refl _, ?_, rfl, rfl, tr_nil, ?_, ⟨Lim.nil, World.ownsRow_nil _ _ _ _⟩, Below.refl _ _⟩
    · omega
    · rw [Nat.div_eq_of_lt (by rw [← pow_32]; exact V_lt hb.lim)]; rfl
  case round =>
    obtain ⟨k, q, a', cap', zs, hk, hq, rfl, rfl, htr, hv, hres, hnx⟩ := hrel
    have HV : Hid (V zs = V xs * (V ys / 2 ^ k)) := hv
    have hzl := len_of_mul htr ha.lim hb.lim hv (Nat.div_le_self _ _)
    have hsz := hnx.size
    clear hv
    by_cases hk0 : k = 0
    · subst hk0
      obtain rfl : q = -1 := by omega
      clear hq
      go_wp2
      go_ret
      refine ⟨a', cap', zs, rfl, ?_, htr, hres, hnx⟩
      rw [HV.out, Nat.pow_zero, Nat.div_one]
    · obtain ⟨j, rfl⟩ : ∃ j, k = j + 1 := ⟨k - 1, by omega⟩
      obtain rfl : q = (j : Int) := by omega
      clear hq
      have hstep : V ys / 2 ^ j = 2 * (V ys / 2 ^ (j + 1)) + V ys / 2 ^ j % 2 := by
        rw [Nat.pow_succ, ← Nat.div_div_eq_div_mul]; omega
      have HS : Hid (V ys / 2 ^ j = 2 * (V ys / 2 ^ (j + 1)) + V ys / 2 ^ j % 2) := hstep
      clear hstep
      go_wp2_with fail
      refine (rdouble_any _ _ _ _ hres.rd (by omega)).mono ?_
      rintro e w1 ⟨a1, c1, z1, rfl, hv1, ht1, hr1, hb1⟩
      have hb1' : Below w.heap.size w w1 := hnx.trans (hb1.mono hsz)
      have HV1 : Hid (V z1 = V xs * (2 * (V ys / 2 ^ (j + 1)))) := by show _ = _; rw [hv1, HV.out]; exact Nat.mul_left_comm _ _ _
      have hz1 := len_of_mul ht1 ha.lim hb.lim HV1.out (by have := HS.out; have := Nat.div_le_self (V ys) (2 ^ j); omega)
      clear hv1
      go_wp2_with fail
      refine (rbit_any _ _ _ _ _ (hb.below hb1') (by omega)).mono ?_
      rintro e w' ⟨rfl, rfl⟩
      rcases Nat.mod_two_eq_zero_or_one (V ys / 2 ^ j) with hb0 | hb0
      · rw [hb0]
        have HB : Hid (V ys / 2 ^ j % 2 = 0) := hb0
        clear hb0
        go_wp2
        go_roundw
        case rel =>
          refine ⟨j, _, a1, c1, z1, by omega, rfl, by go_num, rfl, ht1, ?_, hr1.mono hsz, hb1'⟩
          have := HS.out; rw [HB.out, Nat.add_zero] at this
          rw [HV1.out, this]
        case measure => simp [intOf]
      · rw [hb0]
        have HB : Hid (V ys / 2 ^ j % 2 = 1) := hb0
        clear hb0
        go_wp2_with fail
        refine (radd_any _ _ _ _ _ _ _ hr1.rd (ha.below hb1') (by omega) (by omega)).mono ?_
        rintro e w2 ⟨a2, c2, z2, rfl, hv2, ht2, hr2, hb2⟩
        have hb2' : Below w.heap.size w w2 := hb1'.trans (hb2.mono hb1'.size)
        have HV2 : Hid (V z2 = V xs * (V ys / 2 ^ j)) := by
          show _ = _
          have := HS.out; rw [HB.out] at this
          rw [hv2, HV1.out, this, Nat.mul_add]; omega
        clear hv2
        go_wp2
        go_roundw
        case rel => exact ⟨j, _, a2, c2, z2, by omega, rfl, by go_num, rfl, ht2, HV2.out, hr2.mono hb1'.size, hb2'⟩
        case measure => simp [intOf]

end Go.Proofs.Ytkdanpfglbgnbaa
