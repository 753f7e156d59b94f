/-
  math/bits.Len32, LeadingZeros32; nat.shiftUp, nat.shiftDown: the walks.
  nat.Small: the walk.
  The plain mathematics of a guessed limb of a quotient.
  nat.guess: the walk.
  The plain mathematics of one step of a long division.
-/
import Derived.Test.YtkbbdkecillnpaaGreatZY10
import Derived.Lib.BitFns
import Derived.Lib.Strings
import Derived.Lib.Walk
import Derived.Outline
namespace Go.Proofs.YtkbbdkecillnpaaGreat
open Go.RowKit
set_option linter.unusedSimpArgs false
set_option linter.unusedVariables false

set_option maxHeartbeats 1000000 in
set_option maxRecDepth 100000 in
theorem len32_any (x : Int) (w : World) (h0 : 0 ≤ x) (h1 : x ≤ 4294967295) :
    Calls Tryz.prog 151 #[.int .u32 x] w fun e w' => e = .returned (.int .i64 (Lib.bitLen x.toNat)) ∧ w = w' := by
  rcases (show 16777216 ≤ x ∨ (65536 ≤ x ∧ x < 16777216) ∨ (256 ≤ x ∧ x < 65536) ∨ x < 256 from by omega) with h | ⟨h, h'⟩ | ⟨h, h'⟩ | h
  · skip
    have q0 : 0 ≤ x / 65536 / 256 := by omega
    have q1 : x / 65536 / 256 ≤ 255 := by omega
    have e8 := Lib.len8_of (x / 65536 / 256) q0 q1
    have hb := Lib.bitLen_le8' (x / 65536 / 256) q0 q1
    have s := Lib.bitLen_shift24 x.toNat (by omega) (by omega)
    have et : (x / 65536 / 256).toNat = x.toNat / 16777216 := by omega
    rw [et] at e8 hb
    have HB : Hid (Lib.bitLen x.toNat = 24 + Lib.bitLen (x.toNat / 16777216)) := s
    clear s
    generalize Lib.bitLen (x.toNat / 16777216) = n at e8 hb HB
    clear et
    go_enter Tryz.func151, Tryz.ntmps151
    go_wp2
    go_ret
    exact ⟨ret_i64 (by have := HB.out; omega), rfl⟩
  · skip
    have q0 : 0 ≤ x / 65536 := by omega
    have q1 : x / 65536 ≤ 255 := by omega
    have e8 := Lib.len8_of (x / 65536) q0 q1
    have hb := Lib.bitLen_le8' (x / 65536) q0 q1
    have s := Lib.bitLen_shift16 x.toNat (by omega) (by omega)
    have et : (x / 65536).toNat = x.toNat / 65536 := by omega
    rw [et] at e8 hb
    have HB : Hid (Lib.bitLen x.toNat = 16 + Lib.bitLen (x.toNat / 65536)) := s
    clear s
    generalize Lib.bitLen (x.toNat / 65536) = n at e8 hb HB
    clear et
    go_enter Tryz.func151, Tryz.ntmps151
    go_wp2
    go_ret
    exact ⟨ret_i64 (by have := HB.out; omega), rfl⟩
  · skip
    have q0 : 0 ≤ x / 256 := by omega
    have q1 : x / 256 ≤ 255 := by omega
    have e8 := Lib.len8_of (x / 256) q0 q1
    have hb := Lib.bitLen_le8' (x / 256) q0 q1
    have s := Lib.bitLen_shift8 x.toNat (by omega) (by omega)
    have et : (x / 256).toNat = x.toNat / 256 := by omega
    rw [et] at e8 hb
    have HB : Hid (Lib.bitLen x.toNat = 8 + Lib.bitLen (x.toNat / 256)) := s
    clear s
    generalize Lib.bitLen (x.toNat / 256) = n at e8 hb HB
    clear et
    go_enter Tryz.func151, Tryz.ntmps151
    go_wp2
    go_ret
    exact ⟨ret_i64 (by have := HB.out; omega), rfl⟩
  · skip
    have q0 : 0 ≤ x := by omega
    have q1 : x ≤ 255 := by omega
    have e8 := Lib.len8_of (x) q0 q1
    have hb := Lib.bitLen_le8' (x) q0 q1
    have et : (x).toNat = x.toNat := by omega
    rw [et] at e8 hb
    have HB : Hid (Lib.bitLen x.toNat = 0 + Lib.bitLen (x.toNat)) := by show _ = _; rw [Nat.zero_add]
    skip
    generalize Lib.bitLen (x.toNat) = n at e8 hb HB
    clear et
    go_enter Tryz.func151, Tryz.ntmps151
    go_wp2
    go_ret
    exact ⟨ret_i64 (by have := HB.out; omega), rfl⟩

set_option maxHeartbeats 400000 in
set_option maxRecDepth 100000 in
theorem lz32_any (x : Nat) (w : World) (h1 : x < 4294967296) :
    Calls Tryz.prog 143 #[.int .u32 (x : Int)] w fun e w' => e = .returned (.int .i64 (32 - (Lib.bitLen x : Int))) ∧ w = w' := by
  have hl := Lib.bitLen_le x 32 (by decide) h1
  go_enter Tryz.func143, Tryz.ntmps143
  go_wp2_with fail
  refine (len32_any (x : Int) _ (by omega) (by omega)).mono ?_
  rintro e w' ⟨rfl, rfl⟩
  rw [Int.toNat_natCast]
  obtain ⟨n, hn⟩ : ∃ n, Lib.bitLen x = n := ⟨_, rfl⟩
  have HN : Hid (Lib.bitLen x = n) := hn
  rw [hn] at hl ⊢
  clear hn
  go_wp2
  go_ret
  exact ⟨ret_i64 (by rw [HN.out]), rfl⟩

theorem wrap_u64_mod (n : Int) : IntKind.u64.wrap n = n % 18446744073709551616 := by simp [IntKind.wrap, IntKind.bits, IntKind.signed]

theorem or_shift {x p cy s : Nat} (hp : x * 2 ^ s = p) (hc : cy < 2 ^ s) (hb : p + cy < 18446744073709551616) : bits BinOp.or IntKind.u64 (p : Int) (cy : Int) = (p : Int) + (cy : Int) := by
  have h := u64_or_nat p cy (by omega) (by omega)
  have e : p ||| cy = p + cy := by
    have := Nat.shiftLeft_add_eq_or_of_lt hc x
    rw [Nat.shiftLeft_eq, hp] at this
    exact this.symm
  rw [h, e]; simp

theorem shup_step {zs xs : List Nat} {k cy x p s : Nat} (hz : zs.length = k) (he : V zs + 4294967296 ^ k * cy = V (xs.take k) * 2 ^ s) (hx : xs.getD k 0 = x) (hp : x * 2 ^ s = p) :
    V (zs ++ [(p + cy) % 4294967296]) + 4294967296 ^ (k + 1) * ((p + cy) / 4294967296) = V (xs.take (k + 1)) * 2 ^ s := by
  rw [V_snoc, hz, V_take_succ, hx, Nat.pow_succ]
  have hd := Nat.mod_add_div (p + cy) 4294967296
  generalize (p + cy) % 4294967296 = r at hd ⊢
  generalize (p + cy) / 4294967296 = d at hd ⊢
  subst hp
  generalize 4294967296 ^ k = q at he ⊢
  generalize V zs = o at he ⊢
  generalize V (xs.take k) = A at he ⊢
  generalize 2 ^ s = S at he hd ⊢
  have h1 : q * (r + 4294967296 * d) = q * (x * S + cy) := by rw [hd]
  grind

set_option maxHeartbeats 1000000 in
set_option maxRecDepth 100000 in
theorem shup_any (a : Option Addr) (cap : Nat) (xs : List Nat) (s : Nat) (w : World) (h : Rd w a cap xs) (hl : xs.length ≤ 500000000) (hs : s < 32) :
    Calls Tryz.prog 144 #[.slice a xs.length cap, .int .i64 (s : Int)] w fun e w' =>
      ∃ a' cap' zs, e = .returned (.slice a' zs.length cap') ∧ zs.length = xs.length + 1 ∧ V zs = V xs * 2 ^ s ∧ Res 157 w.heap.size w' a' cap' zs ∧ Below w.heap.size w w' := by
  obtain ⟨i0, hi, hz0, hz1, hz2⟩ := info_parts info_limb
  have fL := h.fm
  have lL := h.lim
  clear h
  go_enter Tryz.func144, Tryz.ntmps144
  go_wp2_with (at_make; refine wpList_make_own _ rfl _ _ 117 rfl w.heap.size 157 i0 (.int .u32 0) 1 Tryz.underlying117 hi hz0 hz1 _ _ _ (xs.length + 1) rfl rfl (by omega) (by rw [hz2]; omega) (by unfold maxLen; omega) (Nat.le_refl _) ?_)
  intro u0 hown0 hgrow0
  have hb0 : Below w.heap.size w u0 := (Below.refl _ _).grown hgrow0 (Nat.le_refl _) (fun k h => by cases h)
  go_wp2
  go_loopw [5, 6, 16] (fun out c i wr => ∃ (k : Nat) (zs : List Nat) (cy : Nat), k ≤ xs.length ∧ i = .int .i64 k ∧ c = .int .u64 cy ∧ cy < 2 ^ s ∧ zs.length = k ∧ Lim zs ∧ V zs + 4294967296 ^ k * cy = V (xs.take k) * 2 ^ s ∧ wr.ownsRow w.heap.size 157 1 out k (zs.map U) ∧ Below w.heap.size w wr) (fun _ _ i _ => xs.length - (intOf i).toNat)
  case atStart => exact ⟨0, [], 0, Nat.zero_le _, rfl, rfl, Nat.pow_pos (by decide), rfl, Lim.nil, by simp [V], hown0, hb0⟩
  case round =>
    obtain ⟨k, zs, cy, hk, rfl, rfl, hcy, hzl, lz, heq, hown, hnx⟩ := hrel
    have HE : Hid (V zs + 4294967296 ^ k * cy = V (xs.take k) * 2 ^ s) := heq
    have HZ : Hid (zs.length = k) := hzl
    have hsz := hnx.size
    clear heq hzl
    by_cases hkn : k < xs.length
    · obtain ⟨bl, ol, rfl, _, hcl⟩ := fL.at hnx k hkn
      obtain ⟨x, hx⟩ : ∃ x, xs.getD k 0 = x := ⟨_, rfl⟩
      have bx : x < 4294967296 := by rw [← hx]; exact lL.getD k
      rw [hx] at hcl
      have HX : Hid (xs.getD k 0 = x) := hx
      clear hx
      obtain ⟨p, hp⟩ : ∃ p, x * 2 ^ s = p := ⟨_, rfl⟩
      have hP1 : 2 ^ s ≤ 2 ^ 31 := Nat.pow_le_pow_right (by decide) (by omega)
      have bp0 : p ≤ 4294967295 * 2 ^ s := by rw [← hp]; exact Nat.mul_le_mul_right _ (by omega)
      have bp : p ≤ 9223372034707292160 := by omega
      have hpi : (x : Int) * 2 ^ s = (p : Int) := by rw [← hp]; simp
      have hw1 : IntKind.u64.wrap (p : Int) = (p : Int) := by rw [wrap_u64_mod]; omega
      have hor : bits BinOp.or IntKind.u64 (p : Int) (cy : Int) = (p : Int) + (cy : Int) := or_shift hp hcy (by omega)
      have hcy' : (p + cy) / 4294967296 < 2 ^ s := Nat.div_lt_of_lt_mul (by omega)
      have HP : Hid (x * 2 ^ s = p) := hp
      have bcy : cy < 2147483648 := by omega
      have HCY : Hid ((p + cy) / 4294967296 < 2 ^ s) := hcy'
      clear hp hP1 bp0 hcy hcy'
      go_wp2_with (at_builtin; refine wpList_append_one rfl _ _ 117 rfl w.heap.size 157 i0 Tryz.underlying117 hi hz0 hz1 hz2 _ k zs rfl (hown.alloc _) wr.heap.size ((p + cy) % 4294967296) rfl (cell_new1 _ _ _ _ (by omega)) (by omega) (by simp; omega) ?_)
      intro v' w1 hown1 hgrow1
      have hb1 : Below w.heap.size w w1 := (hnx.alloc hsz _).grown hgrow1 (by simp; omega) (fun k hk => (hown.lt k hk).1)
      clear hown
      go_wp2
      go_roundw
      case rel =>
        refine ⟨k + 1, zs ++ [(p + cy) % 4294967296], (p + cy) / 4294967296, by omega, by go_num, by go_num, HCY.out, by simp [HZ.out], lz.snoc (by omega), ?_, own_snoc hown1, hb1⟩
        exact shup_step HZ.out HE.out HX.out HP.out
      case measure => simp [intOf]; omega
    · obtain rfl : k = xs.length := by omega
      have hP1 : 2 ^ s ≤ 2 ^ 31 := Nat.pow_le_pow_right (by decide) (by omega)
      have bcy : cy < 4294967296 := by omega
      clear hcy hP1
      go_wp2_with (at_builtin; refine wpList_append_one rfl _ _ 117 rfl w.heap.size 157 i0 Tryz.underlying117 hi hz0 hz1 hz2 _ _ zs rfl (hown.alloc _) wr.heap.size cy rfl (cell_new1 _ _ _ _ (by omega)) (by omega) (by simp; omega) ?_)
      intro v' w1 hown1 hgrow1
      have hb1 : Below w.heap.size w w1 := (hnx.alloc hsz _).grown hgrow1 (by simp; omega) (fun k hk => (hown.lt k hk).1)
      obtain ⟨a', cap', rfl, hres⟩ := Res.of (lz.snoc bcy) (own_snoc hown1)
      clear hown1 hown
      go_wp2
      go_ret
      refine ⟨a', cap', zs ++ [cy], by simp, by simp [HZ.out], ?_, hres, hb1⟩
      have h1 := HE.out
      rw [List.take_length] at h1
      rw [V_snoc, HZ.out, h1]

theorem bitLen_spec : ∀ (k x : Nat), x < 2 ^ k → k ≤ 64 → x ≠ 0 → 1 ≤ Lib.bitLen x ∧ 2 ^ (Lib.bitLen x - 1) ≤ x ∧ x < 2 ^ Lib.bitLen x := by
  intro k
  induction k with
  | zero => intro x h _ h0; simp at h; omega
  | succ k ih =>
    intro x h hk h0
    have hx64 : x < 2 ^ 64 := Nat.lt_of_lt_of_le h (Nat.pow_le_pow_right (by decide) hk)
    have hh := Lib.bitLen_half x h0 hx64
    by_cases h1 : x = 1
    · subst h1
      have e : Lib.bitLen 1 = 1 := by decide
      rw [e]; decide
    · obtain ⟨i1, i2, i3⟩ := ih (x / 2) (by rw [Nat.pow_succ] at h; omega) (by omega) (by omega)
      rw [hh]
      refine ⟨by omega, ?_, ?_⟩
      · rw [show 1 + Lib.bitLen (x / 2) - 1 = (Lib.bitLen (x / 2) - 1) + 1 by omega, Nat.pow_succ]; omega
      · rw [Nat.add_comm, Nat.pow_succ]; omega

/-- What LeadingZeros32 tells: so far is shifted till the topmost bit is set. -/
theorem lz_spec {x : Nat} (h0 : x ≠ 0) (h : x < 4294967296) : ∃ s : Nat, s < 32 ∧ (32 - (Lib.bitLen x : Int)) = (s : Int) ∧ 2147483648 ≤ x * 2 ^ s ∧ x * 2 ^ s < 4294967296 := by
  obtain ⟨h1, h2, h3⟩ := bitLen_spec 32 x h (by decide) h0
  have hl := Lib.bitLen_le x 32 (by decide) h
  generalize Lib.bitLen x = n at *
  refine ⟨32 - n, by omega, by omega, ?_, ?_⟩
  · have : 2 ^ (n - 1) * 2 ^ (32 - n) ≤ x * 2 ^ (32 - n) := Nat.mul_le_mul_right _ h2
    rw [← Nat.pow_add, show n - 1 + (32 - n) = 31 by omega] at this
    exact this
  · have : x * 2 ^ (32 - n) < 2 ^ n * 2 ^ (32 - n) := Nat.mul_lt_mul_of_pos_right h3 (Nat.pow_pos (by decide))
    rw [← Nat.pow_add, show n + (32 - n) = 32 by omega] at this
    exact this

theorem shdn_step {T ab x S : Nat} (s : Nat) (hs : s < 32) (hS : S = 2 ^ s) (hab : ab % S = T % S) (hx : x < 4294967296) :
    (x + 4294967296 * T) / S = (ab * 4294967296 + x) / S % 4294967296 + 4294967296 * (T / S) := by
  have hp : 0 < S := by rw [hS]; exact Nat.pow_pos (by decide)
  have hT := Nat.div_add_mod T S
  have hA := Nat.div_add_mod ab S
  have hr := Nat.mod_lt T hp
  rw [hab] at hA
  generalize T / S = q at hT ⊢
  generalize ab / S = qa at hA
  generalize T % S = r at hT hA hr
  have e1 : x + 4294967296 * T = (x + r * 4294967296) + S * (4294967296 * q) := by rw [← hT]; grind
  have e2 : ab * 4294967296 + x = (x + r * 4294967296) + S * (qa * 4294967296) := by rw [← hA]; grind
  rw [e1, e2, Nat.add_mul_div_left _ _ hp, Nat.add_mul_div_left _ _ hp, Nat.add_mul_mod_self_right]
  have hlt : (x + r * 4294967296) / S < 4294967296 := by
    refine Nat.div_lt_of_lt_mul ?_
    have h1 : (r + 1) * 4294967296 ≤ S * 4294967296 := Nat.mul_le_mul_right _ (by omega)
    omega
  rw [Nat.mod_eq_of_lt hlt]

theorem V_mod {xs : List Nat} {s S : Nat} (hs : s < 32) (hS : S = 2 ^ s) : V xs % S = xs.getD 0 0 % S := by
  rw [V_head_tail]
  have e : (4294967296 : Nat) = S * 2 ^ (32 - s) := by
    rw [hS, ← Nat.pow_add, show s + (32 - s) = 32 by omega]
  rw [e, Nat.mul_assoc, Nat.add_mul_mod_self_left]

set_option maxHeartbeats 1000000 in
set_option maxRecDepth 100000 in
theorem shdn_any (a : Option Addr) (cap : Nat) (xs : List Nat) (s : Nat) (w : World) (h : Rd w a cap xs) (hl : xs.length ≤ 500000000) (hs : s < 32) :
    Calls Tryz.prog 146 #[.slice a xs.length cap, .int .i64 (s : Int)] w fun e w' =>
      ∃ g zs, e = .returned (.slice (some ⟨g, 0, none⟩) xs.length xs.length) ∧ zs.length = xs.length ∧ V zs = V xs / 2 ^ s ∧ Rd w' (some ⟨g, 0, none⟩) xs.length zs ∧ Below w.heap.size w w' := by
  obtain ⟨i0, hi, hz0, hz1, hz2⟩ := info_parts info_limb
  have fL := h.fm
  have lL := h.lim
  clear h
  obtain ⟨S, hS⟩ : ∃ S, S = 2 ^ s := ⟨_, rfl⟩
  have HSS : Hid (S = 2 ^ s) := hS
  clear hS
  go_enter Tryz.func146, Tryz.ntmps146
  go_wp2_with (at_make; refine wpList_make_full _ rfl _ _ 117 rfl w.heap.size 157 i0 (.int .u32 0) 1 Tryz.underlying117 hi hz0 hz1 _ _ _ _ xs.length rfl rfl (by omega) (by omega) (by rw [hz2]; omega) (by unfold maxLen; omega) (Nat.le_refl _) ?_)
  intro u0 hown0 hgrow0
  have hb0 : Below w.heap.size w u0 := (Below.refl _ _).grown hgrow0 (Nat.le_refl _) (fun k h => by cases h)
  have hB0 := blk_made hown0
  clear hown0 hgrow0
  go_wp2
  go_loopw [6, 7] (fun v i wr => ∃ (k : Nat) (q : Int) (cs : List Nat) (ab : Nat), k ≤ xs.length ∧ q = (k : Int) - 1 ∧ i = .int .i64 q ∧ v = .int .u64 ab ∧ ab < 4294967296 ∧ ab % S = V (xs.drop k) % S ∧ cs.length = xs.length ∧ Lim cs ∧ V (cs.drop k) = V (xs.drop k) / S ∧ Blk 157 wr w.heap.size cs ∧ Below w.heap.size w wr) (fun _ i _ => (intOf i + 1).toNat)
  case atStart => exact ⟨xs.length, _, _, 0, Nat.le_refl _, rfl, rfl, rfl, by decide, by simp [V], List.length_replicate, fun x hx => by rw [List.eq_of_mem_replicate hx]; decide, by simp [V], hB0, hb0⟩
  case round =>
    obtain ⟨k, q, cs, ab, hk, hq, rfl, rfl, hab, habm, hcl, lc, heq, hB, hnx⟩ := hrel
    have HE : Hid (V (cs.drop k) = V (xs.drop k) / S) := heq
    have HC : Hid (cs.length = xs.length) := hcl
    have HA : Hid (ab % S = V (xs.drop k) % S) := habm
    have hsz := hnx.size
    clear heq hcl habm
    by_cases hk0 : k = 0
    · subst hk0
      obtain rfl : q = -1 := by omega
      clear hq
      go_wp2
      go_ret
      refine ⟨w.heap.size, cs, rfl, HC.out, ?_, ?_, hnx⟩
      · rw [← HSS.out]; simpa using HE.out
      · have hr := hB.rd lc 0 xs.length xs.length (by rw [HC.out]; omega) (Nat.le_refl _) (by unfold maxLen; omega)
        rw [List.drop_zero, List.take_of_length_le (by rw [HC.out]; exact Nat.le_refl _)] at hr
        exact hr
    · obtain ⟨j, rfl⟩ : ∃ j, k = j + 1 := ⟨k - 1, by omega⟩
      obtain rfl : q = (j : Int) := by omega
      clear hq
      obtain ⟨bl, ol, rfl, hblt, hcx⟩ := fL.at hnx j (by omega)
      obtain ⟨x, hx⟩ : ∃ x, xs.getD j 0 = x := ⟨_, rfl⟩
      rw [hx] at hcx
      have bx : x < 4294967296 := by rw [← hx]; exact lL.getD _
      have HX : Hid (xs.getD j 0 = x) := hx
      have c2 := hB.cell j (by rw [HC.out]; omega)
      have c3 := hB.frozen j
      obtain ⟨o, ho⟩ : ∃ o, cs.getD j 0 = o := ⟨_, rfl⟩
      rw [ho] at c2
      have hor := or_low ab x hab bx
      obtain ⟨p, hp⟩ : ∃ p, ab * 4294967296 + x = p := ⟨_, rfl⟩
      have hpi : (ab : Int) * 4294967296 + (x : Int) = (p : Int) := by omega
      have HP : Hid (ab * 4294967296 + x = p) := hp
      have bp : p < 18446744073709551616 := by omega
      obtain ⟨t, ht⟩ : ∃ t, p / 2 ^ s = t := ⟨_, rfl⟩
      have hti : (p : Int) / 2 ^ s = (t : Int) := by rw [← ht]; simp
      have bt : t < 18446744073709551616 := by rw [← ht]; exact Nat.lt_of_le_of_lt (Nat.div_le_self _ _) bp
      have HT : Hid (p / S = t) := by show _ = _; rw [HSS.out]; exact ht
      have hne : bl ≠ w.heap.size := by omega
      clear hx ho hp ht
      go_wp2
      go_roundw
      case rel =>
        refine ⟨j, _, cs.set j (t % 4294967296), x, by omega, rfl, by go_num, rfl, bx, ?_, by rw [List.length_set]; exact HC.out, lc.set _ (by omega), ?_, hB.set _ _ _ (by rw [HC.out]; omega) (by omega), hnx.setCell (Nat.le_refl _) _⟩
        · rw [V_mod hs HSS.out, ← HX.out]; simp [List.getD]
        · rw [V_drop, V_drop xs j, getD_set_eq _ _ _ (by rw [HC.out]; omega), List.drop_set_of_lt (by omega), HE.out, HX.out, shdn_step s hs HSS.out HA.out bx, HP.out, HT.out]
      case measure => simp [intOf]

end Go.Proofs.YtkbbdkecillnpaaGreat

namespace Go.Proofs.YtkbbdkecillnpaaGreat
open Go.RowKit
set_option linter.unusedSimpArgs false
set_option linter.unusedVariables false

/-- The value, if it has 64 bits; else 0. -/
def smallN (v : Nat) : Nat := if v < 18446744073709551616 then v else 0
theorem smallN_lt {v : Nat} (h : v < 18446744073709551616) : smallN v = v := by unfold smallN; rw [if_pos h]
theorem smallN_ge {v : Nat} (h : ¬ v < 18446744073709551616) : smallN v = 0 := by unfold smallN; rw [if_neg h]
def isSmall (v : Nat) : Bool := decide (v < 18446744073709551616)
theorem isSmall_lt {v : Nat} (h : v < 18446744073709551616) : isSmall v = true := by simp [isSmall, h]
theorem isSmall_ge {v : Nat} (h : ¬ v < 18446744073709551616) : isSmall v = false := by simp [isSmall, h]

theorem or_zero (x : Nat) (hx : x < 4294967296) : bits BinOp.or IntKind.u64 0 (x : Int) = (x : Int) := by
  have h := u64_or_nat 0 x (by decide) (by omega)
  simpa using h
theorem or_high (n x : Nat) (hn : n < 4294967296) (hx : x < 4294967296) : bits BinOp.or IntKind.u64 (n : Int) ((x : Int) * 4294967296) = (n : Int) + (x : Int) * 4294967296 := by
  have h := u64_or_nat n (x * 4294967296) (by omega) (by omega)
  have e : n ||| x * 4294967296 = n + x * 4294967296 := by
    have := Nat.shiftLeft_add_eq_or_of_lt (show n < 2 ^ 32 by omega) x
    rw [Nat.shiftLeft_eq] at this
    rw [Nat.or_comm, Nat.add_comm]
    exact this.symm
  rw [e] at h
  have c1 : ((x * 4294967296 : Nat) : Int) = (x : Int) * 4294967296 := by simp
  rw [c1] at h
  rw [h]; simp

theorem V_two_lt {X : List Nat} (l : Lim X) (h : X.length ≤ 2) : V X < 18446744073709551616 := by
  have h1 := V_lt l
  have h2 : 4294967296 ^ X.length ≤ 4294967296 ^ 2 := Nat.pow_le_pow_right (by decide) h
  omega
theorem V_three_ge {X : List Nat} (t : Tr X) (h : 2 < X.length) : ¬ V X < 18446744073709551616 := by
  intro hv
  have := len_le_of_V t (k := 2) hv
  omega

set_option maxHeartbeats 1000000 in
set_option maxRecDepth 100000 in
theorem small_any (a : Option Addr) (cap : Nat) (xs : List Nat) (w : World) (h : Rd w a cap xs) :
    Calls Tryz.prog 103 #[.slice a xs.length cap] w fun e w' => e = .returned (.tuple #[.int .u64 (smallN (V xs) : Nat), .bool (isSmall (V xs))]) ∧ w = w' := by
  have Xr := h.strip
  have tX := tr_strip xs
  go_enter Tryz.func103, Tryz.ntmps103
  go_wp2_with fail
  refine (sig_any a cap xs _ h).mono ?_
  rintro e w' ⟨rfl, rfl⟩
  clear h
  have HV : Hid (V (strip xs) = V xs) := V_strip xs
  generalize strip xs = X at Xr tX HV ⊢
  have k1 := Xr.le
  have k2 := Xr.cap
  unfold maxLen at k2
  have fX := Xr.fm
  have lX := Xr.lim
  clear Xr
  by_cases hl : 2 < X.length
  · have HG : Hid (¬ V xs < 18446744073709551616) := by show ¬ _; rw [← HV.out]; exact V_three_ge tX hl
    go_wp2
    go_ret2
    exact ⟨by rw [smallN_ge HG.out, isSmall_ge HG.out]; rfl, rfl⟩
  · have HG : Hid (V xs < 18446744073709551616) := by show _ < _; rw [← HV.out]; exact V_two_lt lX (by omega)
    go_wp2
    go_loop [4, 14] (fun n i => ∃ (k m : Nat), k ≤ X.length ∧ i = .int .i64 k ∧ n = .int .u64 m ∧ m = V (X.take k)) (fun _ i => X.length - (intOf i).toNat)
    case atStart => exact ⟨0, 0, Nat.zero_le _, rfl, rfl, by simp [V]⟩
    case round =>
      obtain ⟨k, m, hk, rfl, rfl, hm⟩ := hrel
      have HM : Hid (m = V (X.take k)) := hm
      clear hm
      by_cases hkn : k < X.length
      · obtain ⟨bl, ol, rfl, _, hcx⟩ := fX.at (Below.refl _ _) k hkn
        obtain ⟨x, hx⟩ : ∃ x, X.getD k 0 = x := ⟨_, rfl⟩
        have bx : x < 4294967296 := by rw [← hx]; exact lX.getD k
        rw [hx] at hcx
        have HX : Hid (X.getD k 0 = x) := hx
        clear hx
        have HS := V_take_succ X k
        rcases (show k = 0 ∨ k = 1 by omega) with hk0 | hk1
        · subst hk0
          rw [Nat.add_zero] at hcx
          obtain rfl : m = 0 := by rw [HM.out]; simp [V]
          have ho := or_zero x bx
          have HS2 : Hid (x = V (X.take 1)) := by show _ = _; rw [HS, HX.out]; simp [V]
          clear HS
          go_wp2
          go_round
          case rel => exact ⟨1, x, by omega, by go_num, by go_num, HS2.out⟩
          case measure => simp [intOf]; omega
        · subst hk1
          have hmb : m < 4294967296 := by
            rw [HM.out, V_take_Sv, Sv, Sv]; simp only [Nat.pow_zero, Nat.one_mul, Nat.zero_add]; exact lX.getD 0
          have ho := or_high m x hmb bx
          have HS2 : Hid (m + x * 4294967296 = V (X.take 2)) := by show _ = _; rw [HS, HX.out, ← HM.out]; omega
          clear HS
          go_wp2
          go_round
          case rel => exact ⟨2, m + x * 4294967296, by omega, by go_num, by go_num, HS2.out⟩
          case measure => simp [intOf]; omega
      · obtain rfl : k = X.length := by omega
        go_wp2
        go_ret2
        refine ⟨?_, rfl⟩
        rw [smallN_lt HG.out, isSmall_lt HG.out, ← HV.out]
        have := HM.out
        rw [List.take_length] at this
        rw [← this]
        rfl

end Go.Proofs.YtkbbdkecillnpaaGreat

namespace Go.Proofs.YtkbbdkecillnpaaGreat
set_option linter.unusedSimpArgs false
set_option linter.unusedVariables false

/-- A guess whose product with the divisor's two topmost limbs is too great is too great. -/
theorem guess_low {q t W U P VL VB : Nat} (hP : 0 < P) (hq : q * VB ≤ VL) (hB : W * P ≤ VB) (hL : VL < (U + 1) * P) (ht : U < t * W) : q < t := by
  rcases Nat.lt_or_ge q t with h | h
  · exact h
  · exfalso
    have h1 : t * (W * P) ≤ q * VB := Nat.mul_le_mul h hB
    have h2 : (U + 1) * P ≤ t * W * P := Nat.mul_le_mul_right P ht
    have h3 : t * (W * P) = t * W * P := (Nat.mul_assoc _ _ _).symm
    omega

/-- A guess that fits the three topmost limbs is at most one too great. -/
theorem guess_high {q t W U P VL VB : Nat} (hP : 0 < P) (hq : VL < (q + 1) * VB) (hB : VB < (W + 1) * P) (hL : U * P ≤ VL) (ht : t * W ≤ U) (hW : q + 1 ≤ W) : t ≤ q + 1 := by
  rcases Nat.lt_or_ge (q + 1) t with h | h
  · exfalso
    have h1 : (q + 2) * W ≤ t * W := Nat.mul_le_mul_right W h
    have h2 : (q + 2) * W * P ≤ U * P := Nat.mul_le_mul_right P (Nat.le_trans h1 ht)
    have h3 : (q + 1) * VB ≤ (q + 1) * ((W + 1) * P) := Nat.mul_le_mul_left _ (Nat.le_of_lt hB)
    have h4 : (q + 1) * ((W + 1) * P) ≤ (q + 2) * W * P := by
      have : (q + 1) * (W + 1) ≤ (q + 2) * W := by
        have e1 : (q + 1) * (W + 1) = (q + 1) * W + (q + 1) := by rw [Nat.mul_add, Nat.mul_one]
        have e2 : (q + 2) * W = (q + 1) * W + W := by rw [show q + 2 = (q + 1) + 1 by omega, Nat.add_mul (q + 1) 1 W, Nat.one_mul]
        omega
      rw [← Nat.mul_assoc]
      exact Nat.mul_le_mul_right P this
    omega
  · exact h

/-- The three topmost places. -/
theorem Sv_top3 (f : Nat → Nat) (m : Nat) : Sv f (m + 3) = Sv f m + 4294967296 ^ m * (f m + 4294967296 * f (m + 1) + 18446744073709551616 * f (m + 2)) := by
  simp only [Sv, Nat.pow_succ]
  generalize 4294967296 ^ m = p
  grind
theorem Sv_top2 (f : Nat → Nat) (m : Nat) : Sv f (m + 2) = Sv f m + 4294967296 ^ m * (f m + 4294967296 * f (m + 1)) := by
  simp only [Sv, Nat.pow_succ]
  generalize 4294967296 ^ m = p
  grind

end Go.Proofs.YtkbbdkecillnpaaGreat

namespace Go.Proofs.YtkbbdkecillnpaaGreat
open Go.RowKit
set_option linter.unusedSimpArgs false
set_option linter.unusedVariables false

theorem drewN_drewN (w : World) (a b : Nat) : (w.drewN a).drewN b = w.drewN (a + b) := by simp [World.drewN, Nat.add_assoc]

theorem guess_start {q v0 v1 u0 u1 u2 tp t0 r0 : Nat} (hq : q * (v0 + 4294967296 * v1) ≤ u0 + 4294967296 * u1 + 18446744073709551616 * u2) (htp : u2 * 4294967296 + u1 = tp) (hd : v1 * t0 + r0 = tp) (hr : r0 < v1) (hu : u0 < 4294967296) : q ≤ t0 := by
  rcases Nat.lt_or_ge t0 q with h | h
  · exfalso
    have h1 : v1 * (t0 + 1) ≤ v1 * q := Nat.mul_le_mul_left _ h
    rw [Nat.mul_add, Nat.mul_one] at h1
    have e : q * (v0 + 4294967296 * v1) = q * v0 + 4294967296 * (v1 * q) := by grind
    omega
  · exact h

theorem guess_first {v1 u1 u2 tp t0 r0 : Nat} (htp : u2 * 4294967296 + u1 = tp) (hd : v1 * t0 + r0 = tp) (hv1 : 2147483648 ≤ v1) (hu2 : u2 ≤ v1) (k1 : u1 < 4294967296) : t0 ≤ 4294967297 := by
  rcases Nat.lt_or_ge 4294967297 t0 with h | h
  · exfalso
    have h1 : v1 * 4294967298 ≤ v1 * t0 := Nat.mul_le_mul_left _ h
    omega
  · exact h

theorem guess_break {v1 u1 u2 tp t r : Nat} (htp : u2 * 4294967296 + u1 = tp) (hd : v1 * t + (r + v1) = tp) (hu2 : u2 ≤ v1) (k1 : u1 < 4294967296) (hb : 4294967296 ≤ r + v1) : t < 4294967296 := by
  rcases Nat.lt_or_ge t 4294967296 with h | h
  · exact h
  · exfalso
    have h1 : v1 * 4294967296 ≤ v1 * t := Nat.mul_le_mul_left _ h
    omega

theorem guess_small {t v0 u0 r : Nat} (ht : t < 4294967296) (hv : v0 < 4294967296) (hb : 4294967296 ≤ r) : t * v0 ≤ r * 4294967296 + u0 := by
  have := mul_lt_64 ht hv
  omega

theorem guess_fit {v0 v1 u0 u1 u2 tp t r : Nat} (htp : u2 * 4294967296 + u1 = tp) (hd : v1 * t + r = tp) (h : t * v0 ≤ r * 4294967296 + u0) : t * (v0 + 4294967296 * v1) ≤ u0 + 4294967296 * u1 + 18446744073709551616 * u2 := by
  have e : t * (v0 + 4294967296 * v1) = t * v0 + 4294967296 * (v1 * t) := by grind
  omega

theorem guess_over {v0 v1 u0 u1 u2 tp t r : Nat} (htp : u2 * 4294967296 + u1 = tp) (hd : v1 * t + r = tp) (h : r * 4294967296 + u0 < t * v0) : u0 + 4294967296 * u1 + 18446744073709551616 * u2 < t * (v0 + 4294967296 * v1) := by
  have e : t * (v0 + 4294967296 * v1) = t * v0 + 4294967296 * (v1 * t) := by grind
  omega

set_option maxHeartbeats 2000000 in
set_option maxRecDepth 100000 in
/-- The guess t: at least q, and its product with the two topmost limbs of the divisor is no more than the three topmost ones of what is divided. -/
theorem guess_any (g off co n : Nat) (zs : List Nat) (b1 o1 cb : Nat) (ys : List Nat) (q : Nat) (w : World) (hblk : Blk 157 w g zs) (lz : Lim zs) (hb : Rd w (some ⟨b1, o1, none⟩) cb ys)
    (hn : ys.length = n) (hn2 : 2 ≤ n) (hlen : off + n + 1 ≤ zs.length) (hbig : zs.length ≤ 4000000000) (hv1 : 2147483648 ≤ ys.getD (n - 1) 0) (hu2 : zs.getD (off + n) 0 ≤ ys.getD (n - 1) 0) (hq : q < 4294967296)
    (hlow : ∀ t, zs.getD (off + n - 2) 0 + 4294967296 * zs.getD (off + n - 1) 0 + 18446744073709551616 * zs.getD (off + n) 0 < t * (ys.getD (n - 2) 0 + 4294967296 * ys.getD (n - 1) 0) → q < t)
    (hq0 : q * (ys.getD (n - 2) 0 + 4294967296 * ys.getD (n - 1) 0) ≤ zs.getD (off + n - 2) 0 + 4294967296 * zs.getD (off + n - 1) 0 + 18446744073709551616 * zs.getD (off + n) 0) :
    Calls Tryz.prog 152 #[.slice (some ⟨g, off, none⟩) (n + 1) co, .slice (some ⟨b1, o1, none⟩) n cb] w fun e w' =>
      ∃ t : Nat, e = .returned (.int .u32 (t : Int)) ∧ t < 4294967296 ∧ q ≤ t ∧ t * (ys.getD (n - 2) 0 + 4294967296 * ys.getD (n - 1) 0) ≤ zs.getD (off + n - 2) 0 + 4294967296 * zs.getD (off + n - 1) 0 + 18446744073709551616 * zs.getD (off + n) 0 ∧ ∃ k, w' = w.drewN k := by
  obtain ⟨m, rfl⟩ : ∃ m, n = m + 2 := ⟨n - 2, by omega⟩
  have c1 := hb.at (m + 1) (by omega)
  have c0 := hb.at m (by omega)
  have d2 := hblk.cell (off + (m + 2)) (by omega)
  have d1 := hblk.cell (off + (m + 1)) (by omega)
  have d0 := hblk.cell (off + m) (by omega)
  rw [show m + 2 - 1 = m + 1 by omega] at hv1 hu2 hlow hq0 ⊢
  rw [show m + 2 - 2 = m by omega] at hlow hq0 ⊢
  rw [show off + (m + 2) - 1 = off + (m + 1) by omega] at hlow hq0 ⊢
  rw [show off + (m + 2) - 2 = off + m by omega] at hlow hq0 ⊢
  have l1 := hb.lim.getD (m + 1)
  have l0 := hb.lim.getD m
  have k2 := lz.getD (off + (m + 2))
  have k1 := lz.getD (off + (m + 1))
  have k0 := lz.getD (off + m)
  generalize ys.getD (m + 1) 0 = v1 at *
  generalize ys.getD m 0 = v0 at *
  generalize zs.getD (off + (m + 2)) 0 = u2 at *
  generalize zs.getD (off + (m + 1)) 0 = u1 at *
  generalize zs.getD (off + m) 0 = u0 at *
  clear hb hblk
  have HLO : Hid (∀ t, u0 + 4294967296 * u1 + 18446744073709551616 * u2 < t * (v0 + 4294967296 * v1) → q < t) := hlow
  have HQ0 : Hid (q * (v0 + 4294967296 * v1) ≤ u0 + 4294967296 * u1 + 18446744073709551616 * u2) := hq0
  clear hlow hq0
  have i1 : (0 : Int) ≤ (m : Int) + 2 - 1 := by omega
  have i2 : (m : Int) + 2 - 1 < (m : Int) + 2 := by omega
  have hor1 := or_low u2 u1 k2 k1
  obtain ⟨tp, htp⟩ : ∃ tp, u2 * 4294967296 + u1 = tp := ⟨_, rfl⟩
  have htpi : (u2 : Int) * 4294967296 + (u1 : Int) = (tp : Int) := by omega
  have HTP : Hid (u2 * 4294967296 + u1 = tp) := htp
  have btp : tp < 18446744073709551616 := by omega
  obtain ⟨t0, ht0⟩ : ∃ t0, tp / v1 = t0 := ⟨_, rfl⟩
  obtain ⟨r0, hr0⟩ : ∃ r0, tp % v1 = r0 := ⟨_, rfl⟩
  have ht0i : (tp : Int) / (v1 : Int) = (t0 : Int) := by rw [← ht0]; simp
  have hr0i : (tp : Int) % (v1 : Int) = (r0 : Int) := by rw [← hr0]; simp
  have hdm : v1 * t0 + r0 = tp := by rw [← ht0, ← hr0]; exact Nat.div_add_mod tp v1
  have hr0b : r0 < v1 := by rw [← hr0]; exact Nat.mod_lt _ (by omega)
  have HDM : Hid (v1 * t0 + r0 = tp) := hdm
  clear htp ht0 hr0 hdm
  have hq1 : q ≤ t0 := guess_start HQ0.out HTP.out HDM.out hr0b k0
  have ht1 : t0 ≤ 4294967297 := guess_first HTP.out HDM.out hv1 hu2 k1
  go_enter Tryz.func152, Tryz.ntmps152
  go_wp2_with fail
  go_quiet (fail)
  go_wp2_with fail
  have e2 : (w.drewN nq).cell? ⟨g, off + (m + 2), none⟩ = some (.int .u32 (u2 : Int)) := d2
  have e1 : (w.drewN nq).cell? ⟨g, off + (m + 1), none⟩ = some (.int .u32 (u1 : Int)) := d1
  have e0 : (w.drewN nq).cell? ⟨g, off + m, none⟩ = some (.int .u32 (u0 : Int)) := d0
  have HW1 : Hid (∃ k, w.drewN nq = w.drewN k) := ⟨_, rfl⟩
  clear d2 d1 d0 c1 c0
  generalize w.drewN nq = wq at e2 e1 e0 HW1 ⊢
  go_quiet (fail)
  go_wp2_with fail
  have f0 : (wq.drewN nq).cell? ⟨g, off + m, none⟩ = some (.int .u32 (u0 : Int)) := e0
  have HW2 : Hid (∃ k, wq.drewN nq = w.drewN k) := by obtain ⟨k, hk⟩ := HW1.out; exact ⟨k + nq, by rw [hk]; exact drewN_drewN _ _ _⟩
  clear e2 e1 e0 HW1
  generalize wq.drewN nq = wq2 at f0 HW2 ⊢
  go_quiet (fail)
  go_wp2_with fail
  have g0 : (wq2.drewN nq).cell? ⟨g, off + m, none⟩ = some (.int .u32 (u0 : Int)) := f0
  have HW3 : Hid (∃ k, wq2.drewN nq = w.drewN k) := by obtain ⟨k, hk⟩ := HW2.out; exact ⟨k + nq, by rw [hk]; exact drewN_drewN _ _ _⟩
  clear f0 HW2
  generalize wq2.drewN nq = wq3 at g0 HW3 ⊢
  have HR0 : Hid (Value.int .u64 ((tp : Int) % (v1 : Int)) = Value.int .u64 (r0 : Int)) := congrArg (Value.int .u64) hr0i
  clear hor1 htpi ht0i hr0i
  go_loop [9, 10] (fun a b => ∃ t r : Nat, a = .int .u64 t ∧ b = .int .u64 r ∧ v1 * t + r = tp ∧ q ≤ t ∧ r < 4294967296 ∧ t ≤ 4294967297) (fun a _ => (intOf a).toNat)
  case atStart => exact ⟨t0, r0, rfl, HR0.out, HDM.out, hq1, by omega, ht1⟩
  case round =>
    obtain ⟨t, r, rfl, rfl, hinv, hqt, hr, ht⟩ := hrel
    have HI : Hid (v1 * t + r = tp) := hinv
    clear hinv
    have hor2 := or_low r u0 hr k0
    by_cases hA : 4294967296 ≤ t
    · have hA' : ((t : Int) / 4294967296 != 0) = true := by rw [bne_iff_ne]; omega
      have hqlt : q < t := by omega
      obtain ⟨t', ht'⟩ : ∃ t', t' + 1 = t := ⟨t - 1, by omega⟩
      have HI2 : Hid (v1 * t' + (r + v1) = tp) := by have := HI.out; show _ = _; rw [← this, ← ht', Nat.mul_add]; omega
      by_cases hbr : 4294967296 ≤ r + v1
      · have hB' : (((r : Int) + (v1 : Int)) / 4294967296 != 0) = true := by rw [bne_iff_ne]; omega
        have hlt : t' < 4294967296 := guess_break HTP.out HI2.out hu2 k1 hbr
        go_wp2
        go_ret
        exact ⟨t', ret_u32 (by omega), hlt, by omega, guess_fit HTP.out HI2.out (guess_small hlt l0 hbr), HW3.out⟩
      · have hB' : (((r : Int) + (v1 : Int)) / 4294967296 != 0) = false := by rw [bne_eq_false_iff_eq]; omega
        go_wp2
        go_round
        case rel => exact ⟨t', r + v1, congrArg (Value.int .u64) (by omega), congrArg (Value.int .u64) (by omega), HI2.out, by omega, by omega, by omega⟩
        case measure => simp [intOf]; omega
    · have hA' : ((t : Int) / 4294967296 != 0) = false := by rw [bne_eq_false_iff_eq]; omega
      obtain ⟨p, hp⟩ : ∃ p, t * v0 = p := ⟨_, rfl⟩
      have bp : p ≤ 18446744065119617025 := by rw [← hp]; exact mul_lt_64 (by omega) l0
      have hpi : (t : Int) * (v0 : Int) = (p : Int) := by rw [← hp]; simp
      have HP : Hid (t * v0 = p) := hp
      clear hp
      by_cases hC : r * 4294967296 + u0 < p
      · have hqlt : q < t := HLO.out t (guess_over HTP.out HI.out (by rw [HP.out]; exact hC))
        obtain ⟨t', ht'⟩ : ∃ t', t' + 1 = t := ⟨t - 1, by omega⟩
        have HI2 : Hid (v1 * t' + (r + v1) = tp) := by have := HI.out; show _ = _; rw [← this, ← ht', Nat.mul_add]; omega
        by_cases hbr : 4294967296 ≤ r + v1
        · have hB' : (((r : Int) + (v1 : Int)) / 4294967296 != 0) = true := by rw [bne_iff_ne]; omega
          have hlt : t' < 4294967296 := by omega
          go_wp2
          go_ret
          exact ⟨t', ret_u32 (by omega), hlt, by omega, guess_fit HTP.out HI2.out (guess_small hlt l0 hbr), HW3.out⟩
        · have hB' : (((r : Int) + (v1 : Int)) / 4294967296 != 0) = false := by rw [bne_eq_false_iff_eq]; omega
          go_wp2
          go_round
          case rel => exact ⟨t', r + v1, congrArg (Value.int .u64) (by omega), congrArg (Value.int .u64) (by omega), HI2.out, by omega, by omega, by omega⟩
          case measure => simp [intOf]; omega
      · go_wp2
        go_ret
        exact ⟨t, ret_u32 (by omega), by omega, hqt, guess_fit HTP.out HI.out (by rw [HP.out]; omega), HW3.out⟩

end Go.Proofs.YtkbbdkecillnpaaGreat

namespace Go.Proofs.YtkbbdkecillnpaaGreat
set_option linter.unusedSimpArgs false
set_option linter.unusedVariables false

theorem lt_of_mul_lt {a b P : Nat} (h : a * P < b * P) : a < b := by
  rcases Nat.lt_or_ge a b with h1 | h1
  · exact h1
  · have := Nat.mul_le_mul_right P h1; omega

/-- What is known of the topmost limbs, off the values. -/
theorem step_facts {f y : Nat → Nat} {m : Nat} (hf : ∀ i, f i < 4294967296) (hy : ∀ i, y i < 4294967296) (hv : 2147483648 ≤ y (m + 1)) (hlt : Sv f (m + 3) < 4294967296 * Sv y (m + 2)) :
    f (m + 2) ≤ y (m + 1) ∧ Sv f (m + 3) / Sv y (m + 2) < 4294967296 ∧
    (∀ t, f m + 4294967296 * f (m + 1) + 18446744073709551616 * f (m + 2) < t * (y m + 4294967296 * y (m + 1)) → Sv f (m + 3) / Sv y (m + 2) < t) ∧
    Sv f (m + 3) / Sv y (m + 2) * (y m + 4294967296 * y (m + 1)) ≤ f m + 4294967296 * f (m + 1) + 18446744073709551616 * f (m + 2) ∧
    (∀ t, t * (y m + 4294967296 * y (m + 1)) ≤ f m + 4294967296 * f (m + 1) + 18446744073709551616 * f (m + 2) → t ≤ Sv f (m + 3) / Sv y (m + 2) + 1) := by
  have eF := Sv_top3 f m
  have eY := Sv_top2 y m
  have bF := Sv_lt (f := f) (k := m) (fun i _ => hf i)
  have bY := Sv_lt (f := y) (k := m) (fun i _ => hy i)
  have hP : 0 < 4294967296 ^ m := Nat.pow_pos (by decide)
  have h0 := hf m; have h1 := hf (m + 1); have h2 := hf (m + 2); have g0 := hy m; have g1 := hy (m + 1)
  generalize Sv f (m + 3) = VL at *
  generalize Sv y (m + 2) = VB at *
  generalize Sv f m = F at *
  generalize Sv y m = Y at *
  generalize 4294967296 ^ m = P at *
  generalize f m = u0 at *
  generalize f (m + 1) = u1 at *
  generalize f (m + 2) = u2 at *
  generalize y m = v0 at *
  generalize y (m + 1) = v1 at *
  obtain ⟨W, hW⟩ : ∃ W, v0 + 4294967296 * v1 = W := ⟨_, rfl⟩
  obtain ⟨U, hU⟩ : ∃ U, u0 + 4294967296 * u1 + 18446744073709551616 * u2 = U := ⟨_, rfl⟩
  rw [hW] at eY ⊢
  rw [hU] at eF ⊢
  have hVB : 0 < VB := by
    have : P * 1 ≤ P * W := Nat.mul_le_mul_left P (by omega)
    omega
  have hq1 : VL / VB * VB ≤ VL := Nat.div_mul_le_self VL VB
  have hq2 : VL < (VL / VB + 1) * VB := by
    have := Nat.lt_div_mul_add (a := VL) hVB
    rw [Nat.add_mul, Nat.one_mul]; exact this
  have a1 : W * P ≤ VB := by rw [eY, Nat.mul_comm]; omega
  have a2 : VB < (W + 1) * P := by rw [eY, Nat.add_mul, Nat.one_mul, Nat.mul_comm]; omega
  have a3 : U * P ≤ VL := by rw [eF, Nat.mul_comm]; omega
  have a4 : VL < (U + 1) * P := by rw [eF, Nat.add_mul, Nat.one_mul, Nat.mul_comm]; omega
  have hqlt : VL / VB < 4294967296 := Nat.div_lt_of_lt_mul (by rw [Nat.mul_comm]; exact hlt)
  refine ⟨?_, hqlt, fun t ht => guess_low hP hq1 a1 a4 ht, ?_, fun t ht => guess_high hP hq2 a2 a3 ht (by omega)⟩
  · have h3 : U * P < (4294967296 * (W + 1)) * P := by
      have : 4294967296 * VB ≤ 4294967296 * ((W + 1) * P) := Nat.mul_le_mul_left _ (Nat.le_of_lt a2)
      rw [Nat.mul_assoc]; omega
    have := lt_of_mul_lt h3
    omega
  · have h4 : VL / VB * W * P < (U + 1) * P := by
      have : VL / VB * (W * P) ≤ VL / VB * VB := Nat.mul_le_mul_left _ a1
      rw [Nat.mul_assoc]; omega
    have := lt_of_mul_lt h4
    omega

/-- The guess was right. -/
theorem step_right {VL VB S0 S1 p u2 c t : Nat} (hVB : 0 < VB) (hL : VL = S0 + p * u2) (hs : S1 + VB * t = S0 + p * c) (hc : c ≤ u2) (hq : VL / VB ≤ t) : t = VL / VB ∧ S1 + p * (u2 - c) = VL % VB := by
  obtain ⟨k, rfl⟩ : ∃ k, u2 = c + k := ⟨u2 - c, by omega⟩
  rw [show c + k - c = k by omega]
  have e : VB * t + (S1 + p * k) = VL := by rw [hL, Nat.mul_add]; omega
  have ht : t ≤ VL / VB := (Nat.le_div_iff_mul_le hVB).2 (by rw [Nat.mul_comm]; omega)
  have htq : t = VL / VB := by omega
  refine ⟨htq, ?_⟩
  have := Nat.div_add_mod VL VB
  rw [← htq] at this
  omega

/-- The guess was one too great. -/
theorem step_over {VL VB S0 S1 S2 p u2 c d t : Nat} (hVB : 0 < VB) (hp : VB < p) (h1 : S1 < p) (h2 : S2 < p) (hL : VL = S0 + p * u2) (hs : S1 + VB * t = S0 + p * c) (ha : S2 + p * d = S1 + VB) (hc : u2 < c) (ht : t ≤ VL / VB + 1) :
    t = VL / VB + 1 ∧ u2 + d = c ∧ S2 = VL % VB := by
  have hpc : p * (u2 + 1) ≤ p * c := Nat.mul_le_mul_left p hc
  rw [Nat.mul_add, Nat.mul_one] at hpc
  have hgt : VL < VB * t := by omega
  have htq : VL / VB < t := (Nat.div_lt_iff_lt_mul hVB).2 (by rw [Nat.mul_comm]; exact hgt)
  have htt : t = VL / VB + 1 := by omega
  have hdm := Nat.div_add_mod VL VB
  have hr := Nat.mod_lt VL hVB
  have e : S2 + p * (u2 + d) = VL % VB + p * c := by
    rw [htt, Nat.mul_add, Nat.mul_one] at hs
    rw [Nat.mul_add]; omega
  generalize VL % VB = r at *
  have hud : u2 + d = c := by
    rcases Nat.lt_trichotomy (u2 + d) c with h | h | h
    · have := Nat.mul_le_mul_left p h
      rw [Nat.mul_succ] at this; omega
    · exact h
    · have := Nat.mul_le_mul_left p h
      rw [Nat.mul_succ] at this; omega
  refine ⟨htt, hud, ?_⟩
  rw [hud] at e; omega

end Go.Proofs.YtkbbdkecillnpaaGreat
