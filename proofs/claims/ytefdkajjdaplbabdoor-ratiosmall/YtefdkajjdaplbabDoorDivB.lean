/-
  math/bits.Len32, LeadingZeros32; nat.shiftUp, nat.shiftDown: the walks.
-/
import Derived.Test.YtefdkajjdaplbabDoorDivA
import Derived.Test.YtefdkajjdaplbabDoorMul
import Derived.Lib.BitFns
import Derived.Lib.Strings
import Derived.Lib.Walk
import Derived.Outline
namespace Go.Proofs.YtefdkajjdaplbabDoor
open Go.RowKit
set_option linter.unusedSimpArgs false
set_option linter.unusedVariables false

set_option maxHeartbeats 1000000 in
set_option maxRecDepth 100000 in
theorem len32_any (x : Int) (w : World) (h0 : 0 ≤ x) (h1 : x ≤ 4294967295) :
    Calls Tryd.prog 65 #[.int .u32 x] w fun e w' => e = .returned (.int .i64 (Lib.bitLen x.toNat)) ∧ w = w' := by
  rcases (show 16777216 ≤ x ∨ (65536 ≤ x ∧ x < 16777216) ∨ (256 ≤ x ∧ x < 65536) ∨ x < 256 from by omega) with h | ⟨h, h'⟩ | ⟨h, h'⟩ | h
  · skip
    have q0 : 0 ≤ x / 65536 / 256 := by omega
    have q1 : x / 65536 / 256 ≤ 255 := by omega
    have e8 := Lib.len8_of (x / 65536 / 256) q0 q1
    have hb := Lib.bitLen_le8' (x / 65536 / 256) q0 q1
    have s := Lib.bitLen_shift24 x.toNat (by omega) (by omega)
    have et : (x / 65536 / 256).toNat = x.toNat / 16777216 := by omega
    rw [et] at e8 hb
    have HB : Hid (Lib.bitLen x.toNat = 24 + Lib.bitLen (x.toNat / 16777216)) := s
    clear s
    generalize Lib.bitLen (x.toNat / 16777216) = n at e8 hb HB
    clear et
    go_enter Tryd.func65, Tryd.ntmps65
    go_wp2
    go_ret
    exact ⟨ret_i64 (by have := HB.out; omega), rfl⟩
  · skip
    have q0 : 0 ≤ x / 65536 := by omega
    have q1 : x / 65536 ≤ 255 := by omega
    have e8 := Lib.len8_of (x / 65536) q0 q1
    have hb := Lib.bitLen_le8' (x / 65536) q0 q1
    have s := Lib.bitLen_shift16 x.toNat (by omega) (by omega)
    have et : (x / 65536).toNat = x.toNat / 65536 := by omega
    rw [et] at e8 hb
    have HB : Hid (Lib.bitLen x.toNat = 16 + Lib.bitLen (x.toNat / 65536)) := s
    clear s
    generalize Lib.bitLen (x.toNat / 65536) = n at e8 hb HB
    clear et
    go_enter Tryd.func65, Tryd.ntmps65
    go_wp2
    go_ret
    exact ⟨ret_i64 (by have := HB.out; omega), rfl⟩
  · skip
    have q0 : 0 ≤ x / 256 := by omega
    have q1 : x / 256 ≤ 255 := by omega
    have e8 := Lib.len8_of (x / 256) q0 q1
    have hb := Lib.bitLen_le8' (x / 256) q0 q1
    have s := Lib.bitLen_shift8 x.toNat (by omega) (by omega)
    have et : (x / 256).toNat = x.toNat / 256 := by omega
    rw [et] at e8 hb
    have HB : Hid (Lib.bitLen x.toNat = 8 + Lib.bitLen (x.toNat / 256)) := s
    clear s
    generalize Lib.bitLen (x.toNat / 256) = n at e8 hb HB
    clear et
    go_enter Tryd.func65, Tryd.ntmps65
    go_wp2
    go_ret
    exact ⟨ret_i64 (by have := HB.out; omega), rfl⟩
  · skip
    have q0 : 0 ≤ x := by omega
    have q1 : x ≤ 255 := by omega
    have e8 := Lib.len8_of (x) q0 q1
    have hb := Lib.bitLen_le8' (x) q0 q1
    have et : (x).toNat = x.toNat := by omega
    rw [et] at e8 hb
    have HB : Hid (Lib.bitLen x.toNat = 0 + Lib.bitLen (x.toNat)) := by show _ = _; rw [Nat.zero_add]
    skip
    generalize Lib.bitLen (x.toNat) = n at e8 hb HB
    clear et
    go_enter Tryd.func65, Tryd.ntmps65
    go_wp2
    go_ret
    exact ⟨ret_i64 (by have := HB.out; omega), rfl⟩

set_option maxHeartbeats 400000 in
theorem lz32_any (x : Nat) (w : World) (h1 : x < 4294967296) :
    Calls Tryd.prog 52 #[.int .u32 (x : Int)] w fun e w' => e = .returned (.int .i64 (32 - (Lib.bitLen x : Int))) ∧ w = w' := by
  have hl := Lib.bitLen_le x 32 (by decide) h1
  go_enter Tryd.func52, Tryd.ntmps52
  go_wp2_with fail
  refine (len32_any (x : Int) _ (by omega) (by omega)).mono ?_
  rintro e w' ⟨rfl, rfl⟩
  rw [Int.toNat_natCast]
  obtain ⟨n, hn⟩ : ∃ n, Lib.bitLen x = n := ⟨_, rfl⟩
  have HN : Hid (Lib.bitLen x = n) := hn
  rw [hn] at hl ⊢
  clear hn
  go_wp2
  go_ret
  exact ⟨ret_i64 (by rw [HN.out]), rfl⟩

theorem wrap_u64_mod (n : Int) : IntKind.u64.wrap n = n % 18446744073709551616 := by simp [IntKind.wrap, IntKind.bits, IntKind.signed]

theorem or_shift {x p cy s : Nat} (hp : x * 2 ^ s = p) (hc : cy < 2 ^ s) (hb : p + cy < 18446744073709551616) : bits BinOp.or IntKind.u64 (p : Int) (cy : Int) = (p : Int) + (cy : Int) := by
  have h := u64_or_nat p cy (by omega) (by omega)
  have e : p ||| cy = p + cy := by
    have := Nat.shiftLeft_add_eq_or_of_lt hc x
    rw [Nat.shiftLeft_eq, hp] at this
    exact this.symm
  rw [h, e]; simp

theorem shup_step {zs xs : List Nat} {k cy x p s : Nat} (hz : zs.length = k) (he : V zs + 4294967296 ^ k * cy = V (xs.take k) * 2 ^ s) (hx : xs.getD k 0 = x) (hp : x * 2 ^ s = p) :
    V (zs ++ [(p + cy) % 4294967296]) + 4294967296 ^ (k + 1) * ((p + cy) / 4294967296) = V (xs.take (k + 1)) * 2 ^ s := by
  rw [V_snoc, hz, V_take_succ, hx, Nat.pow_succ]
  have hd := Nat.mod_add_div (p + cy) 4294967296
  generalize (p + cy) % 4294967296 = r at hd ⊢
  generalize (p + cy) / 4294967296 = d at hd ⊢
  subst hp
  generalize 4294967296 ^ k = q at he ⊢
  generalize V zs = o at he ⊢
  generalize V (xs.take k) = A at he ⊢
  generalize 2 ^ s = S at he hd ⊢
  have h1 : q * (r + 4294967296 * d) = q * (x * S + cy) := by rw [hd]
  grind

set_option maxHeartbeats 1000000 in
theorem shup_any (a : Option Addr) (cap : Nat) (xs : List Nat) (s : Nat) (w : World) (h : Rd w a cap xs) (hl : xs.length ≤ 500000000) (hs : s < 32) :
    Calls Tryd.prog 53 #[.slice a xs.length cap, .int .i64 (s : Int)] w fun e w' =>
      ∃ a' cap' zs, e = .returned (.slice a' zs.length cap') ∧ zs.length = xs.length + 1 ∧ V zs = V xs * 2 ^ s ∧ Res 33 w.heap.size w' a' cap' zs ∧ Below w.heap.size w w' := by
  obtain ⟨i0, hi, hz0, hz1, hz2⟩ := info_parts info_limb
  have fL := h.fm
  have lL := h.lim
  clear h
  go_enter Tryd.func53, Tryd.ntmps53
  go_wp2_with (at_make; refine wpList_make_own _ rfl _ _ 27 rfl w.heap.size 33 i0 (.int .u32 0) 1 Tryd.underlying27 hi hz0 hz1 _ _ _ (xs.length + 1) rfl rfl (by omega) (by rw [hz2]; omega) (by unfold maxLen; omega) (Nat.le_refl _) ?_)
  intro u0 hown0 hgrow0
  have hb0 : Below w.heap.size w u0 := (Below.refl _ _).grown hgrow0 (Nat.le_refl _) (fun k h => by cases h)
  go_wp2
  go_loopw [5, 6, 16] (fun out c i wr => ∃ (k : Nat) (zs : List Nat) (cy : Nat), k ≤ xs.length ∧ i = .int .i64 k ∧ c = .int .u64 cy ∧ cy < 2 ^ s ∧ zs.length = k ∧ Lim zs ∧ V zs + 4294967296 ^ k * cy = V (xs.take k) * 2 ^ s ∧ wr.ownsRow w.heap.size 33 1 out k (zs.map U) ∧ Below w.heap.size w wr) (fun _ _ i _ => xs.length - (intOf i).toNat)
  case atStart => exact ⟨0, [], 0, Nat.zero_le _, rfl, rfl, Nat.pow_pos (by decide), rfl, Lim.nil, by simp [V], hown0, hb0⟩
  case round =>
    obtain ⟨k, zs, cy, hk, rfl, rfl, hcy, hzl, lz, heq, hown, hnx⟩ := hrel
    have HE : Hid (V zs + 4294967296 ^ k * cy = V (xs.take k) * 2 ^ s) := heq
    have HZ : Hid (zs.length = k) := hzl
    have hsz := hnx.size
    clear heq hzl
    by_cases hkn : k < xs.length
    · obtain ⟨bl, ol, rfl, _, hcl⟩ := fL.at hnx k hkn
      obtain ⟨x, hx⟩ : ∃ x, xs.getD k 0 = x := ⟨_, rfl⟩
      have bx : x < 4294967296 := by rw [← hx]; exact lL.getD k
      rw [hx] at hcl
      have HX : Hid (xs.getD k 0 = x) := hx
      clear hx
      obtain ⟨p, hp⟩ : ∃ p, x * 2 ^ s = p := ⟨_, rfl⟩
      have hP1 : 2 ^ s ≤ 2 ^ 31 := Nat.pow_le_pow_right (by decide) (by omega)
      have bp0 : p ≤ 4294967295 * 2 ^ s := by rw [← hp]; exact Nat.mul_le_mul_right _ (by omega)
      have bp : p ≤ 9223372034707292160 := by omega
      have hpi : (x : Int) * 2 ^ s = (p : Int) := by rw [← hp]; simp
      have hw1 : IntKind.u64.wrap (p : Int) = (p : Int) := by rw [wrap_u64_mod]; omega
      have hor : bits BinOp.or IntKind.u64 (p : Int) (cy : Int) = (p : Int) + (cy : Int) := or_shift hp hcy (by omega)
      have hcy' : (p + cy) / 4294967296 < 2 ^ s := Nat.div_lt_of_lt_mul (by omega)
      have HP : Hid (x * 2 ^ s = p) := hp
      have bcy : cy < 2147483648 := by omega
      have HCY : Hid ((p + cy) / 4294967296 < 2 ^ s) := hcy'
      clear hp hP1 bp0 hcy hcy'
      go_wp2_with (at_builtin; refine wpList_append_one rfl _ _ 27 rfl w.heap.size 33 i0 Tryd.underlying27 hi hz0 hz1 hz2 _ k zs rfl (hown.alloc _) wr.heap.size ((p + cy) % 4294967296) rfl (cell_new1 _ _ _ _ (by omega)) (by omega) (by simp; omega) ?_)
      intro v' w1 hown1 hgrow1
      have hb1 : Below w.heap.size w w1 := (hnx.alloc hsz _).grown hgrow1 (by simp; omega) (fun k hk => (hown.lt k hk).1)
      clear hown
      go_wp2
      go_roundw
      case rel =>
        refine ⟨k + 1, zs ++ [(p + cy) % 4294967296], (p + cy) / 4294967296, by omega, by go_num, by go_num, HCY.out, by simp [HZ.out], lz.snoc (by omega), ?_, own_snoc hown1, hb1⟩
        exact shup_step HZ.out HE.out HX.out HP.out
      case measure => simp [intOf]; omega
    · obtain rfl : k = xs.length := by omega
      have hP1 : 2 ^ s ≤ 2 ^ 31 := Nat.pow_le_pow_right (by decide) (by omega)
      have bcy : cy < 4294967296 := by omega
      clear hcy hP1
      go_wp2_with (at_builtin; refine wpList_append_one rfl _ _ 27 rfl w.heap.size 33 i0 Tryd.underlying27 hi hz0 hz1 hz2 _ _ zs rfl (hown.alloc _) wr.heap.size cy rfl (cell_new1 _ _ _ _ (by omega)) (by omega) (by simp; omega) ?_)
      intro v' w1 hown1 hgrow1
      have hb1 : Below w.heap.size w w1 := (hnx.alloc hsz _).grown hgrow1 (by simp; omega) (fun k hk => (hown.lt k hk).1)
      obtain ⟨a', cap', rfl, hres⟩ := Res.of (lz.snoc bcy) (own_snoc hown1)
      clear hown1 hown
      go_wp2
      go_ret
      refine ⟨a', cap', zs ++ [cy], by simp, by simp [HZ.out], ?_, hres, hb1⟩
      have h1 := HE.out
      rw [List.take_length] at h1
      rw [V_snoc, HZ.out, h1]

theorem bitLen_spec : ∀ (k x : Nat), x < 2 ^ k → k ≤ 64 → x ≠ 0 → 1 ≤ Lib.bitLen x ∧ 2 ^ (Lib.bitLen x - 1) ≤ x ∧ x < 2 ^ Lib.bitLen x := by
  intro k
  induction k with
  | zero => intro x h _ h0; simp at h; omega
  | succ k ih =>
    intro x h hk h0
    have hx64 : x < 2 ^ 64 := Nat.lt_of_lt_of_le h (Nat.pow_le_pow_right (by decide) hk)
    have hh := Lib.bitLen_half x h0 hx64
    by_cases h1 : x = 1
    · subst h1
      have e : Lib.bitLen 1 = 1 := by decide
      rw [e]; decide
    · obtain ⟨i1, i2, i3⟩ := ih (x / 2) (by rw [Nat.pow_succ] at h; omega) (by omega) (by omega)
      rw [hh]
      refine ⟨by omega, ?_, ?_⟩
      · rw [show 1 + Lib.bitLen (x / 2) - 1 = (Lib.bitLen (x / 2) - 1) + 1 by omega, Nat.pow_succ]; omega
      · rw [Nat.add_comm, Nat.pow_succ]; omega

/-- What LeadingZeros32 tells: so far is shifted till the topmost bit is set. -/
theorem lz_spec {x : Nat} (h0 : x ≠ 0) (h : x < 4294967296) : ∃ s : Nat, s < 32 ∧ (32 - (Lib.bitLen x : Int)) = (s : Int) ∧ 2147483648 ≤ x * 2 ^ s ∧ x * 2 ^ s < 4294967296 := by
  obtain ⟨h1, h2, h3⟩ := bitLen_spec 32 x h (by decide) h0
  have hl := Lib.bitLen_le x 32 (by decide) h
  generalize Lib.bitLen x = n at *
  refine ⟨32 - n, by omega, by omega, ?_, ?_⟩
  · have : 2 ^ (n - 1) * 2 ^ (32 - n) ≤ x * 2 ^ (32 - n) := Nat.mul_le_mul_right _ h2
    rw [← Nat.pow_add, show n - 1 + (32 - n) = 31 by omega] at this
    exact this
  · have : x * 2 ^ (32 - n) < 2 ^ n * 2 ^ (32 - n) := Nat.mul_lt_mul_of_pos_right h3 (Nat.pow_pos (by decide))
    rw [← Nat.pow_add, show n + (32 - n) = 32 by omega] at this
    exact this

theorem shdn_step {T ab x S : Nat} (s : Nat) (hs : s < 32) (hS : S = 2 ^ s) (hab : ab % S = T % S) (hx : x < 4294967296) :
    (x + 4294967296 * T) / S = (ab * 4294967296 + x) / S % 4294967296 + 4294967296 * (T / S) := by
  have hp : 0 < S := by rw [hS]; exact Nat.pow_pos (by decide)
  have hT := Nat.div_add_mod T S
  have hA := Nat.div_add_mod ab S
  have hr := Nat.mod_lt T hp
  rw [hab] at hA
  generalize T / S = q at hT ⊢
  generalize ab / S = qa at hA
  generalize T % S = r at hT hA hr
  have e1 : x + 4294967296 * T = (x + r * 4294967296) + S * (4294967296 * q) := by rw [← hT]; grind
  have e2 : ab * 4294967296 + x = (x + r * 4294967296) + S * (qa * 4294967296) := by rw [← hA]; grind
  rw [e1, e2, Nat.add_mul_div_left _ _ hp, Nat.add_mul_div_left _ _ hp, Nat.add_mul_mod_self_right]
  have hlt : (x + r * 4294967296) / S < 4294967296 := by
    refine Nat.div_lt_of_lt_mul ?_
    have h1 : (r + 1) * 4294967296 ≤ S * 4294967296 := Nat.mul_le_mul_right _ (by omega)
    omega
  rw [Nat.mod_eq_of_lt hlt]

theorem V_mod {xs : List Nat} {s S : Nat} (hs : s < 32) (hS : S = 2 ^ s) : V xs % S = xs.getD 0 0 % S := by
  rw [V_head_tail]
  have e : (4294967296 : Nat) = S * 2 ^ (32 - s) := by
    rw [hS, ← Nat.pow_add, show s + (32 - s) = 32 by omega]
  rw [e, Nat.mul_assoc, Nat.add_mul_mod_self_left]

set_option maxHeartbeats 1000000 in
theorem shdn_any (a : Option Addr) (cap : Nat) (xs : List Nat) (s : Nat) (w : World) (h : Rd w a cap xs) (hl : xs.length ≤ 500000000) (hs : s < 32) :
    Calls Tryd.prog 55 #[.slice a xs.length cap, .int .i64 (s : Int)] w fun e w' =>
      ∃ g zs, e = .returned (.slice (some ⟨g, 0, none⟩) xs.length xs.length) ∧ zs.length = xs.length ∧ V zs = V xs / 2 ^ s ∧ Rd w' (some ⟨g, 0, none⟩) xs.length zs ∧ Below w.heap.size w w' := by
  obtain ⟨i0, hi, hz0, hz1, hz2⟩ := info_parts info_limb
  have fL := h.fm
  have lL := h.lim
  clear h
  obtain ⟨S, hS⟩ : ∃ S, S = 2 ^ s := ⟨_, rfl⟩
  have HSS : Hid (S = 2 ^ s) := hS
  clear hS
  go_enter Tryd.func55, Tryd.ntmps55
  go_wp2_with (at_make; refine wpList_make_full _ rfl _ _ 27 rfl w.heap.size 33 i0 (.int .u32 0) 1 Tryd.underlying27 hi hz0 hz1 _ _ _ _ xs.length rfl rfl (by omega) (by omega) (by rw [hz2]; omega) (by unfold maxLen; omega) (Nat.le_refl _) ?_)
  intro u0 hown0 hgrow0
  have hb0 : Below w.heap.size w u0 := (Below.refl _ _).grown hgrow0 (Nat.le_refl _) (fun k h => by cases h)
  have hB0 := blk_made hown0
  clear hown0 hgrow0
  go_wp2
  go_loopw [6, 7] (fun v i wr => ∃ (k : Nat) (q : Int) (cs : List Nat) (ab : Nat), k ≤ xs.length ∧ q = (k : Int) - 1 ∧ i = .int .i64 q ∧ v = .int .u64 ab ∧ ab < 4294967296 ∧ ab % S = V (xs.drop k) % S ∧ cs.length = xs.length ∧ Lim cs ∧ V (cs.drop k) = V (xs.drop k) / S ∧ Blk 33 wr w.heap.size cs ∧ Below w.heap.size w wr) (fun _ i _ => (intOf i + 1).toNat)
  case atStart => exact ⟨xs.length, _, _, 0, Nat.le_refl _, rfl, rfl, rfl, by decide, by simp [V], List.length_replicate, fun x hx => by rw [List.eq_of_mem_replicate hx]; decide, by simp [V], hB0, hb0⟩
  case round =>
    obtain ⟨k, q, cs, ab, hk, hq, rfl, rfl, hab, habm, hcl, lc, heq, hB, hnx⟩ := hrel
    have HE : Hid (V (cs.drop k) = V (xs.drop k) / S) := heq
    have HC : Hid (cs.length = xs.length) := hcl
    have HA : Hid (ab % S = V (xs.drop k) % S) := habm
    have hsz := hnx.size
    clear heq hcl habm
    by_cases hk0 : k = 0
    · subst hk0
      obtain rfl : q = -1 := by omega
      clear hq
      go_wp2
      go_ret
      refine ⟨w.heap.size, cs, rfl, HC.out, ?_, ?_, hnx⟩
      · rw [← HSS.out]; simpa using HE.out
      · have hr := hB.rd lc 0 xs.length xs.length (by rw [HC.out]; omega) (Nat.le_refl _) (by unfold maxLen; omega)
        rw [List.drop_zero, List.take_of_length_le (by rw [HC.out]; exact Nat.le_refl _)] at hr
        exact hr
    · obtain ⟨j, rfl⟩ : ∃ j, k = j + 1 := ⟨k - 1, by omega⟩
      obtain rfl : q = (j : Int) := by omega
      clear hq
      obtain ⟨bl, ol, rfl, hblt, hcx⟩ := fL.at hnx j (by omega)
      obtain ⟨x, hx⟩ : ∃ x, xs.getD j 0 = x := ⟨_, rfl⟩
      rw [hx] at hcx
      have bx : x < 4294967296 := by rw [← hx]; exact lL.getD _
      have HX : Hid (xs.getD j 0 = x) := hx
      have c2 := hB.cell j (by rw [HC.out]; omega)
      have c3 := hB.frozen j
      obtain ⟨o, ho⟩ : ∃ o, cs.getD j 0 = o := ⟨_, rfl⟩
      rw [ho] at c2
      have hor := or_low ab x hab bx
      obtain ⟨p, hp⟩ : ∃ p, ab * 4294967296 + x = p := ⟨_, rfl⟩
      have hpi : (ab : Int) * 4294967296 + (x : Int) = (p : Int) := by omega
      have HP : Hid (ab * 4294967296 + x = p) := hp
      have bp : p < 18446744073709551616 := by omega
      obtain ⟨t, ht⟩ : ∃ t, p / 2 ^ s = t := ⟨_, rfl⟩
      have hti : (p : Int) / 2 ^ s = (t : Int) := by rw [← ht]; simp
      have bt : t < 18446744073709551616 := by rw [← ht]; exact Nat.lt_of_le_of_lt (Nat.div_le_self _ _) bp
      have HT : Hid (p / S = t) := by show _ = _; rw [HSS.out]; exact ht
      have hne : bl ≠ w.heap.size := by omega
      clear hx ho hp ht
      go_wp2
      go_roundw
      case rel =>
        refine ⟨j, _, cs.set j (t % 4294967296), x, by omega, rfl, by go_num, rfl, bx, ?_, by rw [List.length_set]; exact HC.out, lc.set _ (by omega), ?_, hB.set _ _ _ (by rw [HC.out]; omega) (by omega), hnx.setCell (Nat.le_refl _) _⟩
        · rw [V_mod hs HSS.out, ← HX.out]; simp [List.getD]
        · rw [V_drop, V_drop xs j, getD_set_eq _ _ _ (by rw [HC.out]; omega), List.drop_set_of_lt (by omega), HE.out, HX.out, shdn_step s hs HSS.out HA.out bx, HP.out, HT.out]
      case measure => simp [intOf]

end Go.Proofs.YtefdkajjdaplbabDoor
