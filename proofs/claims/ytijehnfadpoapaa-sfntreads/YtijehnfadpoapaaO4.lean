/-
  octets.within, number, U8, U16, I16, U32, I32: the walks.
-/
import Derived.Test.YtijehnfadpoapaaO3
import Derived.Lib.BitFns
namespace Go.Proofs.Ytijehnfadpoapaa
open Go.RowKit Go.Maps
set_option linter.unusedSimpArgs false
set_option linter.unusedVariables false

/-- Are the n bytes from place p on there? -/
def inB (l : Nat) (p n : Int) : Bool := decide (0 ≤ n ∧ 0 ≤ p ∧ p + n ≤ l)
/-- The number that bytes are, the most significant first. -/
def V8 (xs : List Nat) : Nat := xs.foldl (fun s x => 256 * s + x) 0
theorem V8_snoc (xs : List Nat) (x : Nat) : V8 (xs ++ [x]) = 256 * V8 xs + x := by simp [V8]
theorem V8_lt {xs : List Nat} (h : Byt xs) : V8 xs < 256 ^ xs.length := by
  obtain ⟨n, hn⟩ : ∃ n, xs.length = n := ⟨_, rfl⟩
  induction n generalizing xs with
  | zero => rw [List.length_eq_zero_iff.1 hn]; decide
  | succ n ih =>
    have hne : xs ≠ [] := by intro e; rw [e] at hn; cases hn
    rw [← List.dropLast_concat_getLast hne] at h hn ⊢
    have hl : xs.dropLast.length = n := by simpa using hn
    have h1 := ih (fun y hy => h y (by simp [hy])) hl
    have h2 := h (xs.getLast hne) (by simp)
    rw [V8_snoc, List.length_append, List.length_singleton, Nat.pow_succ]
    omega

theorem i64_or_nat (a b : Nat) (ha : a < 4611686018427387904) (hb : b < 4611686018427387904) : bits .or .i64 (a : Int) (b : Int) = ((a ||| b : Nat) : Int) := by
  have hx : a ||| b < 2 ^ 62 := Nat.or_lt_two_pow (by omega) (by omega)
  show IntKind.i64.wrap ((BitVec.ofInt 64 (a : Int) ||| BitVec.ofInt 64 (b : Int)).toNat : Int) = _
  rw [BitVec.toNat_or, ofInt_u64 a (by omega), ofInt_u64 b (by omega)]
  unfold IntKind.wrap
  simp [IntKind.bits, IntKind.signed]
  omega
/-- A number whose low 8 bits are 0, or'ed with a byte. -/
theorem or_byte (s x : Nat) (hs : s < 4294967296) (hx : x < 256) : bits BinOp.or IntKind.i64 ((s : Int) * 256) (x : Int) = 256 * (s : Int) + (x : Int) := by
  have h := i64_or_nat (s * 256) x (by omega) (by omega)
  have e : s * 256 ||| x = s * 256 + x := by
    have := Nat.shiftLeft_add_eq_or_of_lt (show x < 2 ^ 8 by omega) s
    rw [Nat.shiftLeft_eq] at this
    exact this.symm
  rw [e] at h
  have c1 : ((s * 256 : Nat) : Int) = (s : Int) * 256 := by simp
  rw [c1] at h
  rw [h, Int.natCast_add, c1, Int.mul_comm]
theorem rt_two {a b a' b' : Value} (h1 : a = a') (h2 : b = b') : Ending.returned (.tuple #[a, b]) = .returned (.tuple #[a', b']) := by rw [h1, h2]
theorem take_drop_succ (xs : List Nat) (q k : Nat) (h : q + k < xs.length) : (xs.drop q).take (k + 1) = (xs.drop q).take k ++ [xs.getD (q + k) 0] := by
  rw [List.take_succ_eq_append_getElem (by simp; omega)]
  simp [List.getD, h]
/-- The number of n bytes from place p on; 0, if they aren't there. -/
def nmV (xs : List Nat) (p : Int) (n : Nat) : Nat := if inB xs.length p n then V8 ((xs.drop p.toNat).take n) else 0

set_option maxHeartbeats 400000 in
set_option maxRecDepth 100000 in
theorem within_any (a : Option Addr) (l cap : Nat) (p n : Int) (w : World) (hl : l ≤ 9223372036854775807) (hp : I64 p) (hn : I64 n) :
    Calls Try.prog 76 #[.slice a l cap, .int .i64 p, .int .i64 n] w fun e w' => e = .returned (.bool (inB l p n)) ∧ w = w' := by
  obtain ⟨p1, p2⟩ := hp
  obtain ⟨n1, n2⟩ := hn
  by_cases h1 : 0 ≤ n
  · by_cases h2 : 0 ≤ p
    · go_enter Try.func76, Try.ntmps76
      go_wp2
      go_ret
      exact ⟨rt_bool (by simp [inB, h1, h2]; try omega), rfl⟩
    · go_enter Try.func76, Try.ntmps76
      go_wp2
      go_ret
      exact ⟨rt_bool (by simp [inB, h1, h2]; try omega), rfl⟩
  · go_enter Try.func76, Try.ntmps76
    go_wp2
    go_ret
    exact ⟨rt_bool (by simp [inB, h1]; try omega), rfl⟩

set_option maxHeartbeats 1000000 in
set_option maxRecDepth 100000 in
theorem number_any (a : Option Addr) (cap : Nat) (xs : List Nat) (p : Int) (n : Nat) (w : World) (h : Rb w a cap xs) (hp : I64 p) (hn : 1 ≤ n) (hn4 : n ≤ 4) :
    Calls Try.prog 75 #[.slice a xs.length cap, .int .i64 p, .int .i64 (n : Int)] w fun e w' => e = .returned (.tuple #[.int .i64 (nmV xs p n : Int), .bool (inB xs.length p n)]) ∧ w = w' := by
  have k1 := h.le
  have k2 := h.cap
  unfold maxLen at k2
  have hp' := hp
  obtain ⟨p1, p2⟩ := hp'
  by_cases hi : inB xs.length p n = true
  · have hi' := hi
    simp [inB] at hi'
    obtain ⟨q1, q2⟩ := hi'
    obtain ⟨q, rfl⟩ : ∃ q : Nat, p = (q : Int) := ⟨p.toNat, by omega⟩
    rcases h.fm with rfl | ⟨b, off, rfl, hb, hc⟩
    · simp at q2; omega
    have hV : Hid (nmV xs (q : Int) n = V8 ((xs.drop q).take n)) := by
      show nmV xs (q : Int) n = _
      simp [nmV, hi]
    have hb3 := h.lim
    clear h
    go_enter Try.func75, Try.ntmps75
    go_wp2_with fail
    refine (within_any _ _ _ _ _ _ (by omega) hp ⟨by omega, by omega⟩).mono ?_
    rintro e u ⟨rfl, rfl⟩
    rw [hi]
    have HI : Hid (inB xs.length (q : Int) n = true) := hi
    clear hi
    go_wp2
    go_loop [8, 23] (fun s i => ∃ k : Nat, k ≤ n ∧ i = .int .i64 k ∧ s = .int .i64 (V8 ((xs.drop q).take k) : Int)) (fun _ i => ((n : Int) - intOf i).toNat)
    case atStart => exact ⟨0, by omega, rfl, rfl⟩
    case round =>
      obtain ⟨k, hk, rfl, rfl⟩ := hrel
      by_cases hkn : k = n
      · subst hkn
        go_wp2
        go_ret2
        exact ⟨rt_two (by rw [hV.out]; rfl) (by rw [HI.out]; rfl), rfl⟩
      · have hcx := hc (q + k) (by omega)
        rw [← Nat.add_assoc] at hcx
        have hts := take_drop_succ xs q k (by omega)
        have hx := hb3.getD (q + k)
        generalize xs.getD (q + k) 0 = x at hcx hts hx
        have hv := V8_lt ((hb3.drop q).take k)
        have hvk : 256 ^ ((xs.drop q).take k).length ≤ 256 ^ 3 := Nat.pow_le_pow_right (by decide) (by simp; omega)
        have hts2 : V8 ((xs.drop q).take (k + 1)) = 256 * V8 ((xs.drop q).take k) + x := by rw [hts, V8_snoc]
        generalize V8 ((xs.drop q).take k) = v at hts2 hv ⊢
        have HT : Hid (V8 ((xs.drop q).take (k + 1)) = 256 * v + x) := hts2
        have hv3 : v < 16777216 := by omega
        clear hts hts2 hv hvk hc
        have hor := or_byte v x (by omega) hx
        go_wp2
        go_round
        case rel => exact ⟨k + 1, by omega, by simp, by rw [HT.out]; simp⟩
        case measure => simp [intOf]; omega
  · have hi : inB xs.length p n = false := by simpa using hi
    have hV : Hid (nmV xs p n = 0) := by
      show nmV xs p n = _
      simp [nmV, hi]
    go_enter Try.func75, Try.ntmps75
    go_wp2_with fail
    refine (within_any _ _ _ _ _ _ (by omega) hp ⟨by omega, by omega⟩).mono ?_
    rintro e u ⟨rfl, rfl⟩
    rw [hi]
    have HI : Hid (inB xs.length p n = false) := hi
    clear hi
    go_wp2
    go_ret2
    exact ⟨rt_two (by rw [hV.out]; rfl) (by rw [HI.out]; rfl), rfl⟩

end Go.Proofs.Ytijehnfadpoapaa
