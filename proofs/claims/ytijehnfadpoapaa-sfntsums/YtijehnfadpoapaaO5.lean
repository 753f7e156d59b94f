/-
  octets.U8, U16, I16, U32, I32; foundryref04's: the walks.
-/
import Derived.Test.YtijehnfadpoapaaO4
namespace Go.Proofs.Ytijehnfadpoapaa
open Go.RowKit Go.Maps
set_option linter.unusedSimpArgs false
set_option linter.unusedVariables false

/-- Two's complement. -/
def sx16 (v : Nat) : Int := if 32768 ≤ v then (v : Int) - 65536 else v
def sx32 (v : Nat) : Int := if 2147483648 ≤ v then (v : Int) - 4294967296 else v

theorem w16 {v : Nat} (h : 32768 ≤ v) (h2 : v < 65536) : wrap64 (IntKind.i16.wrap (v : Int)) = (v : Int) - 65536 := by
  have e : IntKind.i16.wrap (v : Int) = (v : Int) - 65536 := by
    unfold IntKind.wrap
    simp [IntKind.bits, IntKind.signed]
    omega
  rw [e]
  unfold wrap64
  omega
theorem w32 {v : Nat} (h : 2147483648 ≤ v) (h2 : v < 4294967296) : wrap64 (wrap32 (v : Int)) = (v : Int) - 4294967296 := by
  have e : wrap32 (v : Int) = (v : Int) - 4294967296 := by
    unfold wrap32
    omega
  rw [e]
  unfold wrap64
  omega

theorem nmV_lt {xs : List Nat} (h : Byt xs) (p : Int) (n : Nat) : nmV xs p n < 256 ^ n := by
  unfold nmV
  split
  · have h1 := V8_lt ((h.drop p.toNat).take n)
    have h2 : 256 ^ ((xs.drop p.toNat).take n).length ≤ 256 ^ n := Nat.pow_le_pow_right (by decide) (by simp; omega)
    omega
  · exact Nat.pow_pos (by decide)

set_option maxHeartbeats 1000000 in
set_option maxRecDepth 100000 in
theorem snumber_any (a : Option Addr) (cap : Nat) (xs : List Nat) (p : Int) (n : Nat) (w : World) (h : Rb w a cap xs) (hp : I64 p) (hn : 1 ≤ n) (hn4 : n ≤ 4) :
    Calls Try.prog 58 #[.slice a xs.length cap, .int .i64 p, .int .i64 (n : Int)] w fun e w' => e = .returned (.tuple #[.int .i64 (nmV xs p n : Int), .bool (inB xs.length p n)]) ∧ w = w' := by
  have k1 := h.le
  have k2 := h.cap
  unfold maxLen at k2
  obtain ⟨p1, p2⟩ := hp
  by_cases hi : inB xs.length p n = true
  · have hi' := hi
    simp [inB] at hi'
    obtain ⟨q1, q2⟩ := hi'
    obtain ⟨q, rfl⟩ : ∃ q : Nat, p = (q : Int) := ⟨p.toNat, by omega⟩
    rcases h.fm with rfl | ⟨b, off, rfl, hb, hc⟩
    · simp at q2; omega
    have hV : Hid (nmV xs (q : Int) n = V8 ((xs.drop q).take n)) := by
      show nmV xs (q : Int) n = _
      simp [nmV, hi]
    have hb3 := h.lim
    clear h
    have HI : Hid (inB xs.length (q : Int) n = true) := hi
    clear hi
    have g1 : ¬ ((xs.length : Int) < (n : Int)) := by omega
    have g2 : ¬ ((xs.length : Int) - (n : Int) < (q : Int)) := by omega
    go_enter Try.func58, Try.ntmps58
    go_wp2
    go_loop [8, 9] (fun s i => ∃ k : Nat, k ≤ n ∧ i = .int .i64 k ∧ s = .int .i64 (V8 ((xs.drop q).take k) : Int)) (fun _ i => ((n : Int) - intOf i).toNat)
    case atStart => exact ⟨0, by omega, rfl, rfl⟩
    case round =>
      obtain ⟨k, hk, rfl, rfl⟩ := hrel
      by_cases hkn : k = n
      · subst hkn
        go_wp2
        go_ret2
        exact ⟨rt_two (by rw [hV.out]; rfl) (by rw [HI.out]; rfl), rfl⟩
      · have hcx := hc (q + k) (by omega)
        have hts := take_drop_succ xs q k (by omega)
        have hx := hb3.getD (q + k)
        generalize xs.getD (q + k) 0 = x at hcx hts hx
        have hv := V8_lt ((hb3.drop q).take k)
        have hvk : 256 ^ ((xs.drop q).take k).length ≤ 256 ^ 3 := Nat.pow_le_pow_right (by decide) (by simp; omega)
        have hts2 : V8 ((xs.drop q).take (k + 1)) = 256 * V8 ((xs.drop q).take k) + x := by rw [hts, V8_snoc]
        generalize V8 ((xs.drop q).take k) = v at hts2 hv ⊢
        have HT : Hid (V8 ((xs.drop q).take (k + 1)) = 256 * v + x) := hts2
        have hv3 : v < 16777216 := by omega
        clear hts hts2 hv hvk hc
        go_wp2
        go_round
        case rel => exact ⟨k + 1, by omega, by simp, by rw [HT.out]; simp⟩
        case measure => simp [intOf]; omega
  · have hi : inB xs.length p n = false := by simpa using hi
    have hV : Hid (nmV xs p n = 0) := by
      show nmV xs p n = _
      simp [nmV, hi]
    have HI : Hid (inB xs.length p n = false) := hi
    have hor : p < 0 ∨ (0 ≤ p ∧ ((xs.length : Int) < (n : Int) ∨ (¬ (xs.length : Int) < (n : Int) ∧ (xs.length : Int) - (n : Int) < p))) := by
      simp [inB] at hi
      omega
    clear hi
    rcases hor with g1 | ⟨g0, g1 | ⟨g1, g2⟩⟩
    all_goals
      go_enter Try.func58, Try.ntmps58
      go_wp2
      go_ret2
      exact ⟨rt_two (by rw [hV.out]; rfl) (by first | (rw [HI.out]; rfl) | rfl), rfl⟩

theorem u16_any (a : Option Addr) (cap : Nat) (xs : List Nat) (p : Int) (w : World) (h : Rb w a cap xs) (hp : I64 p) :
    Calls Try.prog 59 #[.slice a xs.length cap, .int .i64 p] w fun e w' => e = .returned (.tuple #[.int .i64 (nmV xs p 2 : Int), .bool (inB xs.length p 2)]) ∧ w = w' := by
  go_enter Try.func59, Try.ntmps59
  go_wp2_with fail
  refine (number_any a cap xs p 2 _ h hp (by decide) (by decide)).mono ?_
  rintro e u ⟨rfl, rfl⟩
  go_wp2
  go_ret2
  exact ⟨rfl, rfl⟩

theorem u32_any (a : Option Addr) (cap : Nat) (xs : List Nat) (p : Int) (w : World) (h : Rb w a cap xs) (hp : I64 p) :
    Calls Try.prog 61 #[.slice a xs.length cap, .int .i64 p] w fun e w' => e = .returned (.tuple #[.int .i64 (nmV xs p 4 : Int), .bool (inB xs.length p 4)]) ∧ w = w' := by
  go_enter Try.func61, Try.ntmps61
  go_wp2_with fail
  refine (number_any a cap xs p 4 _ h hp (by decide) (by decide)).mono ?_
  rintro e u ⟨rfl, rfl⟩
  go_wp2
  go_ret2
  exact ⟨rfl, rfl⟩

theorem su16_any (a : Option Addr) (cap : Nat) (xs : List Nat) (p : Int) (w : World) (h : Rb w a cap xs) (hp : I64 p) :
    Calls Try.prog 42 #[.slice a xs.length cap, .int .i64 p] w fun e w' => e = .returned (.tuple #[.int .i64 (nmV xs p 2 : Int), .bool (inB xs.length p 2)]) ∧ w = w' := by
  go_enter Try.func42, Try.ntmps42
  go_wp2_with fail
  refine (snumber_any a cap xs p 2 _ h hp (by decide) (by decide)).mono ?_
  rintro e u ⟨rfl, rfl⟩
  go_wp2
  go_ret2
  exact ⟨rfl, rfl⟩

theorem su32_any (a : Option Addr) (cap : Nat) (xs : List Nat) (p : Int) (w : World) (h : Rb w a cap xs) (hp : I64 p) :
    Calls Try.prog 37 #[.slice a xs.length cap, .int .i64 p] w fun e w' => e = .returned (.tuple #[.int .i64 (nmV xs p 4 : Int), .bool (inB xs.length p 4)]) ∧ w = w' := by
  go_enter Try.func37, Try.ntmps37
  go_wp2_with fail
  refine (snumber_any a cap xs p 4 _ h hp (by decide) (by decide)).mono ?_
  rintro e u ⟨rfl, rfl⟩
  go_wp2
  go_ret2
  exact ⟨rfl, rfl⟩

end Go.Proofs.Ytijehnfadpoapaa
