/-
  The plain mathematics of a guessed limb of a quotient.
  nat.guess: the walk.
  The plain mathematics of one step of a long division.
  nat.divideStep: the walk.
  The plain mathematics of a long division.
-/
import Derived.Test.YtchdoakoelfenaaGreatZX7
import Derived.Test.YtchdoakoelfenaaGreatZX8
import Derived.Outline
namespace Go.Proofs.YtchdoakoelfenaaGreat
set_option linter.unusedSimpArgs false
set_option linter.unusedVariables false

/-- A guess whose product with the divisor's two topmost limbs is too great is too great. -/
theorem guess_low {q t W U P VL VB : Nat} (hP : 0 < P) (hq : q * VB ≤ VL) (hB : W * P ≤ VB) (hL : VL < (U + 1) * P) (ht : U < t * W) : q < t := by
  rcases Nat.lt_or_ge q t with h | h
  · exact h
  · exfalso
    have h1 : t * (W * P) ≤ q * VB := Nat.mul_le_mul h hB
    have h2 : (U + 1) * P ≤ t * W * P := Nat.mul_le_mul_right P ht
    have h3 : t * (W * P) = t * W * P := (Nat.mul_assoc _ _ _).symm
    omega

/-- A guess that fits the three topmost limbs is at most one too great. -/
theorem guess_high {q t W U P VL VB : Nat} (hP : 0 < P) (hq : VL < (q + 1) * VB) (hB : VB < (W + 1) * P) (hL : U * P ≤ VL) (ht : t * W ≤ U) (hW : q + 1 ≤ W) : t ≤ q + 1 := by
  rcases Nat.lt_or_ge (q + 1) t with h | h
  · exfalso
    have h1 : (q + 2) * W ≤ t * W := Nat.mul_le_mul_right W h
    have h2 : (q + 2) * W * P ≤ U * P := Nat.mul_le_mul_right P (Nat.le_trans h1 ht)
    have h3 : (q + 1) * VB ≤ (q + 1) * ((W + 1) * P) := Nat.mul_le_mul_left _ (Nat.le_of_lt hB)
    have h4 : (q + 1) * ((W + 1) * P) ≤ (q + 2) * W * P := by
      have : (q + 1) * (W + 1) ≤ (q + 2) * W := by
        have e1 : (q + 1) * (W + 1) = (q + 1) * W + (q + 1) := by rw [Nat.mul_add, Nat.mul_one]
        have e2 : (q + 2) * W = (q + 1) * W + W := by rw [show q + 2 = (q + 1) + 1 by omega, Nat.add_mul (q + 1) 1 W, Nat.one_mul]
        omega
      rw [← Nat.mul_assoc]
      exact Nat.mul_le_mul_right P this
    omega
  · exact h

/-- The three topmost places. -/
theorem Sv_top3 (f : Nat → Nat) (m : Nat) : Sv f (m + 3) = Sv f m + 4294967296 ^ m * (f m + 4294967296 * f (m + 1) + 18446744073709551616 * f (m + 2)) := by
  simp only [Sv, Nat.pow_succ]
  generalize 4294967296 ^ m = p
  grind
theorem Sv_top2 (f : Nat → Nat) (m : Nat) : Sv f (m + 2) = Sv f m + 4294967296 ^ m * (f m + 4294967296 * f (m + 1)) := by
  simp only [Sv, Nat.pow_succ]
  generalize 4294967296 ^ m = p
  grind

end Go.Proofs.YtchdoakoelfenaaGreat

namespace Go.Proofs.YtchdoakoelfenaaGreat
open Go.RowKit
set_option linter.unusedSimpArgs false
set_option linter.unusedVariables false

theorem drewN_drewN (w : World) (a b : Nat) : (w.drewN a).drewN b = w.drewN (a + b) := by simp [World.drewN, Nat.add_assoc]

theorem guess_start {q v0 v1 u0 u1 u2 tp t0 r0 : Nat} (hq : q * (v0 + 4294967296 * v1) ≤ u0 + 4294967296 * u1 + 18446744073709551616 * u2) (htp : u2 * 4294967296 + u1 = tp) (hd : v1 * t0 + r0 = tp) (hr : r0 < v1) (hu : u0 < 4294967296) : q ≤ t0 := by
  rcases Nat.lt_or_ge t0 q with h | h
  · exfalso
    have h1 : v1 * (t0 + 1) ≤ v1 * q := Nat.mul_le_mul_left _ h
    rw [Nat.mul_add, Nat.mul_one] at h1
    have e : q * (v0 + 4294967296 * v1) = q * v0 + 4294967296 * (v1 * q) := by grind
    omega
  · exact h

theorem guess_first {v1 u1 u2 tp t0 r0 : Nat} (htp : u2 * 4294967296 + u1 = tp) (hd : v1 * t0 + r0 = tp) (hv1 : 2147483648 ≤ v1) (hu2 : u2 ≤ v1) (k1 : u1 < 4294967296) : t0 ≤ 4294967297 := by
  rcases Nat.lt_or_ge 4294967297 t0 with h | h
  · exfalso
    have h1 : v1 * 4294967298 ≤ v1 * t0 := Nat.mul_le_mul_left _ h
    omega
  · exact h

theorem guess_break {v1 u1 u2 tp t r : Nat} (htp : u2 * 4294967296 + u1 = tp) (hd : v1 * t + (r + v1) = tp) (hu2 : u2 ≤ v1) (k1 : u1 < 4294967296) (hb : 4294967296 ≤ r + v1) : t < 4294967296 := by
  rcases Nat.lt_or_ge t 4294967296 with h | h
  · exact h
  · exfalso
    have h1 : v1 * 4294967296 ≤ v1 * t := Nat.mul_le_mul_left _ h
    omega

theorem guess_small {t v0 u0 r : Nat} (ht : t < 4294967296) (hv : v0 < 4294967296) (hb : 4294967296 ≤ r) : t * v0 ≤ r * 4294967296 + u0 := by
  have := mul_lt_64 ht hv
  omega

theorem guess_fit {v0 v1 u0 u1 u2 tp t r : Nat} (htp : u2 * 4294967296 + u1 = tp) (hd : v1 * t + r = tp) (h : t * v0 ≤ r * 4294967296 + u0) : t * (v0 + 4294967296 * v1) ≤ u0 + 4294967296 * u1 + 18446744073709551616 * u2 := by
  have e : t * (v0 + 4294967296 * v1) = t * v0 + 4294967296 * (v1 * t) := by grind
  omega

theorem guess_over {v0 v1 u0 u1 u2 tp t r : Nat} (htp : u2 * 4294967296 + u1 = tp) (hd : v1 * t + r = tp) (h : r * 4294967296 + u0 < t * v0) : u0 + 4294967296 * u1 + 18446744073709551616 * u2 < t * (v0 + 4294967296 * v1) := by
  have e : t * (v0 + 4294967296 * v1) = t * v0 + 4294967296 * (v1 * t) := by grind
  omega

set_option maxHeartbeats 2000000 in
set_option maxRecDepth 100000 in
/-- The guess t: at least q, and its product with the two topmost limbs of the divisor is no more than the three topmost ones of what is divided. -/
theorem guess_any (g off co n : Nat) (zs : List Nat) (b1 o1 cb : Nat) (ys : List Nat) (q : Nat) (w : World) (hblk : Blk 136 w g zs) (lz : Lim zs) (hb : Rd w (some ⟨b1, o1, none⟩) cb ys)
    (hn : ys.length = n) (hn2 : 2 ≤ n) (hlen : off + n + 1 ≤ zs.length) (hbig : zs.length ≤ 4000000000) (hv1 : 2147483648 ≤ ys.getD (n - 1) 0) (hu2 : zs.getD (off + n) 0 ≤ ys.getD (n - 1) 0) (hq : q < 4294967296)
    (hlow : ∀ t, zs.getD (off + n - 2) 0 + 4294967296 * zs.getD (off + n - 1) 0 + 18446744073709551616 * zs.getD (off + n) 0 < t * (ys.getD (n - 2) 0 + 4294967296 * ys.getD (n - 1) 0) → q < t)
    (hq0 : q * (ys.getD (n - 2) 0 + 4294967296 * ys.getD (n - 1) 0) ≤ zs.getD (off + n - 2) 0 + 4294967296 * zs.getD (off + n - 1) 0 + 18446744073709551616 * zs.getD (off + n) 0) :
    Calls Tryz.prog 136 #[.slice (some ⟨g, off, none⟩) (n + 1) co, .slice (some ⟨b1, o1, none⟩) n cb] w fun e w' =>
      ∃ t : Nat, e = .returned (.int .u32 (t : Int)) ∧ t < 4294967296 ∧ q ≤ t ∧ t * (ys.getD (n - 2) 0 + 4294967296 * ys.getD (n - 1) 0) ≤ zs.getD (off + n - 2) 0 + 4294967296 * zs.getD (off + n - 1) 0 + 18446744073709551616 * zs.getD (off + n) 0 ∧ ∃ k, w' = w.drewN k := by
  obtain ⟨m, rfl⟩ : ∃ m, n = m + 2 := ⟨n - 2, by omega⟩
  have c1 := hb.at (m + 1) (by omega)
  have c0 := hb.at m (by omega)
  have d2 := hblk.cell (off + (m + 2)) (by omega)
  have d1 := hblk.cell (off + (m + 1)) (by omega)
  have d0 := hblk.cell (off + m) (by omega)
  rw [show m + 2 - 1 = m + 1 by omega] at hv1 hu2 hlow hq0 ⊢
  rw [show m + 2 - 2 = m by omega] at hlow hq0 ⊢
  rw [show off + (m + 2) - 1 = off + (m + 1) by omega] at hlow hq0 ⊢
  rw [show off + (m + 2) - 2 = off + m by omega] at hlow hq0 ⊢
  have l1 := hb.lim.getD (m + 1)
  have l0 := hb.lim.getD m
  have k2 := lz.getD (off + (m + 2))
  have k1 := lz.getD (off + (m + 1))
  have k0 := lz.getD (off + m)
  generalize ys.getD (m + 1) 0 = v1 at *
  generalize ys.getD m 0 = v0 at *
  generalize zs.getD (off + (m + 2)) 0 = u2 at *
  generalize zs.getD (off + (m + 1)) 0 = u1 at *
  generalize zs.getD (off + m) 0 = u0 at *
  clear hb hblk
  have HLO : Hid (∀ t, u0 + 4294967296 * u1 + 18446744073709551616 * u2 < t * (v0 + 4294967296 * v1) → q < t) := hlow
  have HQ0 : Hid (q * (v0 + 4294967296 * v1) ≤ u0 + 4294967296 * u1 + 18446744073709551616 * u2) := hq0
  clear hlow hq0
  have i1 : (0 : Int) ≤ (m : Int) + 2 - 1 := by omega
  have i2 : (m : Int) + 2 - 1 < (m : Int) + 2 := by omega
  have hor1 := or_low u2 u1 k2 k1
  obtain ⟨tp, htp⟩ : ∃ tp, u2 * 4294967296 + u1 = tp := ⟨_, rfl⟩
  have htpi : (u2 : Int) * 4294967296 + (u1 : Int) = (tp : Int) := by omega
  have HTP : Hid (u2 * 4294967296 + u1 = tp) := htp
  have btp : tp < 18446744073709551616 := by omega
  obtain ⟨t0, ht0⟩ : ∃ t0, tp / v1 = t0 := ⟨_, rfl⟩
  obtain ⟨r0, hr0⟩ : ∃ r0, tp % v1 = r0 := ⟨_, rfl⟩
  have ht0i : (tp : Int) / (v1 : Int) = (t0 : Int) := by rw [← ht0]; simp
  have hr0i : (tp : Int) % (v1 : Int) = (r0 : Int) := by rw [← hr0]; simp
  have hdm : v1 * t0 + r0 = tp := by rw [← ht0, ← hr0]; exact Nat.div_add_mod tp v1
  have hr0b : r0 < v1 := by rw [← hr0]; exact Nat.mod_lt _ (by omega)
  have HDM : Hid (v1 * t0 + r0 = tp) := hdm
  clear htp ht0 hr0 hdm
  have hq1 : q ≤ t0 := guess_start HQ0.out HTP.out HDM.out hr0b k0
  have ht1 : t0 ≤ 4294967297 := guess_first HTP.out HDM.out hv1 hu2 k1
  go_enter Tryz.func136, Tryz.ntmps136
  go_wp2_with fail
  go_quiet (fail)
  go_wp2_with fail
  have e2 : (w.drewN nq).cell? ⟨g, off + (m + 2), none⟩ = some (.int .u32 (u2 : Int)) := d2
  have e1 : (w.drewN nq).cell? ⟨g, off + (m + 1), none⟩ = some (.int .u32 (u1 : Int)) := d1
  have e0 : (w.drewN nq).cell? ⟨g, off + m, none⟩ = some (.int .u32 (u0 : Int)) := d0
  have HW1 : Hid (∃ k, w.drewN nq = w.drewN k) := ⟨_, rfl⟩
  clear d2 d1 d0 c1 c0
  generalize w.drewN nq = wq at e2 e1 e0 HW1 ⊢
  go_quiet (fail)
  go_wp2_with fail
  have f0 : (wq.drewN nq).cell? ⟨g, off + m, none⟩ = some (.int .u32 (u0 : Int)) := e0
  have HW2 : Hid (∃ k, wq.drewN nq = w.drewN k) := by obtain ⟨k, hk⟩ := HW1.out; exact ⟨k + nq, by rw [hk]; exact drewN_drewN _ _ _⟩
  clear e2 e1 e0 HW1
  generalize wq.drewN nq = wq2 at f0 HW2 ⊢
  go_quiet (fail)
  go_wp2_with fail
  have g0 : (wq2.drewN nq).cell? ⟨g, off + m, none⟩ = some (.int .u32 (u0 : Int)) := f0
  have HW3 : Hid (∃ k, wq2.drewN nq = w.drewN k) := by obtain ⟨k, hk⟩ := HW2.out; exact ⟨k + nq, by rw [hk]; exact drewN_drewN _ _ _⟩
  clear f0 HW2
  generalize wq2.drewN nq = wq3 at g0 HW3 ⊢
  have HR0 : Hid (Value.int .u64 ((tp : Int) % (v1 : Int)) = Value.int .u64 (r0 : Int)) := congrArg (Value.int .u64) hr0i
  clear hor1 htpi ht0i hr0i
  go_loop [9, 10] (fun a b => ∃ t r : Nat, a = .int .u64 t ∧ b = .int .u64 r ∧ v1 * t + r = tp ∧ q ≤ t ∧ r < 4294967296 ∧ t ≤ 4294967297) (fun a _ => (intOf a).toNat)
  case atStart => exact ⟨t0, r0, rfl, HR0.out, HDM.out, hq1, by omega, ht1⟩
  case round =>
    obtain ⟨t, r, rfl, rfl, hinv, hqt, hr, ht⟩ := hrel
    have HI : Hid (v1 * t + r = tp) := hinv
    clear hinv
    have hor2 := or_low r u0 hr k0
    by_cases hA : 4294967296 ≤ t
    · have hA' : ((t : Int) / 4294967296 != 0) = true := by rw [bne_iff_ne]; omega
      have hqlt : q < t := by omega
      obtain ⟨t', ht'⟩ : ∃ t', t' + 1 = t := ⟨t - 1, by omega⟩
      have HI2 : Hid (v1 * t' + (r + v1) = tp) := by have := HI.out; show _ = _; rw [← this, ← ht', Nat.mul_add]; omega
      by_cases hbr : 4294967296 ≤ r + v1
      · have hB' : (((r : Int) + (v1 : Int)) / 4294967296 != 0) = true := by rw [bne_iff_ne]; omega
        have hlt : t' < 4294967296 := guess_break HTP.out HI2.out hu2 k1 hbr
        go_wp2
        go_ret
        exact ⟨t', ret_u32 (by omega), hlt, by omega, guess_fit HTP.out HI2.out (guess_small hlt l0 hbr), HW3.out⟩
      · have hB' : (((r : Int) + (v1 : Int)) / 4294967296 != 0) = false := by rw [bne_eq_false_iff_eq]; omega
        go_wp2
        go_round
        case rel => exact ⟨t', r + v1, congrArg (Value.int .u64) (by omega), congrArg (Value.int .u64) (by omega), HI2.out, by omega, by omega, by omega⟩
        case measure => simp [intOf]; omega
    · have hA' : ((t : Int) / 4294967296 != 0) = false := by rw [bne_eq_false_iff_eq]; omega
      obtain ⟨p, hp⟩ : ∃ p, t * v0 = p := ⟨_, rfl⟩
      have bp : p ≤ 18446744065119617025 := by rw [← hp]; exact mul_lt_64 (by omega) l0
      have hpi : (t : Int) * (v0 : Int) = (p : Int) := by rw [← hp]; simp
      have HP : Hid (t * v0 = p) := hp
      clear hp
      by_cases hC : r * 4294967296 + u0 < p
      · have hqlt : q < t := HLO.out t (guess_over HTP.out HI.out (by rw [HP.out]; exact hC))
        obtain ⟨t', ht'⟩ : ∃ t', t' + 1 = t := ⟨t - 1, by omega⟩
        have HI2 : Hid (v1 * t' + (r + v1) = tp) := by have := HI.out; show _ = _; rw [← this, ← ht', Nat.mul_add]; omega
        by_cases hbr : 4294967296 ≤ r + v1
        · have hB' : (((r : Int) + (v1 : Int)) / 4294967296 != 0) = true := by rw [bne_iff_ne]; omega
          have hlt : t' < 4294967296 := by omega
          go_wp2
          go_ret
          exact ⟨t', ret_u32 (by omega), hlt, by omega, guess_fit HTP.out HI2.out (guess_small hlt l0 hbr), HW3.out⟩
        · have hB' : (((r : Int) + (v1 : Int)) / 4294967296 != 0) = false := by rw [bne_eq_false_iff_eq]; omega
          go_wp2
          go_round
          case rel => exact ⟨t', r + v1, congrArg (Value.int .u64) (by omega), congrArg (Value.int .u64) (by omega), HI2.out, by omega, by omega, by omega⟩
          case measure => simp [intOf]; omega
      · go_wp2
        go_ret
        exact ⟨t, ret_u32 (by omega), by omega, hqt, guess_fit HTP.out HI.out (by rw [HP.out]; omega), HW3.out⟩

end Go.Proofs.YtchdoakoelfenaaGreat

namespace Go.Proofs.YtchdoakoelfenaaGreat
set_option linter.unusedSimpArgs false
set_option linter.unusedVariables false

theorem lt_of_mul_lt {a b P : Nat} (h : a * P < b * P) : a < b := by
  rcases Nat.lt_or_ge a b with h1 | h1
  · exact h1
  · have := Nat.mul_le_mul_right P h1; omega

/-- What is known of the topmost limbs, off the values. -/
theorem step_facts {f y : Nat → Nat} {m : Nat} (hf : ∀ i, f i < 4294967296) (hy : ∀ i, y i < 4294967296) (hv : 2147483648 ≤ y (m + 1)) (hlt : Sv f (m + 3) < 4294967296 * Sv y (m + 2)) :
    f (m + 2) ≤ y (m + 1) ∧ Sv f (m + 3) / Sv y (m + 2) < 4294967296 ∧
    (∀ t, f m + 4294967296 * f (m + 1) + 18446744073709551616 * f (m + 2) < t * (y m + 4294967296 * y (m + 1)) → Sv f (m + 3) / Sv y (m + 2) < t) ∧
    Sv f (m + 3) / Sv y (m + 2) * (y m + 4294967296 * y (m + 1)) ≤ f m + 4294967296 * f (m + 1) + 18446744073709551616 * f (m + 2) ∧
    (∀ t, t * (y m + 4294967296 * y (m + 1)) ≤ f m + 4294967296 * f (m + 1) + 18446744073709551616 * f (m + 2) → t ≤ Sv f (m + 3) / Sv y (m + 2) + 1) := by
  have eF := Sv_top3 f m
  have eY := Sv_top2 y m
  have bF := Sv_lt (f := f) (k := m) (fun i _ => hf i)
  have bY := Sv_lt (f := y) (k := m) (fun i _ => hy i)
  have hP : 0 < 4294967296 ^ m := Nat.pow_pos (by decide)
  have h0 := hf m; have h1 := hf (m + 1); have h2 := hf (m + 2); have g0 := hy m; have g1 := hy (m + 1)
  generalize Sv f (m + 3) = VL at *
  generalize Sv y (m + 2) = VB at *
  generalize Sv f m = F at *
  generalize Sv y m = Y at *
  generalize 4294967296 ^ m = P at *
  generalize f m = u0 at *
  generalize f (m + 1) = u1 at *
  generalize f (m + 2) = u2 at *
  generalize y m = v0 at *
  generalize y (m + 1) = v1 at *
  obtain ⟨W, hW⟩ : ∃ W, v0 + 4294967296 * v1 = W := ⟨_, rfl⟩
  obtain ⟨U, hU⟩ : ∃ U, u0 + 4294967296 * u1 + 18446744073709551616 * u2 = U := ⟨_, rfl⟩
  rw [hW] at eY ⊢
  rw [hU] at eF ⊢
  have hVB : 0 < VB := by
    have : P * 1 ≤ P * W := Nat.mul_le_mul_left P (by omega)
    omega
  have hq1 : VL / VB * VB ≤ VL := Nat.div_mul_le_self VL VB
  have hq2 : VL < (VL / VB + 1) * VB := by
    have := Nat.lt_div_mul_add (a := VL) hVB
    rw [Nat.add_mul, Nat.one_mul]; exact this
  have a1 : W * P ≤ VB := by rw [eY, Nat.mul_comm]; omega
  have a2 : VB < (W + 1) * P := by rw [eY, Nat.add_mul, Nat.one_mul, Nat.mul_comm]; omega
  have a3 : U * P ≤ VL := by rw [eF, Nat.mul_comm]; omega
  have a4 : VL < (U + 1) * P := by rw [eF, Nat.add_mul, Nat.one_mul, Nat.mul_comm]; omega
  have hqlt : VL / VB < 4294967296 := Nat.div_lt_of_lt_mul (by rw [Nat.mul_comm]; exact hlt)
  refine ⟨?_, hqlt, fun t ht => guess_low hP hq1 a1 a4 ht, ?_, fun t ht => guess_high hP hq2 a2 a3 ht (by omega)⟩
  · have h3 : U * P < (4294967296 * (W + 1)) * P := by
      have : 4294967296 * VB ≤ 4294967296 * ((W + 1) * P) := Nat.mul_le_mul_left _ (Nat.le_of_lt a2)
      rw [Nat.mul_assoc]; omega
    have := lt_of_mul_lt h3
    omega
  · have h4 : VL / VB * W * P < (U + 1) * P := by
      have : VL / VB * (W * P) ≤ VL / VB * VB := Nat.mul_le_mul_left _ a1
      rw [Nat.mul_assoc]; omega
    have := lt_of_mul_lt h4
    omega

/-- The guess was right. -/
theorem step_right {VL VB S0 S1 p u2 c t : Nat} (hVB : 0 < VB) (hL : VL = S0 + p * u2) (hs : S1 + VB * t = S0 + p * c) (hc : c ≤ u2) (hq : VL / VB ≤ t) : t = VL / VB ∧ S1 + p * (u2 - c) = VL % VB := by
  obtain ⟨k, rfl⟩ : ∃ k, u2 = c + k := ⟨u2 - c, by omega⟩
  rw [show c + k - c = k by omega]
  have e : VB * t + (S1 + p * k) = VL := by rw [hL, Nat.mul_add]; omega
  have ht : t ≤ VL / VB := (Nat.le_div_iff_mul_le hVB).2 (by rw [Nat.mul_comm]; omega)
  have htq : t = VL / VB := by omega
  refine ⟨htq, ?_⟩
  have := Nat.div_add_mod VL VB
  rw [← htq] at this
  omega

/-- The guess was one too great. -/
theorem step_over {VL VB S0 S1 S2 p u2 c d t : Nat} (hVB : 0 < VB) (hp : VB < p) (h1 : S1 < p) (h2 : S2 < p) (hL : VL = S0 + p * u2) (hs : S1 + VB * t = S0 + p * c) (ha : S2 + p * d = S1 + VB) (hc : u2 < c) (ht : t ≤ VL / VB + 1) :
    t = VL / VB + 1 ∧ u2 + d = c ∧ S2 = VL % VB := by
  have hpc : p * (u2 + 1) ≤ p * c := Nat.mul_le_mul_left p hc
  rw [Nat.mul_add, Nat.mul_one] at hpc
  have hgt : VL < VB * t := by omega
  have htq : VL / VB < t := (Nat.div_lt_iff_lt_mul hVB).2 (by rw [Nat.mul_comm]; exact hgt)
  have htt : t = VL / VB + 1 := by omega
  have hdm := Nat.div_add_mod VL VB
  have hr := Nat.mod_lt VL hVB
  have e : S2 + p * (u2 + d) = VL % VB + p * c := by
    rw [htt, Nat.mul_add, Nat.mul_one] at hs
    rw [Nat.mul_add]; omega
  generalize VL % VB = r at *
  have hud : u2 + d = c := by
    rcases Nat.lt_trichotomy (u2 + d) c with h | h | h
    · have := Nat.mul_le_mul_left p h
      rw [Nat.mul_succ] at this; omega
    · exact h
    · have := Nat.mul_le_mul_left p h
      rw [Nat.mul_succ] at this; omega
  refine ⟨htt, hud, ?_⟩
  rw [hud] at e; omega

end Go.Proofs.YtchdoakoelfenaaGreat

namespace Go.Proofs.YtchdoakoelfenaaGreat
open Go.RowKit
set_option linter.unusedSimpArgs false
set_option linter.unusedVariables false

theorem grownBy_trans {a b c : World} {row : Option Nat} (h : a.grownBy b row) (k : b.grownBy c row) : a.grownBy c row :=
  ⟨k.os.trans h.os, k.tape.trans h.tape, k.output.trans h.output, Nat.le_trans h.size k.size, fun i hi hne => (k.block i (Nat.lt_of_lt_of_le hi h.size) hne).trans (h.block i hi hne)⟩
theorem grownBy_drewN (w : World) (k : Nat) (row : Option Nat) : w.grownBy (w.drewN k) row := ⟨rfl, rfl, rfl, Nat.le_refl _, fun _ _ _ => rfl⟩

set_option maxHeartbeats 2000000 in
set_option maxRecDepth 100000 in
theorem divstep_any (g off co : Nat) (zs : List Nat) (b1 o1 cb : Nat) (ys : List Nat) (w : World) (hblk : Blk 136 w g zs) (lz : Lim zs) (hb : Rd w (some ⟨b1, o1, none⟩) cb ys) (hsep : b1 ≠ g)
    (hn2 : 2 ≤ ys.length) (hlen : off + ys.length + 1 ≤ zs.length) (hbig : zs.length ≤ 2000000000) (hco : ys.length + 1 ≤ co) (hco2 : co ≤ 9223372036854775807) (hv1 : 2147483648 ≤ ys.getD (ys.length - 1) 0)
    (hlt : Sv (fun i => zs.getD (off + i) 0) (ys.length + 1) < 4294967296 * V ys) :
    Calls Tryz.prog 129 #[.slice (some ⟨g, off, none⟩) (ys.length + 1) co, .slice (some ⟨b1, o1, none⟩) ys.length cb] w fun e w' =>
      ∃ (cs : List Nat) (q : Nat), e = .returned (.int .u32 (q : Int)) ∧ q = Sv (fun i => zs.getD (off + i) 0) (ys.length + 1) / V ys ∧ q < 4294967296 ∧ cs.length = zs.length ∧ Lim cs ∧ (∀ i, i < off ∨ off + ys.length + 1 ≤ i → cs.getD i 0 = zs.getD i 0) ∧
        Sv (fun i => cs.getD (off + i) 0) (ys.length + 1) = Sv (fun i => zs.getD (off + i) 0) (ys.length + 1) % V ys ∧ Blk 136 w' g cs ∧ w.grownBy w' (some g) := by
  have ly := hb.lim
  obtain ⟨n, hn⟩ : ∃ n, ys.length = n := ⟨_, rfl⟩
  obtain ⟨m, hm⟩ : ∃ m, n = m + 2 := ⟨n - 2, by omega⟩
  have hV : V ys = Sv (fun i => ys.getD i 0) (m + 2) := by rw [V_Sv, hn, hm]
  have hVlt : V ys < 4294967296 ^ n := by rw [← hn]; exact V_lt ly
  obtain ⟨VL, hVL⟩ : ∃ VL, Sv (fun i => zs.getD (off + i) 0) (ys.length + 1) = VL := ⟨_, rfl⟩
  rw [hVL] at hlt ⊢
  have hVL2 : VL = Sv (fun i => zs.getD (off + i) 0) n + 4294967296 ^ n * zs.getD (off + n) 0 := by rw [← hVL, hn, Sv]
  have hVL3 : Sv (fun i => zs.getD (off + i) 0) (m + 3) = VL := by rw [← hVL, hn, hm]
  have hpos : 0 < V ys := by omega
  have facts := step_facts (f := fun i => zs.getD (off + i) 0) (y := fun i => ys.getD i 0) (m := m) (fun i => lz.getD _) (fun i => ly.getD _) (by rw [hn, hm] at hv1; exact hv1) (by rw [hVL3, ← hV]; exact hlt)
  rw [hVL3, ← hV] at facts
  obtain ⟨f1, f2, f3, f4, f5⟩ := facts
  obtain ⟨q, hq⟩ : ∃ q, VL / V ys = q := ⟨_, rfl⟩
  rw [hq] at f2 f3 f4 f5
  have hrd := hb
  have hsepr : ∀ k o, some (⟨b1, o1, none⟩ : Addr) = some ⟨k, o, none⟩ → ys ≠ [] → k ≠ g := fun k o e _ => by simp at e; rw [← e.1]; exact hsep
  have hg := guess_any g off co n zs b1 o1 cb ys q w hblk lz hb hn (by omega) (by omega) (by omega) (by rw [← hn]; exact hv1) (by rw [hm]; exact f1) f2 (by rw [hm, show m + 2 - 1 = m + 1 by omega, show m + 2 - 2 = m by omega, show off + (m + 2) - 1 = off + (m + 1) by omega, show off + (m + 2) - 2 = off + m by omega]; exact f3) (by rw [hm, show m + 2 - 1 = m + 1 by omega, show m + 2 - 2 = m by omega, show off + (m + 2) - 1 = off + (m + 1) by omega, show off + (m + 2) - 2 = off + m by omega]; exact f4)
  rw [hm, show m + 2 - 1 = m + 1 by omega, show m + 2 - 2 = m by omega, show off + (m + 2) - 1 = off + (m + 1) by omega, show off + (m + 2) - 2 = off + m by omega, ← hm] at hg
  have HF5 : Hid (∀ t, t * (ys.getD m 0 + 4294967296 * ys.getD (m + 1) 0) ≤ zs.getD (off + m) 0 + 4294967296 * zs.getD (off + (m + 1)) 0 + 18446744073709551616 * zs.getD (off + (m + 2)) 0 → t ≤ q + 1) := f5
  have HQ : Hid (VL / V ys = q) := hq
  have HN : Hid (ys.length = n) := hn
  have HVL2 : Hid (VL = Sv (fun i => zs.getD (off + i) 0) n + 4294967296 ^ n * zs.getD (off + n) 0) := hVL2
  have HVlt : Hid (V ys < 4294967296 ^ n) := hVlt
  have HPos : Hid (0 < V ys) := hpos
  have hsm := fun (t : Nat) (w' : World) (hB : Blk 136 w' g zs) (hr : Rd w' (some ⟨b1, o1, none⟩) cb ys) (ht : t < 4294967296) => subm_any g off co zs (some ⟨b1, o1, none⟩) cb ys t w' hB lz hr hsepr ht (by omega) (by omega)
  have ham := fun (cs : List Nat) (w' : World) (hB : Blk 136 w' g cs) (lc : Lim cs) (hr : Rd w' (some ⟨b1, o1, none⟩) cb ys) (hl : cs.length = zs.length) => addm_any g off co cs (some ⟨b1, o1, none⟩) cb ys 1 w' hB lc hr hsepr (by decide) (by omega) (by omega)
  rw [hn] at hsm ham hlen hco hn2 ⊢
  have HM : Hid (n = m + 2) := hm
  clear f1 f2 f3 f4 f5 hq hn hVL2 hVlt hpos hVL3 hVL hV hm hsepr hv1 hlt
  go_enter Tryz.func129, Tryz.ntmps129
  go_wp2_with fail
  refine hg.mono ?_
  rintro e w1 ⟨t, rfl, ht, hqt, hfit, k, hk⟩
  have hth : t ≤ q + 1 := HF5.out t (by rw [← HM.out]; exact hfit)
  have hB1 : Blk 136 w1 g zs := by rw [hk]; exact hblk
  have hr1 : Rd w1 (some ⟨b1, o1, none⟩) cb ys := by rw [hk]; exact hb.below (below_drewN (Below.refl _ _) k)
  have hg1 : w.grownBy w1 (some g) := by rw [hk]; exact grownBy_drewN w k _
  clear hk hfit HF5 hg hb hrd hblk
  go_wp2_with fail
  refine (hsm t w1 hB1 hr1 ht).mono ?_
  rintro e w2 ⟨cs, c, rfl, hc, hcl, lc, hsame, heq, hB2, hg2⟩
  have hr2 : Rd w2 (some ⟨b1, o1, none⟩) cb ys := hr1.other hg2 (fun k o e _ => by simp at e; rw [← e.1]; exact hsep)
  have hg12 := grownBy_trans hg1 hg2
  have HEQ : Hid (Sv (fun i => cs.getD (off + i) 0) n + V ys * t = Sv (fun i => zs.getD (off + i) 0) n + 4294967296 ^ n * c) := heq
  have HSA : Hid (∀ i, i < off ∨ off + n ≤ i → cs.getD i 0 = zs.getD i 0) := hsame
  have HCL : Hid (cs.length = zs.length) := hcl
  obtain ⟨u2, hu2⟩ : ∃ u2, zs.getD (off + n) 0 = u2 := ⟨_, rfl⟩
  have bu2 : u2 < 4294967296 := by rw [← hu2]; exact lz.getD _
  have hcu : cs.getD (off + n) 0 = u2 := by rw [HSA.out (off + n) (by omega), hu2]
  have c2 := hB2.cell (off + n) (by omega)
  have c3 := hB2.frozen (off + n)
  rw [hcu] at c2
  have HU : Hid (zs.getD (off + n) 0 = u2) := hu2
  have HVLu : Hid (VL = Sv (fun i => zs.getD (off + i) 0) n + 4294967296 ^ n * u2) := by have := HVL2.out; rw [hu2] at this; exact this
  clear heq hsame hu2 hcu hB1 hr1 hg1 hg2 HVL2
  by_cases hcc : u2 < c
  · go_wp2_with fail
    refine (ham cs w2 hB2 lc hr2 HCL.out).mono ?_
    rintro e w3 ⟨ds, d, rfl, hd, hdl, ld, hsame2, heq2, hB3, hg3⟩
    have hg13 := grownBy_trans hg12 hg3
    have HDL : Hid (ds.length = cs.length) := hdl
    have hdu : ds.getD (off + n) 0 = u2 := by rw [hsame2 (off + n) (by omega), HSA.out (off + n) (by omega), HU.out]
    have d2 := hB3.cell (off + n) (by omega)
    have d3 := hB3.frozen (off + n)
    rw [hdu] at d2
    have hS1 : Sv (fun i => cs.getD (off + i) 0) n < 4294967296 ^ n := Sv_lt (fun i _ => lc.getD _)
    have hS2 : Sv (fun i => ds.getD (off + i) 0) n < 4294967296 ^ n := Sv_lt (fun i _ => ld.getD _)
    obtain ⟨r1, r2, r3⟩ := step_over (S2 := Sv (fun i => ds.getD (off + i) 0) n) (d := d) HPos.out HVlt.out hS1 hS2 HVLu.out HEQ.out (by rw [heq2, Nat.mul_one]) hcc (by rw [HQ.out]; exact hth)
    rw [HQ.out] at r1
    have HR1 : Hid (t = q + 1) := r1
    have HR3 : Hid (Sv (fun i => ds.getD (off + i) 0) n = VL % V ys) := r3
    have q1 : d ≤ c := by omega
    have q2 : c ≤ u2 + d := by omega
    have q3 : u2 + d ≤ c := by omega
    have q4 : 1 ≤ t := by omega
    have HSD : Hid (∀ i, i < off ∨ off + n ≤ i → ds.getD i 0 = cs.getD i 0) := hsame2
    clear r1 r2 r3 hS1 hS2 heq2 hsame2 hdl hcl hdu c2 c3 ham hsm hth hqt
    go_wp2
    go_ret
    refine ⟨ds.set (off + n) 0, q, ret_u32 (by have := HR1.out; omega), HQ.out.symm, by have := HR1.out; omega, by rw [List.length_set, HDL.out]; exact HCL.out, ld.set _ (by decide), fun i hi => ?_, ?_, hB3.set _ _ _ (by rw [HDL.out, HCL.out]; omega) (by omega), grownBy_setCell hg13 _ _⟩
    · rw [getD_set_ne _ _ _ _ (by omega), HSD.out i (by omega), HSA.out i (by omega)]
    · rw [Sv, getD_set_eq _ _ _ (by rw [HDL.out, HCL.out]; omega), Sv_congr (g := fun i => ds.getD (off + i) 0) (fun i hi => getD_set_ne _ _ _ _ (by omega)), HR3.out]; simp
  · obtain ⟨r1, r2⟩ := step_right HPos.out HVLu.out HEQ.out (by omega) (by rw [HQ.out]; exact hqt)
    rw [HQ.out] at r1
    have HR1 : Hid (t = q) := r1
    have HR2 : Hid (Sv (fun i => cs.getD (off + i) 0) n + 4294967296 ^ n * (u2 - c) = VL % V ys) := r2
    clear r1 r2 hcl ham hsm hth hqt
    go_wp2
    go_ret
    refine ⟨cs.set (off + n) (u2 - c), q, ret_u32 (by have := HR1.out; omega), HQ.out.symm, by have := HR1.out; omega, by rw [List.length_set]; exact HCL.out, lc.set _ (by omega), fun i hi => ?_, ?_, hB2.set _ _ _ (by rw [HCL.out]; omega) (by omega), grownBy_setCell hg12 _ _⟩
    · rw [getD_set_ne _ _ _ _ (by omega), HSA.out i (by omega)]
    · rw [Sv, getD_set_eq _ _ _ (by rw [HCL.out]; omega), Sv_congr (g := fun i => cs.getD (off + i) 0) (fun i hi => getD_set_ne _ _ _ _ (by omega)), HR2.out]

end Go.Proofs.YtchdoakoelfenaaGreat

namespace Go.Proofs.YtchdoakoelfenaaGreat
set_option linter.unusedSimpArgs false
set_option linter.unusedVariables false

theorem Sv_from (f : Nat → Nat) (j n : Nat) : Sv (fun i => f (j + i)) (n + 1) = f j + 4294967296 * Sv (fun i => f (j + 1 + i)) n := by
  rw [Nat.add_comm n 1, Sv_add]
  simp only [Sv, Nat.pow_zero, Nat.one_mul, Nat.add_zero, Nat.zero_add, Nat.pow_one]
  rw [Sv_congr (f := fun i => f (j + (1 + i))) (g := fun i => f (j + 1 + i)) (fun i _ => by rw [Nat.add_assoc])]

/-- The segment that is divided next is small enough. -/
theorem long_small {f : Nat → Nat} {j n VB : Nat} (hf : f j < 4294967296) (h : Sv (fun i => f (j + 1 + i)) n < VB) : Sv (fun i => f (j + i)) (n + 1) < 4294967296 * VB := by
  rw [Sv_from]; omega

/-- What a step leaves: its topmost place is 0. -/
theorem long_top {d : Nat → Nat} {j n r VB : Nat} (h : Sv (fun i => d (j + i)) (n + 1) = r) (hr : r < VB) (hp : VB < 4294967296 ^ n) : d (j + n) = 0 ∧ Sv (fun i => d (j + i)) n = r := by
  rw [Sv] at h
  rcases Nat.eq_zero_or_pos (d (j + n)) with h0 | h0
  · rw [h0, Nat.mul_zero, Nat.add_zero] at h; exact ⟨h0, h⟩
  · have : 4294967296 ^ n * 1 ≤ 4294967296 ^ n * d (j + n) := Nat.mul_le_mul_left _ h0
    omega

/-- One round of a long division. -/
theorem long_step {c d : Nat → Nat} {j n r q Qv Qw VA VB : Nat} (hinv : Sv c (j + 1 + n) + 4294967296 ^ (j + 1) * Qv * VB = VA) (hsame : ∀ i, i < j → d i = c i) (hd : Sv (fun i => d (j + i)) n = r)
    (hdm : VB * q + r = Sv (fun i => c (j + i)) (n + 1)) (hQ : Qw = q + 4294967296 * Qv) : Sv d (j + n) + 4294967296 ^ j * Qw * VB = VA := by
  rw [show j + 1 + n = j + (n + 1) by omega, Sv_add, ← hdm, Nat.pow_succ] at hinv
  rw [Sv_add, Sv_congr hsame, hd, hQ]
  generalize 4294967296 ^ j = p at hinv ⊢
  generalize Sv c j = A at hinv ⊢
  rw [← hinv]
  grind

/-- The first segment is less than the divisor. -/
theorem long_start {f : Nat → Nat} {K n la VA VB s : Nat} (hK : K + n = la + 1) (hn : 1 ≤ n) (hv : Sv f (K + n) = VA) (hA : VA < 4294967296 ^ la * 2 ^ s) (hB : 2 ^ s * 4294967296 ^ (n - 1) ≤ VB) : Sv (fun i => f (K + i)) n < VB := by
  rcases Nat.lt_or_ge (Sv (fun i => f (K + i)) n) VB with h | h
  · exact h
  · exfalso
    rw [Sv_add] at hv
    have h1 : 4294967296 ^ K * (2 ^ s * 4294967296 ^ (n - 1)) ≤ 4294967296 ^ K * Sv (fun i => f (K + i)) n := Nat.mul_le_mul_left _ (Nat.le_trans hB h)
    have h2 : 4294967296 ^ la = 4294967296 ^ K * 4294967296 ^ (n - 1) := by rw [← Nat.pow_add, show K + (n - 1) = la by omega]
    have h3 : 4294967296 ^ K * (2 ^ s * 4294967296 ^ (n - 1)) = 4294967296 ^ la * 2 ^ s := by
      rw [h2]
      generalize 4294967296 ^ K = a
      generalize 4294967296 ^ (n - 1) = b
      generalize 2 ^ s = c
      grind
    omega

/-- The end of a long division. -/
theorem long_end {R Q A B S : Nat} (hS : 0 < S) (h : R + Q * (B * S) = A * S) (hr : R < B * S) : Q = A / B ∧ R / S = A % B := by
  have hB : 0 < B * S := by omega
  have e1 : A * S / (B * S) = Q := by
    rw [← h, Nat.add_mul_div_right _ _ hB, Nat.div_eq_of_lt hr, Nat.zero_add]
  have e2 : A * S % (B * S) = R := by
    rw [← h, Nat.add_mul_mod_self_right, Nat.mod_eq_of_lt hr]
  rw [Nat.mul_div_mul_right _ _ hS] at e1
  rw [Nat.mul_mod_mul_right] at e2
  exact ⟨e1.symm, by rw [← e2, Nat.mul_div_cancel _ hS]⟩

/-- The shifted divisor: as many limbs as before, the topmost bit set. -/
theorem long_by {ys bs : List Nat} {n s x : Nat} (ly : Lim ys) (lb : Lim bs) (tb : Tr bs) (hn : ys.length = n) (hn1 : 1 ≤ n) (hx : ys.getD (n - 1) 0 = x) (hs : s < 32) (h1 : 2147483648 ≤ x * 2 ^ s) (h2 : x * 2 ^ s < 4294967296) (hv : V bs = V ys * 2 ^ s) :
    bs.length = n ∧ 2147483648 ≤ bs.getD (n - 1) 0 ∧ 2147483648 * 4294967296 ^ (n - 1) ≤ V bs := by
  have eY := V_take_succ ys (n - 1)
  rw [show n - 1 + 1 = ys.length by omega, List.take_length, hx] at eY
  have bY : V (ys.take (n - 1)) < 4294967296 ^ (n - 1) := by rw [V_take_Sv]; exact Sv_lt (fun i _ => ly.getD _)
  have hmul : (x + 1) * 2 ^ s ≤ 4294967296 := by
    have e32 : (4294967296 : Nat) = 2 ^ (32 - s) * 2 ^ s := by rw [← Nat.pow_add, show 32 - s + s = 32 by omega]
    have h3 : x * 2 ^ s < 2 ^ (32 - s) * 2 ^ s := by rw [← e32]; exact h2
    have h4 := lt_of_mul_lt h3
    calc (x + 1) * 2 ^ s ≤ 2 ^ (32 - s) * 2 ^ s := Nat.mul_le_mul_right _ h4
      _ = 4294967296 := e32.symm
  have hpw : 4294967296 ^ n = 4294967296 ^ (n - 1) * 4294967296 := by rw [← Nat.pow_succ]; congr 1; omega
  have hP : 0 < 4294967296 ^ (n - 1) := Nat.pow_pos (by decide)
  have hS : 0 < 2 ^ s := Nat.pow_pos (by decide)
  have up : V bs < 4294967296 ^ n := by
    rw [hv, hpw]
    have h5 : V ys < 4294967296 ^ (n - 1) * (x + 1) := by rw [eY, Nat.mul_add, Nat.mul_one]; omega
    calc V ys * 2 ^ s < 4294967296 ^ (n - 1) * (x + 1) * 2 ^ s := Nat.mul_lt_mul_of_pos_right h5 hS
      _ = 4294967296 ^ (n - 1) * ((x + 1) * 2 ^ s) := Nat.mul_assoc _ _ _
      _ ≤ 4294967296 ^ (n - 1) * 4294967296 := Nat.mul_le_mul_left _ hmul
  have low : 2147483648 * 4294967296 ^ (n - 1) ≤ V bs := by
    rw [hv]
    have h6 : 4294967296 ^ (n - 1) * x ≤ V ys := by omega
    calc 2147483648 * 4294967296 ^ (n - 1) ≤ x * 2 ^ s * 4294967296 ^ (n - 1) := Nat.mul_le_mul_right _ h1
      _ = 4294967296 ^ (n - 1) * x * 2 ^ s := by
        generalize 4294967296 ^ (n - 1) = a
        generalize 2 ^ s = c
        grind
      _ ≤ V ys * 2 ^ s := Nat.mul_le_mul_right _ h6
  have hl1 := len_le_of_V tb up
  have hl2 : n ≤ bs.length := by
    rcases Nat.lt_or_ge bs.length n with h | h
    · exfalso
      have h7 := V_lt lb
      have h8 : 4294967296 ^ bs.length ≤ 4294967296 ^ (n - 1) := Nat.pow_le_pow_right (by decide) (by omega)
      omega
    · exact h
  have hl : bs.length = n := by omega
  refine ⟨hl, ?_, low⟩
  have eB := V_take_succ bs (n - 1)
  rw [show n - 1 + 1 = bs.length by omega, List.take_length] at eB
  have bB : V (bs.take (n - 1)) < 4294967296 ^ (n - 1) := by rw [V_take_Sv]; exact Sv_lt (fun i _ => lb.getD _)
  rcases Nat.lt_or_ge (bs.getD (n - 1) 0) 2147483648 with h | h
  · exfalso
    have h9 : 4294967296 ^ (n - 1) * bs.getD (n - 1) 0 ≤ 4294967296 ^ (n - 1) * 2147483647 := Nat.mul_le_mul_left _ (by omega)
    omega
  · exact h

end Go.Proofs.YtchdoakoelfenaaGreat
