/-
  nat.guess: the walk.
-/
import Derived.Test.YtefdkajjdaplbabDoorDivB
import Derived.Test.YtefdkajjdaplbabDoorDivM
import Derived.Outline
namespace Go.Proofs.YtefdkajjdaplbabDoor
open Go.RowKit
set_option linter.unusedSimpArgs false
set_option linter.unusedVariables false

theorem drewN_drewN (w : World) (a b : Nat) : (w.drewN a).drewN b = w.drewN (a + b) := by simp [World.drewN, Nat.add_assoc]

theorem guess_start {q v0 v1 u0 u1 u2 tp t0 r0 : Nat} (hq : q * (v0 + 4294967296 * v1) ≤ u0 + 4294967296 * u1 + 18446744073709551616 * u2) (htp : u2 * 4294967296 + u1 = tp) (hd : v1 * t0 + r0 = tp) (hr : r0 < v1) (hu : u0 < 4294967296) : q ≤ t0 := by
  rcases Nat.lt_or_ge t0 q with h | h
  · exfalso
    have h1 : v1 * (t0 + 1) ≤ v1 * q := Nat.mul_le_mul_left _ h
    rw [Nat.mul_add, Nat.mul_one] at h1
    have e : q * (v0 + 4294967296 * v1) = q * v0 + 4294967296 * (v1 * q) := by grind
    omega
  · exact h

theorem guess_first {v1 u1 u2 tp t0 r0 : Nat} (htp : u2 * 4294967296 + u1 = tp) (hd : v1 * t0 + r0 = tp) (hv1 : 2147483648 ≤ v1) (hu2 : u2 ≤ v1) (k1 : u1 < 4294967296) : t0 ≤ 4294967297 := by
  rcases Nat.lt_or_ge 4294967297 t0 with h | h
  · exfalso
    have h1 : v1 * 4294967298 ≤ v1 * t0 := Nat.mul_le_mul_left _ h
    omega
  · exact h

theorem guess_break {v1 u1 u2 tp t r : Nat} (htp : u2 * 4294967296 + u1 = tp) (hd : v1 * t + (r + v1) = tp) (hu2 : u2 ≤ v1) (k1 : u1 < 4294967296) (hb : 4294967296 ≤ r + v1) : t < 4294967296 := by
  rcases Nat.lt_or_ge t 4294967296 with h | h
  · exact h
  · exfalso
    have h1 : v1 * 4294967296 ≤ v1 * t := Nat.mul_le_mul_left _ h
    omega

theorem guess_small {t v0 u0 r : Nat} (ht : t < 4294967296) (hv : v0 < 4294967296) (hb : 4294967296 ≤ r) : t * v0 ≤ r * 4294967296 + u0 := by
  have := mul_lt_64 ht hv
  omega

theorem guess_fit {v0 v1 u0 u1 u2 tp t r : Nat} (htp : u2 * 4294967296 + u1 = tp) (hd : v1 * t + r = tp) (h : t * v0 ≤ r * 4294967296 + u0) : t * (v0 + 4294967296 * v1) ≤ u0 + 4294967296 * u1 + 18446744073709551616 * u2 := by
  have e : t * (v0 + 4294967296 * v1) = t * v0 + 4294967296 * (v1 * t) := by grind
  omega

theorem guess_over {v0 v1 u0 u1 u2 tp t r : Nat} (htp : u2 * 4294967296 + u1 = tp) (hd : v1 * t + r = tp) (h : r * 4294967296 + u0 < t * v0) : u0 + 4294967296 * u1 + 18446744073709551616 * u2 < t * (v0 + 4294967296 * v1) := by
  have e : t * (v0 + 4294967296 * v1) = t * v0 + 4294967296 * (v1 * t) := by grind
  omega

set_option maxHeartbeats 2000000 in
/-- The guess t: at least q, and its product with the two topmost limbs of the divisor is no more than the three topmost ones of what is divided. -/
theorem guess_any (g off co n : Nat) (zs : List Nat) (b1 o1 cb : Nat) (ys : List Nat) (q : Nat) (w : World) (hblk : Blk 33 w g zs) (lz : Lim zs) (hb : Rd w (some ⟨b1, o1, none⟩) cb ys)
    (hn : ys.length = n) (hn2 : 2 ≤ n) (hlen : off + n + 1 ≤ zs.length) (hbig : zs.length ≤ 4000000000) (hv1 : 2147483648 ≤ ys.getD (n - 1) 0) (hu2 : zs.getD (off + n) 0 ≤ ys.getD (n - 1) 0) (hq : q < 4294967296)
    (hlow : ∀ t, zs.getD (off + n - 2) 0 + 4294967296 * zs.getD (off + n - 1) 0 + 18446744073709551616 * zs.getD (off + n) 0 < t * (ys.getD (n - 2) 0 + 4294967296 * ys.getD (n - 1) 0) → q < t)
    (hq0 : q * (ys.getD (n - 2) 0 + 4294967296 * ys.getD (n - 1) 0) ≤ zs.getD (off + n - 2) 0 + 4294967296 * zs.getD (off + n - 1) 0 + 18446744073709551616 * zs.getD (off + n) 0) :
    Calls Tryd.prog 66 #[.slice (some ⟨g, off, none⟩) (n + 1) co, .slice (some ⟨b1, o1, none⟩) n cb] w fun e w' =>
      ∃ t : Nat, e = .returned (.int .u32 (t : Int)) ∧ t < 4294967296 ∧ q ≤ t ∧ t * (ys.getD (n - 2) 0 + 4294967296 * ys.getD (n - 1) 0) ≤ zs.getD (off + n - 2) 0 + 4294967296 * zs.getD (off + n - 1) 0 + 18446744073709551616 * zs.getD (off + n) 0 ∧ ∃ k, w' = w.drewN k := by
  obtain ⟨m, rfl⟩ : ∃ m, n = m + 2 := ⟨n - 2, by omega⟩
  have c1 := hb.at (m + 1) (by omega)
  have c0 := hb.at m (by omega)
  have d2 := hblk.cell (off + (m + 2)) (by omega)
  have d1 := hblk.cell (off + (m + 1)) (by omega)
  have d0 := hblk.cell (off + m) (by omega)
  rw [show m + 2 - 1 = m + 1 by omega] at hv1 hu2 hlow hq0 ⊢
  rw [show m + 2 - 2 = m by omega] at hlow hq0 ⊢
  rw [show off + (m + 2) - 1 = off + (m + 1) by omega] at hlow hq0 ⊢
  rw [show off + (m + 2) - 2 = off + m by omega] at hlow hq0 ⊢
  have l1 := hb.lim.getD (m + 1)
  have l0 := hb.lim.getD m
  have k2 := lz.getD (off + (m + 2))
  have k1 := lz.getD (off + (m + 1))
  have k0 := lz.getD (off + m)
  generalize ys.getD (m + 1) 0 = v1 at *
  generalize ys.getD m 0 = v0 at *
  generalize zs.getD (off + (m + 2)) 0 = u2 at *
  generalize zs.getD (off + (m + 1)) 0 = u1 at *
  generalize zs.getD (off + m) 0 = u0 at *
  clear hb hblk
  have HLO : Hid (∀ t, u0 + 4294967296 * u1 + 18446744073709551616 * u2 < t * (v0 + 4294967296 * v1) → q < t) := hlow
  have HQ0 : Hid (q * (v0 + 4294967296 * v1) ≤ u0 + 4294967296 * u1 + 18446744073709551616 * u2) := hq0
  clear hlow hq0
  have i1 : (0 : Int) ≤ (m : Int) + 2 - 1 := by omega
  have i2 : (m : Int) + 2 - 1 < (m : Int) + 2 := by omega
  have hor1 := or_low u2 u1 k2 k1
  obtain ⟨tp, htp⟩ : ∃ tp, u2 * 4294967296 + u1 = tp := ⟨_, rfl⟩
  have htpi : (u2 : Int) * 4294967296 + (u1 : Int) = (tp : Int) := by omega
  have HTP : Hid (u2 * 4294967296 + u1 = tp) := htp
  have btp : tp < 18446744073709551616 := by omega
  obtain ⟨t0, ht0⟩ : ∃ t0, tp / v1 = t0 := ⟨_, rfl⟩
  obtain ⟨r0, hr0⟩ : ∃ r0, tp % v1 = r0 := ⟨_, rfl⟩
  have ht0i : (tp : Int) / (v1 : Int) = (t0 : Int) := by rw [← ht0]; simp
  have hr0i : (tp : Int) % (v1 : Int) = (r0 : Int) := by rw [← hr0]; simp
  have hdm : v1 * t0 + r0 = tp := by rw [← ht0, ← hr0]; exact Nat.div_add_mod tp v1
  have hr0b : r0 < v1 := by rw [← hr0]; exact Nat.mod_lt _ (by omega)
  have HDM : Hid (v1 * t0 + r0 = tp) := hdm
  clear htp ht0 hr0 hdm
  have hq1 : q ≤ t0 := guess_start HQ0.out HTP.out HDM.out hr0b k0
  have ht1 : t0 ≤ 4294967297 := guess_first HTP.out HDM.out hv1 hu2 k1
  go_enter Tryd.func66, Tryd.ntmps66
  go_wp2_with fail
  go_quiet (fail)
  go_wp2_with fail
  have e2 : (w.drewN nq).cell? ⟨g, off + (m + 2), none⟩ = some (.int .u32 (u2 : Int)) := d2
  have e1 : (w.drewN nq).cell? ⟨g, off + (m + 1), none⟩ = some (.int .u32 (u1 : Int)) := d1
  have e0 : (w.drewN nq).cell? ⟨g, off + m, none⟩ = some (.int .u32 (u0 : Int)) := d0
  have HW1 : Hid (∃ k, w.drewN nq = w.drewN k) := ⟨_, rfl⟩
  clear d2 d1 d0 c1 c0
  generalize w.drewN nq = wq at e2 e1 e0 HW1 ⊢
  go_quiet (fail)
  go_wp2_with fail
  have f0 : (wq.drewN nq).cell? ⟨g, off + m, none⟩ = some (.int .u32 (u0 : Int)) := e0
  have HW2 : Hid (∃ k, wq.drewN nq = w.drewN k) := by obtain ⟨k, hk⟩ := HW1.out; exact ⟨k + nq, by rw [hk]; exact drewN_drewN _ _ _⟩
  clear e2 e1 e0 HW1
  generalize wq.drewN nq = wq2 at f0 HW2 ⊢
  go_quiet (fail)
  go_wp2_with fail
  have g0 : (wq2.drewN nq).cell? ⟨g, off + m, none⟩ = some (.int .u32 (u0 : Int)) := f0
  have HW3 : Hid (∃ k, wq2.drewN nq = w.drewN k) := by obtain ⟨k, hk⟩ := HW2.out; exact ⟨k + nq, by rw [hk]; exact drewN_drewN _ _ _⟩
  clear f0 HW2
  generalize wq2.drewN nq = wq3 at g0 HW3 ⊢
  have HR0 : Hid (Value.int .u64 ((tp : Int) % (v1 : Int)) = Value.int .u64 (r0 : Int)) := congrArg (Value.int .u64) hr0i
  clear hor1 htpi ht0i hr0i
  go_loop [9, 10] (fun a b => ∃ t r : Nat, a = .int .u64 t ∧ b = .int .u64 r ∧ v1 * t + r = tp ∧ q ≤ t ∧ r < 4294967296 ∧ t ≤ 4294967297) (fun a _ => (intOf a).toNat)
  case atStart => exact ⟨t0, r0, rfl, HR0.out, HDM.out, hq1, by omega, ht1⟩
  case round =>
    obtain ⟨t, r, rfl, rfl, hinv, hqt, hr, ht⟩ := hrel
    have HI : Hid (v1 * t + r = tp) := hinv
    clear hinv
    have hor2 := or_low r u0 hr k0
    by_cases hA : 4294967296 ≤ t
    · have hA' : ((t : Int) / 4294967296 != 0) = true := by rw [bne_iff_ne]; omega
      have hqlt : q < t := by omega
      obtain ⟨t', ht'⟩ : ∃ t', t' + 1 = t := ⟨t - 1, by omega⟩
      have HI2 : Hid (v1 * t' + (r + v1) = tp) := by have := HI.out; show _ = _; rw [← this, ← ht', Nat.mul_add]; omega
      by_cases hbr : 4294967296 ≤ r + v1
      · have hB' : (((r : Int) + (v1 : Int)) / 4294967296 != 0) = true := by rw [bne_iff_ne]; omega
        have hlt : t' < 4294967296 := guess_break HTP.out HI2.out hu2 k1 hbr
        go_wp2
        go_ret
        exact ⟨t', ret_u32 (by omega), hlt, by omega, guess_fit HTP.out HI2.out (guess_small hlt l0 hbr), HW3.out⟩
      · have hB' : (((r : Int) + (v1 : Int)) / 4294967296 != 0) = false := by rw [bne_eq_false_iff_eq]; omega
        go_wp2
        go_round
        case rel => exact ⟨t', r + v1, congrArg (Value.int .u64) (by omega), congrArg (Value.int .u64) (by omega), HI2.out, by omega, by omega, by omega⟩
        case measure => simp [intOf]; omega
    · have hA' : ((t : Int) / 4294967296 != 0) = false := by rw [bne_eq_false_iff_eq]; omega
      obtain ⟨p, hp⟩ : ∃ p, t * v0 = p := ⟨_, rfl⟩
      have bp : p ≤ 18446744065119617025 := by rw [← hp]; exact mul_lt_64 (by omega) l0
      have hpi : (t : Int) * (v0 : Int) = (p : Int) := by rw [← hp]; simp
      have HP : Hid (t * v0 = p) := hp
      clear hp
      by_cases hC : r * 4294967296 + u0 < p
      · have hqlt : q < t := HLO.out t (guess_over HTP.out HI.out (by rw [HP.out]; exact hC))
        obtain ⟨t', ht'⟩ : ∃ t', t' + 1 = t := ⟨t - 1, by omega⟩
        have HI2 : Hid (v1 * t' + (r + v1) = tp) := by have := HI.out; show _ = _; rw [← this, ← ht', Nat.mul_add]; omega
        by_cases hbr : 4294967296 ≤ r + v1
        · have hB' : (((r : Int) + (v1 : Int)) / 4294967296 != 0) = true := by rw [bne_iff_ne]; omega
          have hlt : t' < 4294967296 := by omega
          go_wp2
          go_ret
          exact ⟨t', ret_u32 (by omega), hlt, by omega, guess_fit HTP.out HI2.out (guess_small hlt l0 hbr), HW3.out⟩
        · have hB' : (((r : Int) + (v1 : Int)) / 4294967296 != 0) = false := by rw [bne_eq_false_iff_eq]; omega
          go_wp2
          go_round
          case rel => exact ⟨t', r + v1, congrArg (Value.int .u64) (by omega), congrArg (Value.int .u64) (by omega), HI2.out, by omega, by omega, by omega⟩
          case measure => simp [intOf]; omega
      · go_wp2
        go_ret
        exact ⟨t, ret_u32 (by omega), by omega, hqt, guess_fit HTP.out HI.out (by rw [HP.out]; omega), HW3.out⟩

end Go.Proofs.YtefdkajjdaplbabDoor
