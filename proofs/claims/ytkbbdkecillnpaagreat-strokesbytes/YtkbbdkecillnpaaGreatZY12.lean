/-
  nat.divideStep: the walk.
  The plain mathematics of a long division.
  nat.divideLong: the walk.
  nat.Sub: the walk.
-/
import Derived.Test.YtkbbdkecillnpaaGreatZY11
import Derived.Outline
import Derived.Test.YtkbbdkecillnpaaGreatZY10
import Derived.Test.YtkbbdkecillnpaaGreatZY9
namespace Go.Proofs.YtkbbdkecillnpaaGreat
open Go.RowKit
set_option linter.unusedSimpArgs false
set_option linter.unusedVariables false

theorem grownBy_trans {a b c : World} {row : Option Nat} (h : a.grownBy b row) (k : b.grownBy c row) : a.grownBy c row :=
  ⟨k.os.trans h.os, k.tape.trans h.tape, k.output.trans h.output, Nat.le_trans h.size k.size, fun i hi hne => (k.block i (Nat.lt_of_lt_of_le hi h.size) hne).trans (h.block i hi hne)⟩
theorem grownBy_drewN (w : World) (k : Nat) (row : Option Nat) : w.grownBy (w.drewN k) row := ⟨rfl, rfl, rfl, Nat.le_refl _, fun _ _ _ => rfl⟩

set_option maxHeartbeats 2000000 in
set_option maxRecDepth 100000 in
theorem divstep_any (g off co : Nat) (zs : List Nat) (b1 o1 cb : Nat) (ys : List Nat) (w : World) (hblk : Blk 157 w g zs) (lz : Lim zs) (hb : Rd w (some ⟨b1, o1, none⟩) cb ys) (hsep : b1 ≠ g)
    (hn2 : 2 ≤ ys.length) (hlen : off + ys.length + 1 ≤ zs.length) (hbig : zs.length ≤ 2000000000) (hco : ys.length + 1 ≤ co) (hco2 : co ≤ 9223372036854775807) (hv1 : 2147483648 ≤ ys.getD (ys.length - 1) 0)
    (hlt : Sv (fun i => zs.getD (off + i) 0) (ys.length + 1) < 4294967296 * V ys) :
    Calls Tryz.prog 145 #[.slice (some ⟨g, off, none⟩) (ys.length + 1) co, .slice (some ⟨b1, o1, none⟩) ys.length cb] w fun e w' =>
      ∃ (cs : List Nat) (q : Nat), e = .returned (.int .u32 (q : Int)) ∧ q = Sv (fun i => zs.getD (off + i) 0) (ys.length + 1) / V ys ∧ q < 4294967296 ∧ cs.length = zs.length ∧ Lim cs ∧ (∀ i, i < off ∨ off + ys.length + 1 ≤ i → cs.getD i 0 = zs.getD i 0) ∧
        Sv (fun i => cs.getD (off + i) 0) (ys.length + 1) = Sv (fun i => zs.getD (off + i) 0) (ys.length + 1) % V ys ∧ Blk 157 w' g cs ∧ w.grownBy w' (some g) := by
  have ly := hb.lim
  obtain ⟨n, hn⟩ : ∃ n, ys.length = n := ⟨_, rfl⟩
  obtain ⟨m, hm⟩ : ∃ m, n = m + 2 := ⟨n - 2, by omega⟩
  have hV : V ys = Sv (fun i => ys.getD i 0) (m + 2) := by rw [V_Sv, hn, hm]
  have hVlt : V ys < 4294967296 ^ n := by rw [← hn]; exact V_lt ly
  obtain ⟨VL, hVL⟩ : ∃ VL, Sv (fun i => zs.getD (off + i) 0) (ys.length + 1) = VL := ⟨_, rfl⟩
  rw [hVL] at hlt ⊢
  have hVL2 : VL = Sv (fun i => zs.getD (off + i) 0) n + 4294967296 ^ n * zs.getD (off + n) 0 := by rw [← hVL, hn, Sv]
  have hVL3 : Sv (fun i => zs.getD (off + i) 0) (m + 3) = VL := by rw [← hVL, hn, hm]
  have hpos : 0 < V ys := by omega
  have facts := step_facts (f := fun i => zs.getD (off + i) 0) (y := fun i => ys.getD i 0) (m := m) (fun i => lz.getD _) (fun i => ly.getD _) (by rw [hn, hm] at hv1; exact hv1) (by rw [hVL3, ← hV]; exact hlt)
  rw [hVL3, ← hV] at facts
  obtain ⟨f1, f2, f3, f4, f5⟩ := facts
  obtain ⟨q, hq⟩ : ∃ q, VL / V ys = q := ⟨_, rfl⟩
  rw [hq] at f2 f3 f4 f5
  have hrd := hb
  have hsepr : ∀ k o, some (⟨b1, o1, none⟩ : Addr) = some ⟨k, o, none⟩ → ys ≠ [] → k ≠ g := fun k o e _ => by simp at e; rw [← e.1]; exact hsep
  have hg := guess_any g off co n zs b1 o1 cb ys q w hblk lz hb hn (by omega) (by omega) (by omega) (by rw [← hn]; exact hv1) (by rw [hm]; exact f1) f2 (by rw [hm, show m + 2 - 1 = m + 1 by omega, show m + 2 - 2 = m by omega, show off + (m + 2) - 1 = off + (m + 1) by omega, show off + (m + 2) - 2 = off + m by omega]; exact f3) (by rw [hm, show m + 2 - 1 = m + 1 by omega, show m + 2 - 2 = m by omega, show off + (m + 2) - 1 = off + (m + 1) by omega, show off + (m + 2) - 2 = off + m by omega]; exact f4)
  rw [hm, show m + 2 - 1 = m + 1 by omega, show m + 2 - 2 = m by omega, show off + (m + 2) - 1 = off + (m + 1) by omega, show off + (m + 2) - 2 = off + m by omega, ← hm] at hg
  have HF5 : Hid (∀ t, t * (ys.getD m 0 + 4294967296 * ys.getD (m + 1) 0) ≤ zs.getD (off + m) 0 + 4294967296 * zs.getD (off + (m + 1)) 0 + 18446744073709551616 * zs.getD (off + (m + 2)) 0 → t ≤ q + 1) := f5
  have HQ : Hid (VL / V ys = q) := hq
  have HN : Hid (ys.length = n) := hn
  have HVL2 : Hid (VL = Sv (fun i => zs.getD (off + i) 0) n + 4294967296 ^ n * zs.getD (off + n) 0) := hVL2
  have HVlt : Hid (V ys < 4294967296 ^ n) := hVlt
  have HPos : Hid (0 < V ys) := hpos
  have hsm := fun (t : Nat) (w' : World) (hB : Blk 157 w' g zs) (hr : Rd w' (some ⟨b1, o1, none⟩) cb ys) (ht : t < 4294967296) => subm_any g off co zs (some ⟨b1, o1, none⟩) cb ys t w' hB lz hr hsepr ht (by omega) (by omega)
  have ham := fun (cs : List Nat) (w' : World) (hB : Blk 157 w' g cs) (lc : Lim cs) (hr : Rd w' (some ⟨b1, o1, none⟩) cb ys) (hl : cs.length = zs.length) => addm_any g off co cs (some ⟨b1, o1, none⟩) cb ys 1 w' hB lc hr hsepr (by decide) (by omega) (by omega)
  rw [hn] at hsm ham hlen hco hn2 ⊢
  have HM : Hid (n = m + 2) := hm
  clear f1 f2 f3 f4 f5 hq hn hVL2 hVlt hpos hVL3 hVL hV hm hsepr hv1 hlt
  go_enter Tryz.func145, Tryz.ntmps145
  go_wp2_with fail
  refine hg.mono ?_
  rintro e w1 ⟨t, rfl, ht, hqt, hfit, k, hk⟩
  have hth : t ≤ q + 1 := HF5.out t (by rw [← HM.out]; exact hfit)
  have hB1 : Blk 157 w1 g zs := by rw [hk]; exact hblk
  have hr1 : Rd w1 (some ⟨b1, o1, none⟩) cb ys := by rw [hk]; exact hb.below (below_drewN (Below.refl _ _) k)
  have hg1 : w.grownBy w1 (some g) := by rw [hk]; exact grownBy_drewN w k _
  clear hk hfit HF5 hg hb hrd hblk
  go_wp2_with fail
  refine (hsm t w1 hB1 hr1 ht).mono ?_
  rintro e w2 ⟨cs, c, rfl, hc, hcl, lc, hsame, heq, hB2, hg2⟩
  have hr2 : Rd w2 (some ⟨b1, o1, none⟩) cb ys := hr1.other hg2 (fun k o e _ => by simp at e; rw [← e.1]; exact hsep)
  have hg12 := grownBy_trans hg1 hg2
  have HEQ : Hid (Sv (fun i => cs.getD (off + i) 0) n + V ys * t = Sv (fun i => zs.getD (off + i) 0) n + 4294967296 ^ n * c) := heq
  have HSA : Hid (∀ i, i < off ∨ off + n ≤ i → cs.getD i 0 = zs.getD i 0) := hsame
  have HCL : Hid (cs.length = zs.length) := hcl
  obtain ⟨u2, hu2⟩ : ∃ u2, zs.getD (off + n) 0 = u2 := ⟨_, rfl⟩
  have bu2 : u2 < 4294967296 := by rw [← hu2]; exact lz.getD _
  have hcu : cs.getD (off + n) 0 = u2 := by rw [HSA.out (off + n) (by omega), hu2]
  have c2 := hB2.cell (off + n) (by omega)
  have c3 := hB2.frozen (off + n)
  rw [hcu] at c2
  have HU : Hid (zs.getD (off + n) 0 = u2) := hu2
  have HVLu : Hid (VL = Sv (fun i => zs.getD (off + i) 0) n + 4294967296 ^ n * u2) := by have := HVL2.out; rw [hu2] at this; exact this
  clear heq hsame hu2 hcu hB1 hr1 hg1 hg2 HVL2
  by_cases hcc : u2 < c
  · go_wp2_with fail
    refine (ham cs w2 hB2 lc hr2 HCL.out).mono ?_
    rintro e w3 ⟨ds, d, rfl, hd, hdl, ld, hsame2, heq2, hB3, hg3⟩
    have hg13 := grownBy_trans hg12 hg3
    have HDL : Hid (ds.length = cs.length) := hdl
    have hdu : ds.getD (off + n) 0 = u2 := by rw [hsame2 (off + n) (by omega), HSA.out (off + n) (by omega), HU.out]
    have d2 := hB3.cell (off + n) (by omega)
    have d3 := hB3.frozen (off + n)
    rw [hdu] at d2
    have hS1 : Sv (fun i => cs.getD (off + i) 0) n < 4294967296 ^ n := Sv_lt (fun i _ => lc.getD _)
    have hS2 : Sv (fun i => ds.getD (off + i) 0) n < 4294967296 ^ n := Sv_lt (fun i _ => ld.getD _)
    obtain ⟨r1, r2, r3⟩ := step_over (S2 := Sv (fun i => ds.getD (off + i) 0) n) (d := d) HPos.out HVlt.out hS1 hS2 HVLu.out HEQ.out (by rw [heq2, Nat.mul_one]) hcc (by rw [HQ.out]; exact hth)
    rw [HQ.out] at r1
    have HR1 : Hid (t = q + 1) := r1
    have HR3 : Hid (Sv (fun i => ds.getD (off + i) 0) n = VL % V ys) := r3
    have q1 : d ≤ c := by omega
    have q2 : c ≤ u2 + d := by omega
    have q3 : u2 + d ≤ c := by omega
    have q4 : 1 ≤ t := by omega
    have HSD : Hid (∀ i, i < off ∨ off + n ≤ i → ds.getD i 0 = cs.getD i 0) := hsame2
    clear r1 r2 r3 hS1 hS2 heq2 hsame2 hdl hcl hdu c2 c3 ham hsm hth hqt
    go_wp2
    go_ret
    refine ⟨ds.set (off + n) 0, q, ret_u32 (by have := HR1.out; omega), HQ.out.symm, by have := HR1.out; omega, by rw [List.length_set, HDL.out]; exact HCL.out, ld.set _ (by decide), fun i hi => ?_, ?_, hB3.set _ _ _ (by rw [HDL.out, HCL.out]; omega) (by omega), grownBy_setCell hg13 _ _⟩
    · rw [getD_set_ne _ _ _ _ (by omega), HSD.out i (by omega), HSA.out i (by omega)]
    · rw [Sv, getD_set_eq _ _ _ (by rw [HDL.out, HCL.out]; omega), Sv_congr (g := fun i => ds.getD (off + i) 0) (fun i hi => getD_set_ne _ _ _ _ (by omega)), HR3.out]; simp
  · obtain ⟨r1, r2⟩ := step_right HPos.out HVLu.out HEQ.out (by omega) (by rw [HQ.out]; exact hqt)
    rw [HQ.out] at r1
    have HR1 : Hid (t = q) := r1
    have HR2 : Hid (Sv (fun i => cs.getD (off + i) 0) n + 4294967296 ^ n * (u2 - c) = VL % V ys) := r2
    clear r1 r2 hcl ham hsm hth hqt
    go_wp2
    go_ret
    refine ⟨cs.set (off + n) (u2 - c), q, ret_u32 (by have := HR1.out; omega), HQ.out.symm, by have := HR1.out; omega, by rw [List.length_set]; exact HCL.out, lc.set _ (by omega), fun i hi => ?_, ?_, hB2.set _ _ _ (by rw [HCL.out]; omega) (by omega), grownBy_setCell hg12 _ _⟩
    · rw [getD_set_ne _ _ _ _ (by omega), HSA.out i (by omega)]
    · rw [Sv, getD_set_eq _ _ _ (by rw [HCL.out]; omega), Sv_congr (g := fun i => cs.getD (off + i) 0) (fun i hi => getD_set_ne _ _ _ _ (by omega)), HR2.out]

end Go.Proofs.YtkbbdkecillnpaaGreat

namespace Go.Proofs.YtkbbdkecillnpaaGreat
set_option linter.unusedSimpArgs false
set_option linter.unusedVariables false

theorem Sv_from (f : Nat → Nat) (j n : Nat) : Sv (fun i => f (j + i)) (n + 1) = f j + 4294967296 * Sv (fun i => f (j + 1 + i)) n := by
  rw [Nat.add_comm n 1, Sv_add]
  simp only [Sv, Nat.pow_zero, Nat.one_mul, Nat.add_zero, Nat.zero_add, Nat.pow_one]
  rw [Sv_congr (f := fun i => f (j + (1 + i))) (g := fun i => f (j + 1 + i)) (fun i _ => by rw [Nat.add_assoc])]

/-- The segment that is divided next is small enough. -/
theorem long_small {f : Nat → Nat} {j n VB : Nat} (hf : f j < 4294967296) (h : Sv (fun i => f (j + 1 + i)) n < VB) : Sv (fun i => f (j + i)) (n + 1) < 4294967296 * VB := by
  rw [Sv_from]; omega

/-- What a step leaves: its topmost place is 0. -/
theorem long_top {d : Nat → Nat} {j n r VB : Nat} (h : Sv (fun i => d (j + i)) (n + 1) = r) (hr : r < VB) (hp : VB < 4294967296 ^ n) : d (j + n) = 0 ∧ Sv (fun i => d (j + i)) n = r := by
  rw [Sv] at h
  rcases Nat.eq_zero_or_pos (d (j + n)) with h0 | h0
  · rw [h0, Nat.mul_zero, Nat.add_zero] at h; exact ⟨h0, h⟩
  · have : 4294967296 ^ n * 1 ≤ 4294967296 ^ n * d (j + n) := Nat.mul_le_mul_left _ h0
    omega

/-- One round of a long division. -/
theorem long_step {c d : Nat → Nat} {j n r q Qv Qw VA VB : Nat} (hinv : Sv c (j + 1 + n) + 4294967296 ^ (j + 1) * Qv * VB = VA) (hsame : ∀ i, i < j → d i = c i) (hd : Sv (fun i => d (j + i)) n = r)
    (hdm : VB * q + r = Sv (fun i => c (j + i)) (n + 1)) (hQ : Qw = q + 4294967296 * Qv) : Sv d (j + n) + 4294967296 ^ j * Qw * VB = VA := by
  rw [show j + 1 + n = j + (n + 1) by omega, Sv_add, ← hdm, Nat.pow_succ] at hinv
  rw [Sv_add, Sv_congr hsame, hd, hQ]
  generalize 4294967296 ^ j = p at hinv ⊢
  generalize Sv c j = A at hinv ⊢
  rw [← hinv]
  grind

/-- The first segment is less than the divisor. -/
theorem long_start {f : Nat → Nat} {K n la VA VB s : Nat} (hK : K + n = la + 1) (hn : 1 ≤ n) (hv : Sv f (K + n) = VA) (hA : VA < 4294967296 ^ la * 2 ^ s) (hB : 2 ^ s * 4294967296 ^ (n - 1) ≤ VB) : Sv (fun i => f (K + i)) n < VB := by
  rcases Nat.lt_or_ge (Sv (fun i => f (K + i)) n) VB with h | h
  · exact h
  · exfalso
    rw [Sv_add] at hv
    have h1 : 4294967296 ^ K * (2 ^ s * 4294967296 ^ (n - 1)) ≤ 4294967296 ^ K * Sv (fun i => f (K + i)) n := Nat.mul_le_mul_left _ (Nat.le_trans hB h)
    have h2 : 4294967296 ^ la = 4294967296 ^ K * 4294967296 ^ (n - 1) := by rw [← Nat.pow_add, show K + (n - 1) = la by omega]
    have h3 : 4294967296 ^ K * (2 ^ s * 4294967296 ^ (n - 1)) = 4294967296 ^ la * 2 ^ s := by
      rw [h2]
      generalize 4294967296 ^ K = a
      generalize 4294967296 ^ (n - 1) = b
      generalize 2 ^ s = c
      grind
    omega

/-- The end of a long division. -/
theorem long_end {R Q A B S : Nat} (hS : 0 < S) (h : R + Q * (B * S) = A * S) (hr : R < B * S) : Q = A / B ∧ R / S = A % B := by
  have hB : 0 < B * S := by omega
  have e1 : A * S / (B * S) = Q := by
    rw [← h, Nat.add_mul_div_right _ _ hB, Nat.div_eq_of_lt hr, Nat.zero_add]
  have e2 : A * S % (B * S) = R := by
    rw [← h, Nat.add_mul_mod_self_right, Nat.mod_eq_of_lt hr]
  rw [Nat.mul_div_mul_right _ _ hS] at e1
  rw [Nat.mul_mod_mul_right] at e2
  exact ⟨e1.symm, by rw [← e2, Nat.mul_div_cancel _ hS]⟩

/-- The shifted divisor: as many limbs as before, the topmost bit set. -/
theorem long_by {ys bs : List Nat} {n s x : Nat} (ly : Lim ys) (lb : Lim bs) (tb : Tr bs) (hn : ys.length = n) (hn1 : 1 ≤ n) (hx : ys.getD (n - 1) 0 = x) (hs : s < 32) (h1 : 2147483648 ≤ x * 2 ^ s) (h2 : x * 2 ^ s < 4294967296) (hv : V bs = V ys * 2 ^ s) :
    bs.length = n ∧ 2147483648 ≤ bs.getD (n - 1) 0 ∧ 2147483648 * 4294967296 ^ (n - 1) ≤ V bs := by
  have eY := V_take_succ ys (n - 1)
  rw [show n - 1 + 1 = ys.length by omega, List.take_length, hx] at eY
  have bY : V (ys.take (n - 1)) < 4294967296 ^ (n - 1) := by rw [V_take_Sv]; exact Sv_lt (fun i _ => ly.getD _)
  have hmul : (x + 1) * 2 ^ s ≤ 4294967296 := by
    have e32 : (4294967296 : Nat) = 2 ^ (32 - s) * 2 ^ s := by rw [← Nat.pow_add, show 32 - s + s = 32 by omega]
    have h3 : x * 2 ^ s < 2 ^ (32 - s) * 2 ^ s := by rw [← e32]; exact h2
    have h4 := lt_of_mul_lt h3
    calc (x + 1) * 2 ^ s ≤ 2 ^ (32 - s) * 2 ^ s := Nat.mul_le_mul_right _ h4
      _ = 4294967296 := e32.symm
  have hpw : 4294967296 ^ n = 4294967296 ^ (n - 1) * 4294967296 := by rw [← Nat.pow_succ]; congr 1; omega
  have hP : 0 < 4294967296 ^ (n - 1) := Nat.pow_pos (by decide)
  have hS : 0 < 2 ^ s := Nat.pow_pos (by decide)
  have up : V bs < 4294967296 ^ n := by
    rw [hv, hpw]
    have h5 : V ys < 4294967296 ^ (n - 1) * (x + 1) := by rw [eY, Nat.mul_add, Nat.mul_one]; omega
    calc V ys * 2 ^ s < 4294967296 ^ (n - 1) * (x + 1) * 2 ^ s := Nat.mul_lt_mul_of_pos_right h5 hS
      _ = 4294967296 ^ (n - 1) * ((x + 1) * 2 ^ s) := Nat.mul_assoc _ _ _
      _ ≤ 4294967296 ^ (n - 1) * 4294967296 := Nat.mul_le_mul_left _ hmul
  have low : 2147483648 * 4294967296 ^ (n - 1) ≤ V bs := by
    rw [hv]
    have h6 : 4294967296 ^ (n - 1) * x ≤ V ys := by omega
    calc 2147483648 * 4294967296 ^ (n - 1) ≤ x * 2 ^ s * 4294967296 ^ (n - 1) := Nat.mul_le_mul_right _ h1
      _ = 4294967296 ^ (n - 1) * x * 2 ^ s := by
        generalize 4294967296 ^ (n - 1) = a
        generalize 2 ^ s = c
        grind
      _ ≤ V ys * 2 ^ s := Nat.mul_le_mul_right _ h6
  have hl1 := len_le_of_V tb up
  have hl2 : n ≤ bs.length := by
    rcases Nat.lt_or_ge bs.length n with h | h
    · exfalso
      have h7 := V_lt lb
      have h8 : 4294967296 ^ bs.length ≤ 4294967296 ^ (n - 1) := Nat.pow_le_pow_right (by decide) (by omega)
      omega
    · exact h
  have hl : bs.length = n := by omega
  refine ⟨hl, ?_, low⟩
  have eB := V_take_succ bs (n - 1)
  rw [show n - 1 + 1 = bs.length by omega, List.take_length] at eB
  have bB : V (bs.take (n - 1)) < 4294967296 ^ (n - 1) := by rw [V_take_Sv]; exact Sv_lt (fun i _ => lb.getD _)
  rcases Nat.lt_or_ge (bs.getD (n - 1) 0) 2147483648 with h | h
  · exfalso
    have h9 : 4294967296 ^ (n - 1) * bs.getD (n - 1) 0 ≤ 4294967296 ^ (n - 1) * 2147483647 := Nat.mul_le_mul_left _ (by omega)
    omega
  · exact h

end Go.Proofs.YtkbbdkecillnpaaGreat

namespace Go.Proofs.YtkbbdkecillnpaaGreat
open Go.RowKit
set_option linter.unusedSimpArgs false
set_option linter.unusedVariables false

theorem Blk.set_other {e : TypeId} {w : World} {g k : Nat} {zs : List Nat} (h : Blk e w g zs) (hne : g ≠ k) (i : Nat) (v : Value) : Blk e (w.setCell ⟨k, i, none⟩ v) g zs := by
  obtain ⟨cur, h1, h2⟩ := h
  exact ⟨cur, (Below.heap_setCell w ⟨k, i, none⟩ v g hne).trans h1, h2⟩

theorem Rd.set_other {w : World} {g o k cap : Nat} {zs : List Nat} (h : Rd w (some ⟨g, o, none⟩) cap zs) (hne : g ≠ k) (i : Nat) (v : Value) : Rd (w.setCell ⟨k, i, none⟩ v) (some ⟨g, o, none⟩) cap zs :=
  h.keep (by simp [World.setCell]) fun b _ hb => by
    obtain ⟨o', e⟩ := hb
    simp at e
    exact Below.heap_setCell w ⟨k, i, none⟩ v b (by rw [← e.1]; exact hne)

theorem shdn_n (a : Option Addr) (cap n : Nat) (xs : List Nat) (s : Nat) (w : World) (hn : n = xs.length) (h : Rd w a cap xs) (hl : xs.length ≤ 500000000) (hs : s < 32) :
    Calls Tryz.prog 146 #[.slice a n cap, .int .i64 (s : Int)] w fun e w' =>
      ∃ g zs, e = .returned (.slice (some ⟨g, 0, none⟩) n n) ∧ zs.length = n ∧ V zs = V xs / 2 ^ s ∧ Rd w' (some ⟨g, 0, none⟩) n zs ∧ Below w.heap.size w w' := by
  subst hn; exact shdn_any a cap xs s w h hl hs

theorem V_of_zeros {cs : List Nat} {n : Nat} (h : n ≤ cs.length) (hz : ∀ i, n ≤ i → cs.getD i 0 = 0) : V cs = Sv (fun i => cs.getD i 0) n := by
  rw [V_Sv, show cs.length = n + (cs.length - n) by omega, Sv_add, Sv_zero (f := fun i => cs.getD (n + i) 0) (fun i _ => hz (n + i) (by omega)), Nat.mul_zero, Nat.add_zero]

set_option maxHeartbeats 4000000 in
set_option maxRecDepth 100000 in
theorem divlong_any (a : Option Addr) (cap : Nat) (xs : List Nat) (b : Option Addr) (cb : Nat) (ys : List Nat) (w : World) (ha : Rd w a cap xs) (hb : Rd w b cb ys) (ta : Tr xs) (tb : Tr ys) (h2 : 2 ≤ ys.length) (hle : V ys ≤ V xs) (hla : xs.length ≤ 400000000) (hlb : ys.length ≤ 400000000) :
    Calls Tryz.prog 128 #[.slice a xs.length cap, .slice b ys.length cb] w fun e w' =>
      ∃ a1 c1 z1 a2 c2 z2, e = .returned (.tuple #[.slice a1 z1.length c1, .slice a2 z2.length c2]) ∧ V z1 = V xs / V ys ∧ V z2 = V xs % V ys ∧ Tr z1 ∧ Tr z2 ∧ Res 157 w.heap.size w' a1 c1 z1 ∧ Res 157 w.heap.size w' a2 c2 z2 ∧ Below w.heap.size w w' := by
  obtain ⟨i0, hi, hz0, hz1, hz2⟩ := info_parts info_limb
  have hll : ys.length ≤ xs.length := by
    rcases Nat.lt_or_ge xs.length ys.length with h | h
    · have := V_lt_of_length ha.lim tb h; omega
    · exact h
  have ly := hb.lim
  have hyl := hb.le
  have hyc := hb.cap
  unfold maxLen at hyc
  obtain ⟨b1, o1, rfl, hb1, hcb⟩ := hb.fm.at (Below.refl _ _) (ys.length - 1) (by omega)
  obtain ⟨x, hx⟩ : ∃ x, ys.getD (ys.length - 1) 0 = x := ⟨_, rfl⟩
  have hx0 : x ≠ 0 := by rw [← hx]; exact tb.last (by intro e; rw [e] at h2; simp at h2)
  have hxb : x < 4294967296 := by rw [← hx]; exact ly.getD _
  rw [hx] at hcb
  obtain ⟨s, hs, hs1, hs2, hs3⟩ := lz_spec hx0 hxb
  have HX : Hid (ys.getD (ys.length - 1) 0 = x) := hx
  have HS1 : Hid ((32 - (Lib.bitLen x : Int)) = (s : Int)) := hs1
  have HS2 : Hid (2147483648 ≤ x * 2 ^ s ∧ x * 2 ^ s < 4294967296) := ⟨hs2, hs3⟩
  have HLE : Hid (V ys ≤ V xs) := hle
  have HA : Hid (V xs < 4294967296 ^ xs.length) := V_lt ha.lim
  clear hx hs1 hs2 hs3 hle
  go_enter Tryz.func128, Tryz.ntmps128
  go_wp2_with fail
  refine (lz32_any x _ hxb).mono ?_
  rintro e w' ⟨rfl, rfl⟩
  rw [HS1.out]
  clear HS1
  go_wp2_with fail
  refine (shup_any a cap xs s _ ha (by omega) hs).mono ?_
  rintro e w1 ⟨aL, capL, L, rfl, hLl, hLv, hLr, hb1'⟩
  have hbw1 := hb.below hb1'
  have HLV : Hid (V L = V xs * 2 ^ s) := hLv
  have HLL : Hid (L.length = xs.length + 1) := hLl
  clear hLv hb
  go_wp2_with fail
  refine (shup_any _ cb ys s _ hbw1 (by omega) hs).mono ?_
  rintro e w2 ⟨aB, capB, Bs, rfl, hBl, hBv, hBr, hb2'⟩
  have hL2 := hLr.below hb2'
  have hbb2 : Below w.heap.size w w2 := hb1'.trans (hb2'.mono hb1'.size)
  have HBV : Hid (V Bs = V ys * 2 ^ s) := hBv
  have hBl2 : Bs.length ≤ 1000000000 := by omega
  clear hBv hbw1 hBl
  go_wp2_with fail
  refine (trim_any _ _ Bs _ hBr.rd hBl2).mono ?_
  rintro e w3 ⟨aT, capT, rfl, hTr, hb3'⟩
  have hL3 := hL2.below hb3'
  have hbb3 : Below w.heap.size w w3 := hbb2.trans (hb3'.mono hbb2.size)
  have HTV : Hid (V (strip Bs) = V ys * 2 ^ s) := by show _ = _; rw [V_strip]; exact HBV.out
  have tT := tr_strip Bs
  generalize strip Bs = T at hTr HTV tT ⊢
  obtain ⟨hT1, hT2, hT3⟩ := long_by ly hTr.lim tT rfl (by omega) HX.out hs HS2.out.1 HS2.out.2 HTV.out
  have HT1 : Hid (T.length = ys.length) := hT1
  have HT2 : Hid (2147483648 ≤ T.getD (ys.length - 1) 0) := hT2
  have HT3 : Hid (2147483648 * 4294967296 ^ (ys.length - 1) ≤ V T) := hT3
  -- the blocks
  obtain ⟨gL, rfl, hgL1, hBL⟩ : ∃ g, aL = some ⟨g, 0, none⟩ ∧ w.heap.size ≤ g ∧ Blk 157 w1 g L := by
    rcases hLr.blk with h | h
    · rw [h] at hLl; simp at hLl
    · exact h
  have hgLlt := hBL.lt
  obtain ⟨gT, rfl, hgT1, hBT⟩ : ∃ g, aT = some ⟨g, 0, none⟩ ∧ w2.heap.size ≤ g ∧ Blk 157 w3 g T := by
    rcases hTr.blk with h | h
    · rw [h] at hT1; simp at hT1; omega
    · exact h
  have hgTlt := hBT.lt
  have s12 := hb2'.size
  have s23 := hb3'.size
  have s01 := hb1'.size
  have hBL3 : Blk 157 w3 gL L := (hBL.below hb2').below hb3'
  have hTrd := hTr.rd
  have hTc := hTrd.cap
  have hTle := hTrd.le
  have lL := hLr.lim
  have hLcap := hLr.rd.cap
  have hLle := hLr.rd.le
  unfold maxLen at hTc hLcap
  clear hT1 hT2 hT3 hLr hTr hBr hL2 hL3 hBL hBT hb1' hb2' hb3' hLl
  go_wp2_with (at_make; refine wpList_make_full _ rfl _ _ 117 rfl w3.heap.size 157 i0 (.int .u32 0) 1 Tryz.underlying117 hi hz0 hz1 _ _ _ _ (xs.length - ys.length + 1) rfl rfl (by omega) (by omega) (by rw [hz2]; omega) (by unfold maxLen; omega) (Nat.le_refl _) ?_)
  intro w4 hown4 hgrow4
  have hbb4 : Below w3.heap.size w3 w4 := (Below.refl _ _).grown hgrow4 (Nat.le_refl _) (fun k h => by cases h)
  have hBQ4 := blk_made hown4
  have hBL4 := hBL3.below hbb4
  have hT4 := hTrd.below hbb4
  have hw4 : Below w.heap.size w w4 := hbb3.trans (hbb4.mono hbb3.size)
  have hgTL : gT ≠ gL := by omega
  have hgQL : w3.heap.size ≠ gL := by omega
  have hgQT : gT ≠ w3.heap.size := by omega
  have hT2l : 2 ≤ T.length := by rw [HT1.out]; exact h2
  have hTx : T.length ≤ xs.length := by rw [HT1.out]; exact hll
  have hstart : Sv (fun j => L.getD (xs.length - ys.length + 1 + j) 0) T.length < V T := by
    refine long_start (f := fun j => L.getD j 0) (K := xs.length - ys.length + 1) (n := T.length) (la := xs.length) (VA := V xs * 2 ^ s) (s := s) (by rw [HT1.out]; omega) (by omega) ?_ (Nat.mul_lt_mul_of_pos_right HA.out (Nat.pow_pos (by decide))) ?_
    · rw [show xs.length - ys.length + 1 + T.length = L.length by rw [HT1.out, HLL.out]; omega, ← V_Sv]; exact HLV.out
    · rw [HT1.out]
      have h31 : 2 ^ s ≤ 2147483648 := Nat.pow_le_pow_right (n := 2) (by decide) (show s ≤ 31 by omega)
      exact Nat.le_trans (Nat.mul_le_mul_right _ h31) HT3.out
  have HST : Hid (Sv (fun j => L.getD (xs.length - ys.length + 1 + j) 0) T.length < V T) := hstart
  clear hstart hown4 hgrow4 hBL3 hTrd hbb4
  go_wp2
  go_loopw [10] (fun i wr => ∃ (k : Nat) (q : Int) (cs Q : List Nat), k ≤ xs.length - ys.length + 1 ∧ q = (k : Int) - 1 ∧ i = .int .i64 q ∧ cs.length = xs.length + 1 ∧ Lim cs ∧ Q.length = xs.length - ys.length + 1 ∧ Lim Q ∧
      Sv (fun j => cs.getD j 0) (k + T.length) + 4294967296 ^ k * V (Q.drop k) * V T = V xs * 2 ^ s ∧ Sv (fun j => cs.getD (k + j) 0) T.length < V T ∧ (∀ j, k + T.length ≤ j → cs.getD j 0 = 0) ∧ Blk 157 wr gL cs ∧ Blk 157 wr w3.heap.size Q ∧ Rd wr (some ⟨gT, 0, none⟩) capT T ∧ Below w.heap.size w wr) (fun i _ => (intOf i + 1).toNat)
  case atStart =>
    refine ⟨xs.length - ys.length + 1, _, L, _, Nat.le_refl _, ?_, rfl, HLL.out, lL, List.length_replicate, fun x hx => by rw [List.eq_of_mem_replicate hx]; decide, ?_, HST.out, fun j hj => getD_past _ _ ?_, hBL4, hBQ4, hT4, hw4⟩
    · omega
    · rw [List.drop_eq_nil_of_le (by simp), V_nil, Nat.mul_zero, Nat.zero_mul, Nat.add_zero, show xs.length - ys.length + 1 + T.length = L.length by rw [HT1.out, HLL.out]; omega, ← V_Sv]; exact HLV.out
    · rw [HLL.out]; rw [HT1.out] at hj; omega
  case round =>
    obtain ⟨k, q, cs, Q, hk, hq, rfl, hcl, lc, hQl, lQ, hinv, hseg, hzer, hBL, hBQ, hT, hnx⟩ := hrel
    have HC : Hid (cs.length = xs.length + 1) := hcl
    have HQ : Hid (Q.length = xs.length - ys.length + 1) := hQl
    have HI : Hid (Sv (fun j => cs.getD j 0) (k + T.length) + 4294967296 ^ k * V (Q.drop k) * V T = V xs * 2 ^ s) := hinv
    have HSG : Hid (Sv (fun j => cs.getD (k + j) 0) T.length < V T) := hseg
    have HZ : Hid (∀ j, k + T.length ≤ j → cs.getD j 0 = 0) := hzer
    have hsz := hnx.size
    clear hcl hQl hinv hseg hzer
    by_cases hk0 : k = 0
    · subst hk0
      obtain rfl : q = -1 := by omega
      clear hq
      have hr := hBQ.rd lQ 0 (xs.length - ys.length + 1) (xs.length - ys.length + 1) (by rw [HQ.out]; omega) (Nat.le_refl _) (by unfold maxLen; omega)
      rw [List.drop_zero, List.take_of_length_le (by rw [HQ.out]; exact Nat.le_refl _)] at hr
      have hr2 := hBL.rd lc 0 (xs.length + 1) capL (by rw [HC.out]; omega) (by have := HLL.out; omega) (by unfold maxLen; omega)
      rw [List.drop_zero, List.take_of_length_le (by rw [HC.out]; exact Nat.le_refl _)] at hr2
      have hfin := long_end (R := V cs) (Q := V Q) (A := V xs) (B := V ys) (S := 2 ^ s) (Nat.pow_pos (by decide))
        (by
          have h1 := HI.out
          rw [List.drop_zero, Nat.pow_zero, Nat.one_mul, Nat.zero_add, ← V_of_zeros (by rw [HC.out]; omega) (fun i hi => HZ.out i (by omega)), HTV.out] at h1
          exact h1)
        (by
          have h1 := HSG.out
          rw [Sv_congr (g := fun i => cs.getD i 0) (fun i _ => by rw [Nat.zero_add]), ← V_of_zeros (by rw [HC.out]; omega) (fun i hi => HZ.out i (by omega)), HTV.out] at h1
          exact h1)
      have HF : Hid (V Q = V xs / V ys ∧ V cs / 2 ^ s = V xs % V ys) := hfin
      clear hfin
      go_wp2_with fail
      refine (trim_n _ _ (xs.length - ys.length + 1) Q _ HQ.out.symm hr (by rw [HQ.out]; omega)).mono ?_
      rintro e v1 ⟨a1, c1, rfl, hr1, hv1⟩
      have hbv1 : Below w.heap.size w v1 := hnx.trans (hv1.mono hsz)
      obtain ⟨z1, hz1'⟩ : ∃ z1, strip Q = z1 := ⟨_, rfl⟩
      have tz1 : Tr z1 := by rw [← hz1']; exact tr_strip Q
      have HV1 : Hid (V z1 = V xs / V ys) := by show _ = _; rw [← hz1', V_strip]; exact HF.out.1
      rw [hz1'] at hr1 ⊢
      have hr2' := hr2.below hv1
      clear hr hz1'
      go_wp2_with fail
      refine (shdn_n _ _ (xs.length + 1) cs s _ HC.out.symm hr2' (by rw [HC.out]; omega) hs).mono ?_
      rintro e v2 ⟨g2, ds, rfl, hdl, hdv, hdr, hv2⟩
      have hbv2 : Below w.heap.size w v2 := hbv1.trans (hv2.mono hbv1.size)
      have hr1' := hr1.below hv2
      have HDV : Hid (V ds = V xs % V ys) := by show _ = _; rw [hdv]; exact HF.out.2
      have HDL : Hid (ds.length = xs.length + 1) := hdl
      clear hdl hdv hr1 hr2 hr2' hv1 hv2
      go_wp2_with fail
      refine (trim_n _ _ (xs.length + 1) ds _ HDL.out.symm hdr (by rw [HDL.out]; omega)).mono ?_
      rintro e v3 ⟨a2, c2, rfl, hr3, hv3⟩
      have hr1'' := hr1'.below hv3
      have hs1 := hbv2.size
      have hbv3 : Below w.heap.size w v3 := hbv2.trans (hv3.mono hbv2.size)
      go_wp2
      go_ret2
      exact ⟨a1, c1, z1, a2, c2, strip ds, rfl, HV1.out, by rw [V_strip]; exact HDV.out, tz1, tr_strip _, hr1''.mono hsz, hr3.mono hs1, hbv3⟩
    · obtain ⟨j, rfl⟩ : ∃ j, k = j + 1 := ⟨k - 1, by omega⟩
      obtain rfl : q = (j : Int) := by omega
      clear hq
      have hsl : j + T.length + 1 ≤ capL := by have := HLL.out; rw [HT1.out]; omega
      have hjc : j + T.length + 1 ≤ cs.length := by rw [HC.out, HT1.out]; omega
      have hsmall : Sv (fun i => cs.getD (j + i) 0) (T.length + 1) < 4294967296 * V T := long_small (f := fun i => cs.getD i 0) (lc.getD j) HSG.out
      have hTlt : V T < 4294967296 ^ T.length := V_lt hT.lim
      go_wp2_with fail
      rw [show j + T.length + 1 - j = T.length + 1 by omega]
      refine (divstep_any gL j (capL - j) cs gT 0 capT T wr hBL lc hT hgTL hT2l hjc (by rw [HC.out]; omega) (by omega) (by omega) (by rw [HT1.out]; exact HT2.out) hsmall).mono ?_
      rintro e v1 ⟨ds, qd, rfl, hqd, hqlt, hdl, ld, hsame, hrem, hB1, hg1⟩
      have hb1'' : Below w.heap.size w v1 := hnx.grown hg1 hsz (fun k hk => by cases hk; exact hgL1)
      have hBQ1 := hBQ.other hg1 hgQL
      have hT1' : Rd v1 (some ⟨gT, 0, none⟩) capT T := hT.other hg1 (fun k o e _ => by simp at e; rw [← e.1]; exact hgTL)
      have c2 := hBQ1.cell j (by rw [HQ.out]; omega)
      have c3 := hBQ1.frozen j
      obtain ⟨o, ho⟩ : ∃ o, Q.getD j 0 = o := ⟨_, rfl⟩
      rw [ho] at c2
      have hmod : Sv (fun i => cs.getD (j + i) 0) (T.length + 1) % V T < V T := Nat.mod_lt _ (by omega)
      obtain ⟨htop, hlow⟩ := long_top (d := fun i => ds.getD i 0) hrem hmod hTlt
      have hdm := Nat.div_add_mod (Sv (fun i => cs.getD (j + i) 0) (T.length + 1)) (V T)
      rw [← hqd] at hdm
      have HSTEP : Hid (Sv (fun i => ds.getD i 0) (j + T.length) + 4294967296 ^ j * V ((Q.set j qd).drop j) * V T = V xs * 2 ^ s) := by
        refine long_step (c := fun i => cs.getD i 0) (q := qd) HI.out (fun i hi => hsame i (by omega)) hlow hdm ?_
        rw [V_drop, getD_set_eq _ _ _ (by rw [HQ.out]; omega), List.drop_set_of_lt (by omega)]
      have HSEG : Hid (Sv (fun i => ds.getD (j + i) 0) T.length < V T) := by show _ < _; rw [hlow]; exact hmod
      have HZZ : Hid (∀ i, j + T.length ≤ i → ds.getD i 0 = 0) := fun i hi => by
        rcases Nat.lt_or_eq_of_le hi with h | h
        · rw [hsame i (by omega)]; exact HZ.out i (by omega)
        · rw [← h]; exact htop
      have HDL : Hid (ds.length = cs.length) := hdl
      clear hmod htop hlow hdm hsame hrem hqd hsmall hTlt hdl ho hBQ hT hjc
      go_wp2
      go_roundw
      case rel =>
        exact ⟨j, _, ds, Q.set j qd, by omega, rfl, by go_num, by rw [HDL.out]; exact HC.out, ld, by rw [List.length_set]; exact HQ.out, lQ.set _ hqlt, HSTEP.out, HSEG.out, HZZ.out, hB1.set_other hgQL.symm _ _, hBQ1.set _ _ _ (by rw [HQ.out]; omega) rfl, hT1'.set_other hgQT _ _, hb1''.setCell (Nat.le_trans hbb3.size (Nat.le_refl _)) _⟩
      case measure => simp [intOf]

end Go.Proofs.YtkbbdkecillnpaaGreat

namespace Go.Proofs.YtkbbdkecillnpaaGreat
open Go.RowKit
set_option linter.unusedSimpArgs false
set_option linter.unusedVariables false

theorem u64_eq {a b : Int} (h : a = b) : Value.int .u64 a = Value.int .u64 b := by rw [h]

theorem wrap_u64_sub (n : Int) : IntKind.u64.wrap n = n % 18446744073709551616 := by simp [IntKind.wrap, IntKind.bits, IntKind.signed]

/-- One round of a subtraction. -/
theorem sub_step {zs L S : List Nat} {k cy x y t : Nat} (hz : zs.length = k) (he : V zs + V (S.take k) = V (L.take k) + 4294967296 ^ k * cy) (hx : L.getD k 0 = x) (hy : S.getD k 0 = y) (ht : t = x + 4294967296 - cy - y) (hc : cy ≤ 1) (hb : y < 4294967296) (hxb : x < 4294967296) :
    V (zs ++ [t % 4294967296]) + V (S.take (k + 1)) = V (L.take (k + 1)) + 4294967296 ^ (k + 1) * (1 - t / 4294967296) := by
  rw [V_snoc, hz, V_take_succ, V_take_succ, hx, hy, Nat.pow_succ]
  have e : t % 4294967296 + y + cy = x + 4294967296 * (1 - t / 4294967296) := by omega
  · generalize t % 4294967296 = r at e ⊢
    generalize 1 - t / 4294967296 = d at e ⊢
    generalize 4294967296 ^ k = p at he ⊢
    generalize V zs = o at he ⊢
    generalize V (L.take k) = A at he ⊢
    generalize V (S.take k) = C at he ⊢
    grind

theorem V_take_all {S : List Nat} {n : Nat} (h : V S < 4294967296 ^ n) : V (S.take n) = V S := by
  have e := V_take_drop S n
  rcases Nat.eq_zero_or_pos (V (S.drop n)) with h0 | h0
  · rw [h0] at e; omega
  · have : 4294967296 ^ n * 1 ≤ 4294967296 ^ n * V (S.drop n) := Nat.mul_le_mul_left _ h0
    omega

/-- The end of a subtraction: nothing is borrowed. -/
theorem sub_end {zs L S : List Nat} {cy : Nat} (lz : Lim zs) (hz : zs.length = L.length) (he : V zs + V (S.take L.length) = V (L.take L.length) + 4294967296 ^ L.length * cy) (lL : Lim L) (hv : V S < V L) : V zs = V L - V S := by
  have hL := V_lt lL
  rw [List.take_length, V_take_all (by omega)] at he
  have hzs := V_lt lz
  rw [hz] at hzs
  rcases Nat.eq_zero_or_pos cy with h0 | h0
  · rw [h0] at he; omega
  · have : 4294967296 ^ L.length * 1 ≤ 4294967296 ^ L.length * cy := Nat.mul_le_mul_left _ h0
    omega

theorem cmpN_le {x y : Nat} (h : x ≤ y) : cmpN x y ≤ 0 := by unfold cmpN; split <;> (try split) <;> omega
theorem cmpN_gt {x y : Nat} (h : y < x) : cmpN x y = 1 := by unfold cmpN; rw [if_neg (by omega), if_pos h]

set_option maxHeartbeats 1600000 in
set_option maxRecDepth 100000 in
theorem sub_any (a : Option Addr) (cap : Nat) (xs : List Nat) (b : Option Addr) (cbp : Nat) (ys : List Nat) (w : World) (ha : Rd w a cap xs) (hb : Rd w b cbp ys) (hla : xs.length ≤ 500000000) (hlb : ys.length ≤ 500000000) :
    Calls Tryz.prog 107 #[.slice a xs.length cap, .slice b ys.length cbp] w fun e w' =>
      ∃ a' cap' zs, e = .returned (.slice a' zs.length cap') ∧ V zs = V xs - V ys ∧ Tr zs ∧ Res 157 w.heap.size w' a' cap' zs ∧ Below w.heap.size w w' := by
  obtain ⟨i0, hi, hz0, hz1, hz2⟩ := info_parts info_limb
  by_cases hle : V xs ≤ V ys
  · have hc := cmpN_le hle
    go_enter Tryz.func107, Tryz.ntmps107
    go_wp2_with fail
    refine (cmp_any _ _ _ _ _ _ _ ha hb).mono ?_
    rintro e w1 ⟨rfl, hb1⟩
    generalize cmpN (V xs) (V ys) = q at hc ⊢
    go_wp2
    go_ret
    refine ⟨some ⟨w1.heap.size, 0, none⟩, 0, [], rfl, ?_, tr_nil, ?_, hb1.alloc hb1.size _⟩
    · show 0 = _; omega
    · exact ⟨Lim.nil, ownsRow_mono (World.ownsRow_made w1 #[] 0 (Nat.le_refl _) (Nat.zero_le _) rfl) hb1.size⟩
  · have hc := cmpN_gt (Nat.lt_of_not_le hle)
    have HC : Hid (cmpN (V xs) (V ys) = 1) := hc
    clear hc
    go_enter Tryz.func107, Tryz.ntmps107
    go_wp2_with fail
    refine (cmp_any _ _ _ _ _ _ _ ha hb).mono ?_
    rintro e w0 ⟨rfl, hb0⟩
    rw [HC.out]
    have ha0 := ha.below hb0
    have hb00 := hb.below hb0
    clear ha hb
    have Xr := ha0.strip
    have Yr := hb00.strip
    have lx := strip_length_le xs
    have ly := strip_length_le ys
    go_wp2_with fail
    refine (sig_any a cap xs _ ha0).mono ?_
    rintro e w' ⟨rfl, rfl⟩
    go_wp2_with fail
    refine (sig_any b cbp ys _ hb00).mono ?_
    rintro e w' ⟨rfl, rfl⟩
    clear ha0 hb00
    have HV : Hid (V (strip ys) < V (strip xs) ∧ V (strip xs) = V xs ∧ V (strip ys) = V ys) := by show _ ∧ _; rw [V_strip, V_strip]; exact ⟨by omega, rfl, rfl⟩
    generalize strip xs = X at Xr lx HV ⊢
    generalize strip ys = Y at Yr ly HV ⊢
    have hL2 := Xr.le
    have hL3 := Xr.cap
    unfold maxLen at hL3
    have lL := Xr.lim
    have lS := Yr.lim
    have fL := Xr.fm
    have fS := Yr.fm
    clear Xr Yr
    have hs0 := hb0.size
    go_wp2_with (at_make; refine wpList_make_own _ rfl _ _ 117 rfl w0.heap.size 157 i0 (.int .u32 0) 1 Tryz.underlying117 hi hz0 hz1 _ _ _ X.length rfl rfl (by omega) (by rw [hz2]; omega) (by unfold maxLen; omega) (Nat.le_refl _) ?_)
    intro u0 hown0 hgrow0
    have hbu : Below w0.heap.size w0 u0 := (Below.refl _ _).grown hgrow0 (Nat.le_refl _) (fun k h => by cases h)
    go_wp2
    go_loopw [5, 6, 24] (fun out c i wr => ∃ (k : Nat) (zs : List Nat) (cy : Nat), k ≤ X.length ∧ i = .int .i64 k ∧ c = .int .u64 cy ∧ cy ≤ 1 ∧ zs.length = k ∧ Lim zs ∧ V zs + V (Y.take k) = V (X.take k) + 4294967296 ^ k * cy ∧ wr.ownsRow w0.heap.size 157 1 out k (zs.map U) ∧ Below w0.heap.size w0 wr) (fun _ _ i _ => X.length - (intOf i).toNat)
    case atStart => exact ⟨0, [], 0, Nat.zero_le _, rfl, rfl, Nat.zero_le _, rfl, Lim.nil, by simp [V], hown0, hbu⟩
    case round =>
      obtain ⟨k, zs, cy, hk, rfl, rfl, hcy, hzl, lz, heq, hown, hnx⟩ := hrel
      have HE : Hid (V zs + V (Y.take k) = V (X.take k) + 4294967296 ^ k * cy) := heq
      have HZ : Hid (zs.length = k) := hzl
      have hsz := hnx.size
      clear heq hzl
      by_cases hkn : k < X.length
      · obtain ⟨bl, ol, rfl, _, hcl⟩ := fL.at hnx k hkn
        obtain ⟨x, hx⟩ : ∃ x, X.getD k 0 = x := ⟨_, rfl⟩
        obtain ⟨y, hy⟩ : ∃ y, Y.getD k 0 = y := ⟨_, rfl⟩
        have bx : x < 4294967296 := by rw [← hx]; exact lL.getD k
        have byy : y < 4294967296 := by rw [← hy]; exact lS.getD k
        rw [hx] at hcl
        have HX : Hid (X.getD k 0 = x) := hx
        have HY : Hid (Y.getD k 0 = y) := hy
        clear hx hy
        by_cases hkm : k < Y.length
        · obtain ⟨bs, os, rfl, _, hcs⟩ := fS.at hnx k hkm
          rw [HY.out] at hcs
          go_wp2_with (at_builtin; refine wpList_append_one rfl _ _ 117 rfl w0.heap.size 157 i0 Tryz.underlying117 hi hz0 hz1 hz2 _ k zs rfl (hown.alloc _) wr.heap.size ((x + 4294967296 - cy - y) % 4294967296) rfl (cell_new1 _ _ _ _ (by simp only [wrap_u64_sub]; omega)) (by omega) (by simp; omega) ?_)
          intro v' w1 hown1 hgrow1
          have hb1 : Below w0.heap.size w0 w1 := (hnx.alloc hsz _).grown hgrow1 (by simp; omega) (fun k hk => (hown.lt k hk).1)
          clear hown
          go_wp2
          go_roundw
          case rel =>
            exact ⟨k + 1, zs ++ [(x + 4294967296 - cy - y) % 4294967296], 1 - (x + 4294967296 - cy - y) / 4294967296, by omega, by go_num, u64_eq (by simp only [wrap_u64_sub]; omega), by omega, by simp [HZ.out], lz.snoc (by omega), sub_step HZ.out HE.out HX.out HY.out (by omega) hcy byy bx, own_snoc hown1, hb1⟩
          case measure => simp [intOf]; omega
        · have y0 : y = 0 := by rw [← HY.out]; exact getD_past _ _ (by omega)
          subst y0
          go_wp2_with (at_builtin; refine wpList_append_one rfl _ _ 117 rfl w0.heap.size 157 i0 Tryz.underlying117 hi hz0 hz1 hz2 _ k zs rfl (hown.alloc _) wr.heap.size ((x + 4294967296 - cy) % 4294967296) rfl (cell_new1 _ _ _ _ (by simp only [wrap_u64_sub]; omega)) (by omega) (by simp; omega) ?_)
          intro v' w1 hown1 hgrow1
          have hb1 : Below w0.heap.size w0 w1 := (hnx.alloc hsz _).grown hgrow1 (by simp; omega) (fun k hk => (hown.lt k hk).1)
          clear hown
          go_wp2
          go_roundw
          case rel =>
            exact ⟨k + 1, zs ++ [(x + 4294967296 - cy) % 4294967296], 1 - (x + 4294967296 - cy) / 4294967296, by omega, by go_num, u64_eq (by simp only [wrap_u64_sub]; omega), by omega, by simp [HZ.out], lz.snoc (by omega), sub_step HZ.out HE.out HX.out HY.out (by omega) hcy byy bx, own_snoc hown1, hb1⟩
          case measure => simp [intOf]; omega
      · obtain rfl : k = X.length := by omega
        obtain ⟨a', cap', rfl, hres⟩ := Res.of lz hown
        clear hown
        go_wp2_with fail
        refine (trim_any _ _ _ _ hres.rd (by rw [HZ.out]; omega)).mono ?_
        rintro e w2 ⟨a2, c2, rfl, hr2, hb2⟩
        go_wp2
        go_ret
        refine ⟨a2, c2, _, rfl, ?_, tr_strip _, hr2.mono (Nat.le_trans hs0 hsz), hb0.trans ((hnx.trans (hb2.mono hsz)).mono hs0)⟩
        rw [V_strip, ← HV.out.2.1, ← HV.out.2.2]
        exact sub_end lz HZ.out HE.out lL HV.out.1

end Go.Proofs.YtkbbdkecillnpaaGreat
