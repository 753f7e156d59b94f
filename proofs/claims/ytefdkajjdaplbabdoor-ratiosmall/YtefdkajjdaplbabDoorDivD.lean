/-
  nat.divideStep: the walk.
-/
import Derived.Test.YtefdkajjdaplbabDoorDivC
import Derived.Test.YtefdkajjdaplbabDoorDivN
import Derived.Outline
namespace Go.Proofs.YtefdkajjdaplbabDoor
open Go.RowKit
set_option linter.unusedSimpArgs false
set_option linter.unusedVariables false

theorem grownBy_trans {a b c : World} {row : Option Nat} (h : a.grownBy b row) (k : b.grownBy c row) : a.grownBy c row :=
  ⟨k.os.trans h.os, k.tape.trans h.tape, k.output.trans h.output, Nat.le_trans h.size k.size, fun i hi hne => (k.block i (Nat.lt_of_lt_of_le hi h.size) hne).trans (h.block i hi hne)⟩
theorem grownBy_drewN (w : World) (k : Nat) (row : Option Nat) : w.grownBy (w.drewN k) row := ⟨rfl, rfl, rfl, Nat.le_refl _, fun _ _ _ => rfl⟩

set_option maxHeartbeats 2000000 in
theorem divstep_any (g off co : Nat) (zs : List Nat) (b1 o1 cb : Nat) (ys : List Nat) (w : World) (hblk : Blk 33 w g zs) (lz : Lim zs) (hb : Rd w (some ⟨b1, o1, none⟩) cb ys) (hsep : b1 ≠ g)
    (hn2 : 2 ≤ ys.length) (hlen : off + ys.length + 1 ≤ zs.length) (hbig : zs.length ≤ 2000000000) (hco : ys.length + 1 ≤ co) (hco2 : co ≤ 9223372036854775807) (hv1 : 2147483648 ≤ ys.getD (ys.length - 1) 0)
    (hlt : Sv (fun i => zs.getD (off + i) 0) (ys.length + 1) < 4294967296 * V ys) :
    Calls Tryd.prog 54 #[.slice (some ⟨g, off, none⟩) (ys.length + 1) co, .slice (some ⟨b1, o1, none⟩) ys.length cb] w fun e w' =>
      ∃ (cs : List Nat) (q : Nat), e = .returned (.int .u32 (q : Int)) ∧ q = Sv (fun i => zs.getD (off + i) 0) (ys.length + 1) / V ys ∧ q < 4294967296 ∧ cs.length = zs.length ∧ Lim cs ∧ (∀ i, i < off ∨ off + ys.length + 1 ≤ i → cs.getD i 0 = zs.getD i 0) ∧
        Sv (fun i => cs.getD (off + i) 0) (ys.length + 1) = Sv (fun i => zs.getD (off + i) 0) (ys.length + 1) % V ys ∧ Blk 33 w' g cs ∧ w.grownBy w' (some g) := by
  have ly := hb.lim
  obtain ⟨n, hn⟩ : ∃ n, ys.length = n := ⟨_, rfl⟩
  obtain ⟨m, hm⟩ : ∃ m, n = m + 2 := ⟨n - 2, by omega⟩
  have hV : V ys = Sv (fun i => ys.getD i 0) (m + 2) := by rw [V_Sv, hn, hm]
  have hVlt : V ys < 4294967296 ^ n := by rw [← hn]; exact V_lt ly
  obtain ⟨VL, hVL⟩ : ∃ VL, Sv (fun i => zs.getD (off + i) 0) (ys.length + 1) = VL := ⟨_, rfl⟩
  rw [hVL] at hlt ⊢
  have hVL2 : VL = Sv (fun i => zs.getD (off + i) 0) n + 4294967296 ^ n * zs.getD (off + n) 0 := by rw [← hVL, hn, Sv]
  have hVL3 : Sv (fun i => zs.getD (off + i) 0) (m + 3) = VL := by rw [← hVL, hn, hm]
  have hpos : 0 < V ys := by omega
  have facts := step_facts (f := fun i => zs.getD (off + i) 0) (y := fun i => ys.getD i 0) (m := m) (fun i => lz.getD _) (fun i => ly.getD _) (by rw [hn, hm] at hv1; exact hv1) (by rw [hVL3, ← hV]; exact hlt)
  rw [hVL3, ← hV] at facts
  obtain ⟨f1, f2, f3, f4, f5⟩ := facts
  obtain ⟨q, hq⟩ : ∃ q, VL / V ys = q := ⟨_, rfl⟩
  rw [hq] at f2 f3 f4 f5
  have hrd := hb
  have hsepr : ∀ k o, some (⟨b1, o1, none⟩ : Addr) = some ⟨k, o, none⟩ → ys ≠ [] → k ≠ g := fun k o e _ => by simp at e; rw [← e.1]; exact hsep
  have hg := guess_any g off co n zs b1 o1 cb ys q w hblk lz hb hn (by omega) (by omega) (by omega) (by rw [← hn]; exact hv1) (by rw [hm]; exact f1) f2 (by rw [hm, show m + 2 - 1 = m + 1 by omega, show m + 2 - 2 = m by omega, show off + (m + 2) - 1 = off + (m + 1) by omega, show off + (m + 2) - 2 = off + m by omega]; exact f3) (by rw [hm, show m + 2 - 1 = m + 1 by omega, show m + 2 - 2 = m by omega, show off + (m + 2) - 1 = off + (m + 1) by omega, show off + (m + 2) - 2 = off + m by omega]; exact f4)
  rw [hm, show m + 2 - 1 = m + 1 by omega, show m + 2 - 2 = m by omega, show off + (m + 2) - 1 = off + (m + 1) by omega, show off + (m + 2) - 2 = off + m by omega, ← hm] at hg
  have HF5 : Hid (∀ t, t * (ys.getD m 0 + 4294967296 * ys.getD (m + 1) 0) ≤ zs.getD (off + m) 0 + 4294967296 * zs.getD (off + (m + 1)) 0 + 18446744073709551616 * zs.getD (off + (m + 2)) 0 → t ≤ q + 1) := f5
  have HQ : Hid (VL / V ys = q) := hq
  have HN : Hid (ys.length = n) := hn
  have HVL2 : Hid (VL = Sv (fun i => zs.getD (off + i) 0) n + 4294967296 ^ n * zs.getD (off + n) 0) := hVL2
  have HVlt : Hid (V ys < 4294967296 ^ n) := hVlt
  have HPos : Hid (0 < V ys) := hpos
  have hsm := fun (t : Nat) (w' : World) (hB : Blk 33 w' g zs) (hr : Rd w' (some ⟨b1, o1, none⟩) cb ys) (ht : t < 4294967296) => subm_any g off co zs (some ⟨b1, o1, none⟩) cb ys t w' hB lz hr hsepr ht (by omega) (by omega)
  have ham := fun (cs : List Nat) (w' : World) (hB : Blk 33 w' g cs) (lc : Lim cs) (hr : Rd w' (some ⟨b1, o1, none⟩) cb ys) (hl : cs.length = zs.length) => addm_any g off co cs (some ⟨b1, o1, none⟩) cb ys 1 w' hB lc hr hsepr (by decide) (by omega) (by omega)
  rw [hn] at hsm ham hlen hco hn2 ⊢
  have HM : Hid (n = m + 2) := hm
  clear f1 f2 f3 f4 f5 hq hn hVL2 hVlt hpos hVL3 hVL hV hm hsepr hv1 hlt
  go_enter Tryd.func54, Tryd.ntmps54
  go_wp2_with fail
  refine hg.mono ?_
  rintro e w1 ⟨t, rfl, ht, hqt, hfit, k, hk⟩
  have hth : t ≤ q + 1 := HF5.out t (by rw [← HM.out]; exact hfit)
  have hB1 : Blk 33 w1 g zs := by rw [hk]; exact hblk
  have hr1 : Rd w1 (some ⟨b1, o1, none⟩) cb ys := by rw [hk]; exact hb.below (below_drewN (Below.refl _ _) k)
  have hg1 : w.grownBy w1 (some g) := by rw [hk]; exact grownBy_drewN w k _
  clear hk hfit HF5 hg hb hrd hblk
  go_wp2_with fail
  refine (hsm t w1 hB1 hr1 ht).mono ?_
  rintro e w2 ⟨cs, c, rfl, hc, hcl, lc, hsame, heq, hB2, hg2⟩
  have hr2 : Rd w2 (some ⟨b1, o1, none⟩) cb ys := hr1.other hg2 (fun k o e _ => by simp at e; rw [← e.1]; exact hsep)
  have hg12 := grownBy_trans hg1 hg2
  have HEQ : Hid (Sv (fun i => cs.getD (off + i) 0) n + V ys * t = Sv (fun i => zs.getD (off + i) 0) n + 4294967296 ^ n * c) := heq
  have HSA : Hid (∀ i, i < off ∨ off + n ≤ i → cs.getD i 0 = zs.getD i 0) := hsame
  have HCL : Hid (cs.length = zs.length) := hcl
  obtain ⟨u2, hu2⟩ : ∃ u2, zs.getD (off + n) 0 = u2 := ⟨_, rfl⟩
  have bu2 : u2 < 4294967296 := by rw [← hu2]; exact lz.getD _
  have hcu : cs.getD (off + n) 0 = u2 := by rw [HSA.out (off + n) (by omega), hu2]
  have c2 := hB2.cell (off + n) (by omega)
  have c3 := hB2.frozen (off + n)
  rw [hcu] at c2
  have HU : Hid (zs.getD (off + n) 0 = u2) := hu2
  have HVLu : Hid (VL = Sv (fun i => zs.getD (off + i) 0) n + 4294967296 ^ n * u2) := by have := HVL2.out; rw [hu2] at this; exact this
  clear heq hsame hu2 hcu hB1 hr1 hg1 hg2 HVL2
  by_cases hcc : u2 < c
  · go_wp2_with fail
    refine (ham cs w2 hB2 lc hr2 HCL.out).mono ?_
    rintro e w3 ⟨ds, d, rfl, hd, hdl, ld, hsame2, heq2, hB3, hg3⟩
    have hg13 := grownBy_trans hg12 hg3
    have HDL : Hid (ds.length = cs.length) := hdl
    have hdu : ds.getD (off + n) 0 = u2 := by rw [hsame2 (off + n) (by omega), HSA.out (off + n) (by omega), HU.out]
    have d2 := hB3.cell (off + n) (by omega)
    have d3 := hB3.frozen (off + n)
    rw [hdu] at d2
    have hS1 : Sv (fun i => cs.getD (off + i) 0) n < 4294967296 ^ n := Sv_lt (fun i _ => lc.getD _)
    have hS2 : Sv (fun i => ds.getD (off + i) 0) n < 4294967296 ^ n := Sv_lt (fun i _ => ld.getD _)
    obtain ⟨r1, r2, r3⟩ := step_over (S2 := Sv (fun i => ds.getD (off + i) 0) n) (d := d) HPos.out HVlt.out hS1 hS2 HVLu.out HEQ.out (by rw [heq2, Nat.mul_one]) hcc (by rw [HQ.out]; exact hth)
    rw [HQ.out] at r1
    have HR1 : Hid (t = q + 1) := r1
    have HR3 : Hid (Sv (fun i => ds.getD (off + i) 0) n = VL % V ys) := r3
    have q1 : d ≤ c := by omega
    have q2 : c ≤ u2 + d := by omega
    have q3 : u2 + d ≤ c := by omega
    have q4 : 1 ≤ t := by omega
    have HSD : Hid (∀ i, i < off ∨ off + n ≤ i → ds.getD i 0 = cs.getD i 0) := hsame2
    clear r1 r2 r3 hS1 hS2 heq2 hsame2 hdl hcl hdu c2 c3 ham hsm hth hqt
    go_wp2
    go_ret
    refine ⟨ds.set (off + n) 0, q, ret_u32 (by have := HR1.out; omega), HQ.out.symm, by have := HR1.out; omega, by rw [List.length_set, HDL.out]; exact HCL.out, ld.set _ (by decide), fun i hi => ?_, ?_, hB3.set _ _ _ (by rw [HDL.out, HCL.out]; omega) (by omega), grownBy_setCell hg13 _ _⟩
    · rw [getD_set_ne _ _ _ _ (by omega), HSD.out i (by omega), HSA.out i (by omega)]
    · rw [Sv, getD_set_eq _ _ _ (by rw [HDL.out, HCL.out]; omega), Sv_congr (g := fun i => ds.getD (off + i) 0) (fun i hi => getD_set_ne _ _ _ _ (by omega)), HR3.out]; simp
  · obtain ⟨r1, r2⟩ := step_right HPos.out HVLu.out HEQ.out (by omega) (by rw [HQ.out]; exact hqt)
    rw [HQ.out] at r1
    have HR1 : Hid (t = q) := r1
    have HR2 : Hid (Sv (fun i => cs.getD (off + i) 0) n + 4294967296 ^ n * (u2 - c) = VL % V ys) := r2
    clear r1 r2 hcl ham hsm hth hqt
    go_wp2
    go_ret
    refine ⟨cs.set (off + n) (u2 - c), q, ret_u32 (by have := HR1.out; omega), HQ.out.symm, by have := HR1.out; omega, by rw [List.length_set]; exact HCL.out, lc.set _ (by omega), fun i hi => ?_, ?_, hB2.set _ _ _ (by rw [HCL.out]; omega) (by omega), grownBy_setCell hg12 _ _⟩
    · rw [getD_set_ne _ _ _ _ (by omega), HSA.out i (by omega)]
    · rw [Sv, getD_set_eq _ _ _ (by rw [HCL.out]; omega), Sv_congr (g := fun i => cs.getD (off + i) 0) (fun i hi => getD_set_ne _ _ _ _ (by omega)), HR2.out]

end Go.Proofs.YtefdkajjdaplbabDoor
