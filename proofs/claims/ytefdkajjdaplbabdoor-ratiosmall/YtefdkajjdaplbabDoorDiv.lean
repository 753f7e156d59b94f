/-
  nat.Div: the walk.
-/
import Derived.Test.YtefdkajjdaplbabDoorDivE
import Derived.Test.YtefdkajjdaplbabDoorSub
namespace Go.Proofs.YtefdkajjdaplbabDoor
open Go.RowKit
set_option linter.unusedSimpArgs false
set_option linter.unusedVariables false

/-- What is left; 0, if the divisor is 0. -/
def remN (x y : Nat) : Nat := if y = 0 then 0 else x % y
theorem remN_zero (x : Nat) {y : Nat} (h : y = 0) : remN x y = 0 := by unfold remN; rw [if_pos h]
theorem remN_pos (x : Nat) {y : Nat} (h : 0 < y) : remN x y = x % y := by unfold remN; rw [if_neg (by omega)]

theorem V_one {ys : List Nat} (h : ys.length = 1) : V ys = ys.getD 0 0 := by
  match ys, h with
  | [y], _ => simp [V]

set_option maxHeartbeats 2000000 in
theorem div_any (a : Option Addr) (cap : Nat) (xs : List Nat) (b : Option Addr) (cbp : Nat) (ys : List Nat) (w : World) (ha : Rd w a cap xs) (hb : Rd w b cbp ys) (hla : xs.length ≤ 400000000) (hlb : ys.length ≤ 400000000) :
    Calls Tryd.prog 29 #[.slice a xs.length cap, .slice b ys.length cbp] w fun e w' =>
      ∃ a1 c1 z1 a2 c2 z2, e = .returned (.tuple #[.slice a1 z1.length c1, .slice a2 z2.length c2]) ∧ V z1 = V xs / V ys ∧ V z2 = remN (V xs) (V ys) ∧ Tr z1 ∧ Tr z2 ∧ Res 33 w.heap.size w' a1 c1 z1 ∧ Res 33 w.heap.size w' a2 c2 z2 ∧ Below w.heap.size w w' := by
  have Xr := ha.strip
  have Yr := hb.strip
  have lx := strip_length_le xs
  have ly := strip_length_le ys
  have tX := tr_strip xs
  have tY := tr_strip ys
  go_enter Tryd.func29, Tryd.ntmps29
  go_wp2_with fail
  refine (sig_any a cap xs _ ha).mono ?_
  rintro e w' ⟨rfl, rfl⟩
  go_wp2_with fail
  refine (sig_any b cbp ys _ hb).mono ?_
  rintro e w' ⟨rfl, rfl⟩
  clear ha hb
  have HV : Hid (V (strip xs) = V xs ∧ V (strip ys) = V ys) := ⟨V_strip xs, V_strip ys⟩
  generalize strip xs = X at Xr lx HV tX ⊢
  generalize strip ys = Y at Yr ly HV tY ⊢
  have hx2 := Xr.cap
  have hx1 := Xr.le
  have hy2 := Yr.cap
  have hy1 := Yr.le
  unfold maxLen at hx2 hy2
  by_cases h0 : Y.length = 0
  · have hY0 : V ys = 0 := by rw [← HV.out.2, List.length_eq_zero_iff.1 h0]; rfl
    have HY0 : Hid (V ys = 0) := hY0
    have hq : ((Y.length : Int) == 0) = true := beq_iff_eq.2 (by omega)
    have H0 : Hid (Y.length = 0) := h0
    clear hY0 h0
    go_wp2
    go_ret2
    refine ⟨some ⟨w.heap.size, 0, none⟩, 0, [], some ⟨w.heap.size + 1, 0, none⟩, 0, [], rfl, by rw [HY0.out, Nat.div_zero]; rfl, by rw [remN_zero _ HY0.out]; rfl, tr_nil, tr_nil, ?_, ?_, ?_⟩
    · exact ⟨Lim.nil, (World.ownsRow_made w #[] 0 (Nat.le_refl _) (Nat.zero_le _) rfl).alloc _⟩
    · have := World.ownsRow_made (e := 33) (size := 1) (base := w.heap.size) (w.alloc (.cells #[] 33)) #[] 0 (by simp) (Nat.zero_le _) rfl
      simp at this
      exact ⟨Lim.nil, by simpa using this⟩
    · exact ((Below.refl _ _).alloc (Nat.le_refl _) _).alloc (by simp) _
  · have hq : ((Y.length : Int) == 0) = false := beq_eq_false_iff_ne.2 (by omega)
    have hYpos : 0 < V ys := by
      rw [← HV.out.2]
      rcases Nat.eq_zero_or_pos (V Y) with h | h
      · exact absurd (by rw [eq_nil_of_V tY h]; rfl) h0
      · exact h
    have HYP : Hid (0 < V ys) := hYpos
    clear hYpos
    go_wp2_with fail
    refine (cmp_any _ _ _ _ _ _ _ Xr Yr).mono ?_
    rintro e w1 ⟨rfl, hb1⟩
    rw [HV.out.1, HV.out.2]
    have Xr1 := Xr.below hb1
    have Yr1 := Yr.below hb1
    have hs1 := hb1.size
    clear Xr Yr
    by_cases hlt : V xs < V ys
    · have hc : cmpN (V xs) (V ys) = -1 := by simp [cmpN, hlt]
      rw [hc]
      have HL : Hid (V xs < V ys) := hlt
      clear hc hlt
      go_wp2_with fail
      refine (trim_any _ _ X _ (Xr1.below ((Below.refl _ _).alloc (Nat.le_refl _) _)) (by omega)).mono ?_
      rintro e w2 ⟨a2, c2, rfl, hr2, hb2⟩
      have hba : Below w.heap.size w (w1.alloc (.cells #[] 33)) := hb1.alloc hs1 _
      have hbw : Below w.heap.size w w2 := hba.trans (hb2.mono hba.size)
      have hown : (w1.alloc (.cells #[] 33)).ownsRow w1.heap.size 33 1 (.slice (some ⟨w1.heap.size, 0, none⟩) 0 0) 0 [] := World.ownsRow_made w1 #[] 0 (Nat.le_refl _) (Nat.zero_le _) rfl
      have hR1 : Res 33 w1.heap.size (w1.alloc (.cells #[] 33)) (some ⟨w1.heap.size, 0, none⟩) 0 [] := ⟨Lim.nil, hown⟩
      have hR1' := hR1.below hb2
      go_wp2
      go_ret2
      refine ⟨some ⟨w1.heap.size, 0, none⟩, 0, [], a2, c2, strip X, rfl, ?_, ?_, tr_nil, tr_strip _, hR1'.mono hs1, hr2.mono hba.size, hbw⟩
      · rw [Nat.div_eq_of_lt HL.out]; rfl
      · rw [remN_pos _ HYP.out, Nat.mod_eq_of_lt HL.out, V_strip, HV.out.1]
    · have hc : 0 ≤ cmpN (V xs) (V ys) := by unfold cmpN; rw [if_neg hlt]; split <;> omega
      have HL : Hid (V ys ≤ V xs) := Nat.le_of_not_lt hlt
      generalize cmpN (V xs) (V ys) = cc at hc ⊢
      clear hlt
      by_cases hone : Y.length = 1
      · have hone' : ((Y.length : Int) == 1) = true := beq_iff_eq.2 (by omega)
        obtain ⟨y, hy⟩ : ∃ y, Y.getD 0 0 = y := ⟨_, rfl⟩
        have hVy : V Y = y := by rw [V_one hone, hy]
        have hyb : y < 4294967296 := by rw [← hy]; exact Yr1.lim.getD 0
        have hyp : 1 ≤ y := by have := HYP.out; rw [← HV.out.2, hVy] at this; exact this
        obtain ⟨b1, o1, rfl, hb1lt, hcy⟩ := Yr1.fm.at (Below.refl _ _) 0 (by omega)
        rw [hy] at hcy
        have HVY : Hid (V ys = y) := by show _ = _; rw [← HV.out.2, hVy]
        have H1 : Hid (Y.length = 1) := hone
        have hYl1 : (0 : Int) < (Y.length : Int) := by omega
        clear hone hy hVy h0
        go_wp2_with fail
        refine (trim_any _ _ X _ Xr1 (by omega)).mono ?_
        rintro e w2 ⟨a2, c2, rfl, hr2, hb2⟩
        have hbw2 : Below w.heap.size w w2 := hb1.trans (hb2.mono hs1)
        have hcy2 : w2.cell? ⟨b1, o1 + 0, none⟩ = some (.int .u32 (y : Int)) := (hb2.cell (p := ⟨b1, o1 + 0, none⟩) hb1lt).trans hcy
        have hXs : strip X = X := tX
        rw [hXs] at hr2 ⊢
        have hs2 := hbw2.size
        rcases hr2.blk with h | ⟨g, rfl, hg1, hB2⟩
        · exfalso
          have h1 := HL.out
          rw [← HV.out.1, h] at h1
          have h2 := HYP.out
          have h3 : V [] = 0 := rfl
          omega
        · have hsep : b1 ≠ g := by omega
          clear hcy
          simp only [Nat.add_zero] at hcy2
          go_wp2_with fail
          refine (divl_any g _ X y _ hB2 hr2.lim hyp hyb (by omega)).mono ?_
          rintro e w3 ⟨cs, r, rfl, hr, hcl, lc, heq, hB3, hg3⟩
          have hbw3 : Below w.heap.size w w3 := hbw2.grown hg3 hs2 (fun k hk => by cases hk; omega)
          have hs3 := hbw3.size
          have hcc1 := hr2.rd.cap
          have hcc2 := hr2.rd.le
          have hrd := hB3.rd lc 0 X.length c2 (by omega) hcc2 hcc1
          rw [List.drop_zero, List.take_of_length_le (by omega)] at hrd
          have hdm : V cs = V xs / y ∧ r = V xs % y := by
            rw [← HV.out.1, ← heq]
            exact ⟨by rw [Nat.mul_comm, Nat.add_comm, Nat.add_mul_div_left _ _ (by omega), Nat.div_eq_of_lt hr, Nat.zero_add], by rw [Nat.mul_comm, Nat.add_comm, Nat.add_mul_mod_self_left, Nat.mod_eq_of_lt hr]⟩
          have HDM : Hid (V cs = V xs / y ∧ r = V xs % y) := hdm
          have HCL : Hid (cs.length = X.length) := hcl
          clear hdm heq hcl hcc1 hcc2 hr2
          unfold maxLen at *
          go_wp2_with fail
          refine (trim_n _ _ X.length cs _ HCL.out.symm hrd (by rw [HCL.out]; omega)).mono ?_
          rintro e w4 ⟨a4, c4, rfl, hr4, hb4⟩
          have hbw4 : Below w.heap.size w w4 := hbw3.trans (hb4.mono hs3)
          have hs4 := hbw4.size
          go_wp2_with fail
          refine (of_any r _ (by omega)).mono ?_
          rintro e w5 ⟨a5, c5, z5, rfl, hv5, ht5, hr5, hb5⟩
          have hbw5 : Below w.heap.size w w5 := hbw4.trans (hb5.mono hs4)
          have hr4' := hr4.below hb5
          go_wp2
          go_ret2
          refine ⟨a4, c4, strip cs, a5, c5, z5, rfl, ?_, ?_, tr_strip _, ht5, hr4'.mono hs3, hr5.mono hs4, hbw5⟩
          · rw [V_strip, HDM.out.1, HVY.out]
          · rw [remN_pos _ HYP.out, hv5, HDM.out.2, HVY.out]
      · have hone' : ((Y.length : Int) == 1) = false := beq_eq_false_iff_ne.2 (by omega)
        go_wp2_with fail
        refine (divlong_any _ _ X _ _ Y _ Xr1 Yr1 tX tY (by omega) (by rw [HV.out.1, HV.out.2]; exact HL.out) (by omega) (by omega)).mono ?_
        rintro e w2 ⟨a1, c1, z1, a2, c2, z2, rfl, hv1, hv2, ht1, ht2, hr1, hr2, hb2⟩
        go_wp2
        go_ret2
        refine ⟨a1, c1, z1, a2, c2, z2, rfl, ?_, ?_, ht1, ht2, hr1.mono hs1, hr2.mono hs1, hb1.trans (hb2.mono hs1)⟩
        · rw [hv1, HV.out.1, HV.out.2]
        · rw [remN_pos _ HYP.out, hv2, HV.out.1, HV.out.2]

end Go.Proofs.YtefdkajjdaplbabDoor
