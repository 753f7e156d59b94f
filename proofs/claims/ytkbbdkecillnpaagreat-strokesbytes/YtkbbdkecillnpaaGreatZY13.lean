/-
  nat.Div: the walk.
  nat.gcdSmall, nat.Gcd: the walks.
  ratio.trimmed, isOne, Formed: the walks.
  How long sums, differences and products are.
  Fractions: what a value of type Ratio is in a world, and which rational number it stands for. Nothing here is a walk.
-/
import Derived.Test.YtkbbdkecillnpaaGreatZY12
import Derived.Test.YtkbbdkecillnpaaGreatZY11
import Derived.Deep.LoopGhost
import Derived.Test.YtkbbdkecillnpaaGreatZY10
namespace Go.Proofs.YtkbbdkecillnpaaGreat
open Go.RowKit
set_option linter.unusedSimpArgs false
set_option linter.unusedVariables false

/-- What is left; 0, if the divisor is 0. -/
def remN (x y : Nat) : Nat := if y = 0 then 0 else x % y
theorem remN_zero (x : Nat) {y : Nat} (h : y = 0) : remN x y = 0 := by unfold remN; rw [if_pos h]
theorem remN_pos (x : Nat) {y : Nat} (h : 0 < y) : remN x y = x % y := by unfold remN; rw [if_neg (by omega)]

theorem V_one {ys : List Nat} (h : ys.length = 1) : V ys = ys.getD 0 0 := by
  match ys, h with
  | [y], _ => simp [V]

set_option maxHeartbeats 2000000 in
set_option maxRecDepth 100000 in
theorem div_any (a : Option Addr) (cap : Nat) (xs : List Nat) (b : Option Addr) (cbp : Nat) (ys : List Nat) (w : World) (ha : Rd w a cap xs) (hb : Rd w b cbp ys) (hla : xs.length ≤ 400000000) (hlb : ys.length ≤ 400000000) :
    Calls Tryz.prog 102 #[.slice a xs.length cap, .slice b ys.length cbp] w fun e w' =>
      ∃ a1 c1 z1 a2 c2 z2, e = .returned (.tuple #[.slice a1 z1.length c1, .slice a2 z2.length c2]) ∧ V z1 = V xs / V ys ∧ V z2 = remN (V xs) (V ys) ∧ Tr z1 ∧ Tr z2 ∧ Res 157 w.heap.size w' a1 c1 z1 ∧ Res 157 w.heap.size w' a2 c2 z2 ∧ Below w.heap.size w w' := by
  have Xr := ha.strip
  have Yr := hb.strip
  have lx := strip_length_le xs
  have ly := strip_length_le ys
  have tX := tr_strip xs
  have tY := tr_strip ys
  go_enter Tryz.func102, Tryz.ntmps102
  go_wp2_with fail
  refine (sig_any a cap xs _ ha).mono ?_
  rintro e w' ⟨rfl, rfl⟩
  go_wp2_with fail
  refine (sig_any b cbp ys _ hb).mono ?_
  rintro e w' ⟨rfl, rfl⟩
  clear ha hb
  have HV : Hid (V (strip xs) = V xs ∧ V (strip ys) = V ys) := ⟨V_strip xs, V_strip ys⟩
  generalize strip xs = X at Xr lx HV tX ⊢
  generalize strip ys = Y at Yr ly HV tY ⊢
  have hx2 := Xr.cap
  have hx1 := Xr.le
  have hy2 := Yr.cap
  have hy1 := Yr.le
  unfold maxLen at hx2 hy2
  by_cases h0 : Y.length = 0
  · have hY0 : V ys = 0 := by rw [← HV.out.2, List.length_eq_zero_iff.1 h0]; rfl
    have HY0 : Hid (V ys = 0) := hY0
    have hq : ((Y.length : Int) == 0) = true := beq_iff_eq.2 (by omega)
    have H0 : Hid (Y.length = 0) := h0
    clear hY0 h0
    go_wp2
    go_ret2
    refine ⟨some ⟨w.heap.size, 0, none⟩, 0, [], some ⟨w.heap.size + 1, 0, none⟩, 0, [], rfl, by rw [HY0.out, Nat.div_zero]; rfl, by rw [remN_zero _ HY0.out]; rfl, tr_nil, tr_nil, ?_, ?_, ?_⟩
    · exact ⟨Lim.nil, (World.ownsRow_made w #[] 0 (Nat.le_refl _) (Nat.zero_le _) rfl).alloc _⟩
    · have := World.ownsRow_made (e := 157) (size := 1) (base := w.heap.size) (w.alloc (.cells #[] 157)) #[] 0 (by simp) (Nat.zero_le _) rfl
      simp at this
      exact ⟨Lim.nil, by simpa using this⟩
    · exact ((Below.refl _ _).alloc (Nat.le_refl _) _).alloc (by simp) _
  · have hq : ((Y.length : Int) == 0) = false := beq_eq_false_iff_ne.2 (by omega)
    have hYpos : 0 < V ys := by
      rw [← HV.out.2]
      rcases Nat.eq_zero_or_pos (V Y) with h | h
      · exact absurd (by rw [eq_nil_of_V tY h]; rfl) h0
      · exact h
    have HYP : Hid (0 < V ys) := hYpos
    clear hYpos
    go_wp2_with fail
    refine (cmp_any _ _ _ _ _ _ _ Xr Yr).mono ?_
    rintro e w1 ⟨rfl, hb1⟩
    rw [HV.out.1, HV.out.2]
    have Xr1 := Xr.below hb1
    have Yr1 := Yr.below hb1
    have hs1 := hb1.size
    clear Xr Yr
    by_cases hlt : V xs < V ys
    · have hc : cmpN (V xs) (V ys) = -1 := by simp [cmpN, hlt]
      rw [hc]
      have HL : Hid (V xs < V ys) := hlt
      clear hc hlt
      go_wp2_with fail
      refine (trim_any _ _ X _ (Xr1.below ((Below.refl _ _).alloc (Nat.le_refl _) _)) (by omega)).mono ?_
      rintro e w2 ⟨a2, c2, rfl, hr2, hb2⟩
      have hba : Below w.heap.size w (w1.alloc (.cells #[] 157)) := hb1.alloc hs1 _
      have hbw : Below w.heap.size w w2 := hba.trans (hb2.mono hba.size)
      have hown : (w1.alloc (.cells #[] 157)).ownsRow w1.heap.size 157 1 (.slice (some ⟨w1.heap.size, 0, none⟩) 0 0) 0 [] := World.ownsRow_made w1 #[] 0 (Nat.le_refl _) (Nat.zero_le _) rfl
      have hR1 : Res 157 w1.heap.size (w1.alloc (.cells #[] 157)) (some ⟨w1.heap.size, 0, none⟩) 0 [] := ⟨Lim.nil, hown⟩
      have hR1' := hR1.below hb2
      go_wp2
      go_ret2
      refine ⟨some ⟨w1.heap.size, 0, none⟩, 0, [], a2, c2, strip X, rfl, ?_, ?_, tr_nil, tr_strip _, hR1'.mono hs1, hr2.mono hba.size, hbw⟩
      · rw [Nat.div_eq_of_lt HL.out]; rfl
      · rw [remN_pos _ HYP.out, Nat.mod_eq_of_lt HL.out, V_strip, HV.out.1]
    · have hc : 0 ≤ cmpN (V xs) (V ys) := by unfold cmpN; rw [if_neg hlt]; split <;> omega
      have HL : Hid (V ys ≤ V xs) := Nat.le_of_not_lt hlt
      generalize cmpN (V xs) (V ys) = cc at hc ⊢
      clear hlt
      by_cases hone : Y.length = 1
      · have hone' : ((Y.length : Int) == 1) = true := beq_iff_eq.2 (by omega)
        obtain ⟨y, hy⟩ : ∃ y, Y.getD 0 0 = y := ⟨_, rfl⟩
        have hVy : V Y = y := by rw [V_one hone, hy]
        have hyb : y < 4294967296 := by rw [← hy]; exact Yr1.lim.getD 0
        have hyp : 1 ≤ y := by have := HYP.out; rw [← HV.out.2, hVy] at this; exact this
        obtain ⟨b1, o1, rfl, hb1lt, hcy⟩ := Yr1.fm.at (Below.refl _ _) 0 (by omega)
        rw [hy] at hcy
        have HVY : Hid (V ys = y) := by show _ = _; rw [← HV.out.2, hVy]
        have H1 : Hid (Y.length = 1) := hone
        have hYl1 : (0 : Int) < (Y.length : Int) := by omega
        clear hone hy hVy h0
        go_wp2_with fail
        refine (trim_any _ _ X _ Xr1 (by omega)).mono ?_
        rintro e w2 ⟨a2, c2, rfl, hr2, hb2⟩
        have hbw2 : Below w.heap.size w w2 := hb1.trans (hb2.mono hs1)
        have hcy2 : w2.cell? ⟨b1, o1 + 0, none⟩ = some (.int .u32 (y : Int)) := (hb2.cell (p := ⟨b1, o1 + 0, none⟩) hb1lt).trans hcy
        have hXs : strip X = X := tX
        rw [hXs] at hr2 ⊢
        have hs2 := hbw2.size
        rcases hr2.blk with h | ⟨g, rfl, hg1, hB2⟩
        · exfalso
          have h1 := HL.out
          rw [← HV.out.1, h] at h1
          have h2 := HYP.out
          have h3 : V [] = 0 := rfl
          omega
        · have hsep : b1 ≠ g := by omega
          clear hcy
          simp only [Nat.add_zero] at hcy2
          go_wp2_with fail
          refine (divl_any g _ X y _ hB2 hr2.lim hyp hyb (by omega)).mono ?_
          rintro e w3 ⟨cs, r, rfl, hr, hcl, lc, heq, hB3, hg3⟩
          have hbw3 : Below w.heap.size w w3 := hbw2.grown hg3 hs2 (fun k hk => by cases hk; omega)
          have hs3 := hbw3.size
          have hcc1 := hr2.rd.cap
          have hcc2 := hr2.rd.le
          have hrd := hB3.rd lc 0 X.length c2 (by omega) hcc2 hcc1
          rw [List.drop_zero, List.take_of_length_le (by omega)] at hrd
          have hdm : V cs = V xs / y ∧ r = V xs % y := by
            rw [← HV.out.1, ← heq]
            exact ⟨by rw [Nat.mul_comm, Nat.add_comm, Nat.add_mul_div_left _ _ (by omega), Nat.div_eq_of_lt hr, Nat.zero_add], by rw [Nat.mul_comm, Nat.add_comm, Nat.add_mul_mod_self_left, Nat.mod_eq_of_lt hr]⟩
          have HDM : Hid (V cs = V xs / y ∧ r = V xs % y) := hdm
          have HCL : Hid (cs.length = X.length) := hcl
          clear hdm heq hcl hcc1 hcc2 hr2
          unfold maxLen at *
          go_wp2_with fail
          refine (trim_n _ _ X.length cs _ HCL.out.symm hrd (by rw [HCL.out]; omega)).mono ?_
          rintro e w4 ⟨a4, c4, rfl, hr4, hb4⟩
          have hbw4 : Below w.heap.size w w4 := hbw3.trans (hb4.mono hs3)
          have hs4 := hbw4.size
          go_wp2_with fail
          refine (of_any r _ (by omega)).mono ?_
          rintro e w5 ⟨a5, c5, z5, rfl, hv5, ht5, hr5, hb5⟩
          have hbw5 : Below w.heap.size w w5 := hbw4.trans (hb5.mono hs4)
          have hr4' := hr4.below hb5
          go_wp2
          go_ret2
          refine ⟨a4, c4, strip cs, a5, c5, z5, rfl, ?_, ?_, tr_strip _, ht5, hr4'.mono hs3, hr5.mono hs4, hbw5⟩
          · rw [V_strip, HDM.out.1, HVY.out]
          · rw [remN_pos _ HYP.out, hv5, HDM.out.2, HVY.out]
      · have hone' : ((Y.length : Int) == 1) = false := beq_eq_false_iff_ne.2 (by omega)
        go_wp2_with fail
        refine (divlong_any _ _ X _ _ Y _ Xr1 Yr1 tX tY (by omega) (by rw [HV.out.1, HV.out.2]; exact HL.out) (by omega) (by omega)).mono ?_
        rintro e w2 ⟨a1, c1, z1, a2, c2, z2, rfl, hv1, hv2, ht1, ht2, hr1, hr2, hb2⟩
        go_wp2
        go_ret2
        refine ⟨a1, c1, z1, a2, c2, z2, rfl, ?_, ?_, ht1, ht2, hr1.mono hs1, hr2.mono hs1, hb1.trans (hb2.mono hs1)⟩
        · rw [hv1, HV.out.1, HV.out.2]
        · rw [remN_pos _ HYP.out, hv2, HV.out.1, HV.out.2]

end Go.Proofs.YtkbbdkecillnpaaGreat

namespace Go.Proofs.YtkbbdkecillnpaaGreat
open Go.RowKit
set_option linter.unusedSimpArgs false
set_option linter.unusedVariables false

theorem gcd_step (x y : Nat) : Nat.gcd y (x % y) = Nat.gcd x y := by
  rw [Nat.gcd_comm x y, Nat.gcd_rec y x, Nat.gcd_comm]

theorem ret_u64 {a b : Int} (h : a = b) : Ending.returned (.int .u64 a) = .returned (.int .u64 b) := by rw [h]

set_option maxHeartbeats 800000 in
set_option maxRecDepth 100000 in
theorem gcds_any (x y : Nat) (w : World) (hx : x < 18446744073709551616) (hy : y < 18446744073709551616) :
    Calls Tryz.prog 134 #[.int .u64 (x : Int), .int .u64 (y : Int)] w fun e w' => e = .returned (.int .u64 (Nat.gcd x y : Nat)) ∧ Below w.heap.size w w' := by
  go_enter Tryz.func134, Tryz.ntmps134
  go_wp2
  go_loopw [0, 1] (fun a b wr => ∃ p q : Nat, a = .int .u64 p ∧ b = .int .u64 q ∧ p < 18446744073709551616 ∧ q < 18446744073709551616 ∧ Nat.gcd p q = Nat.gcd x y ∧ Below w.heap.size w wr) (fun _ b _ => (intOf b).toNat)
  case atStart => exact ⟨x, y, rfl, rfl, hx, hy, rfl, Below.refl _ _⟩
  case round =>
    obtain ⟨p, q, rfl, rfl, hp, hq, hg, hnx⟩ := hrel
    have HG : Hid (Nat.gcd p q = Nat.gcd x y) := hg
    clear hg
    by_cases hq0 : q = 0
    · subst hq0
      go_wp2
      go_ret
      refine ⟨ret_u64 ?_, hnx⟩
      rw [← HG.out, Nat.gcd_zero_right]
    · have hne : ((q : Int) != 0) = true := by rw [bne_iff_ne]; omega
      have hq1 : (1 : Int) ≤ (q : Int) := by omega
      have hq2 : (0 : Int) ≤ (p : Int) := by omega
      obtain ⟨r, hr⟩ : ∃ r, p % q = r := ⟨_, rfl⟩
      have hri : (p : Int) % (q : Int) = (r : Int) := by rw [← hr]; simp
      have hrb : r < q := by rw [← hr]; exact Nat.mod_lt _ (by omega)
      have HG2 : Hid (Nat.gcd q r = Nat.gcd x y) := by show _ = _; rw [← hr, gcd_step]; exact HG.out
      have HRI : Hid ((p : Int) % (q : Int) = (r : Int)) := hri
      clear hr
      go_wp2_with fail
      go_quiet (fail)
      go_wp2
      go_roundw
      case rel => exact ⟨q, r, rfl, congrArg (Value.int .u64) (by first | rfl | exact HRI.out), hq, by omega, HG2.out, below_drewN hnx _⟩
      case measure => first | (simp [intOf]; omega) | (have := HRI.out; simp [intOf]; omega)

set_option maxHeartbeats 2000000 in
set_option maxRecDepth 100000 in
theorem gcd_any (a : Option Addr) (cap : Nat) (xs : List Nat) (b : Option Addr) (cbp : Nat) (ys : List Nat) (w : World) (ha : Rd w a cap xs) (hb : Rd w b cbp ys) (hla : xs.length ≤ 400000000) (hlb : ys.length ≤ 400000000) :
    Calls Tryz.prog 109 #[.slice a xs.length cap, .slice b ys.length cbp] w fun e w' =>
      ∃ a' cap' zs, e = .returned (.slice a' zs.length cap') ∧ V zs = Nat.gcd (V xs) (V ys) ∧ Tr zs ∧ Res 157 w.heap.size w' a' cap' zs ∧ Below w.heap.size w w' := by
  go_enter Tryz.func109, Tryz.ntmps109
  go_wp2
  go_loopg [0, 1] (V ys) (fun k p q wr => ∃ (aA : Option Addr) (cA : Nat) (X : List Nat) (aB : Option Addr) (cB : Nat) (Y : List Nat), p = .slice aA X.length cA ∧ q = .slice aB Y.length cB ∧ X.length ≤ 400000000 ∧ Y.length ≤ 400000000 ∧ V Y = k ∧ Rd wr aA cA X ∧ Rd wr aB cB Y ∧ Nat.gcd (V X) (V Y) = Nat.gcd (V xs) (V ys) ∧ Below w.heap.size w wr)
  case atStart => exact ⟨a, cap, xs, b, cbp, ys, rfl, rfl, hla, hlb, rfl, ha, hb, rfl, Below.refl _ _⟩
  case round =>
    obtain ⟨aA, cA, X, aB, cB, Y, rfl, rfl, hX, hY, hk, rX, rY, hg, hnx⟩ := hrel
    have HG : Hid (Nat.gcd (V X) (V Y) = Nat.gcd (V xs) (V ys)) := hg
    have HK : Hid (V Y = gk) := hk
    have hsz := hnx.size
    clear hg hk
    go_wp2_with fail
    refine (small_any _ _ _ _ rX).mono ?_
    rintro e w' ⟨rfl, rfl⟩
    go_wp2_with fail
    refine (small_any _ _ _ _ rY).mono ?_
    rintro e w' ⟨rfl, rfl⟩
    by_cases hsY : V Y < 18446744073709551616
    · rw [smallN_lt hsY, isSmall_lt hsY]
      by_cases hsX : V X < 18446744073709551616
      · rw [smallN_lt hsX, isSmall_lt hsX]
        obtain ⟨vx, hvx⟩ : ∃ vx, V X = vx := ⟨_, rfl⟩
        obtain ⟨vy, hvy⟩ : ∃ vy, V Y = vy := ⟨_, rfl⟩
        rw [hvx, hvy]
        rw [hvx] at hsX
        rw [hvy] at hsY
        have HG2 : Hid (Nat.gcd vx vy = Nat.gcd (V xs) (V ys)) := by show _ = _; rw [← hvx, ← hvy]; exact HG.out
        clear hvx hvy HG
        go_wp2_with fail
        refine (gcds_any vx vy _ hsX hsY).mono ?_
        rintro e v1 ⟨rfl, hv1⟩
        have hgb : Nat.gcd vx vy < 18446744073709551616 := by
          rcases Nat.eq_zero_or_pos vx with h0 | h0
          · rw [h0, Nat.gcd_zero_left]; exact hsY
          · exact Nat.lt_of_le_of_lt (Nat.gcd_le_left _ h0) hsX
        have hb1 : Below w.heap.size w v1 := hnx.trans (hv1.mono hsz)
        obtain ⟨gg, hgg⟩ : ∃ gg, Nat.gcd vx vy = gg := ⟨_, rfl⟩
        rw [hgg] at hgb ⊢
        have HGG : Hid (gg = Nat.gcd (V xs) (V ys)) := by show _ = _; rw [← hgg]; exact HG2.out
        clear hgg HG2
        go_wp2_with fail
        refine (of_any gg _ hgb).mono ?_
        rintro e v2 ⟨a2, c2, z2, rfl, hz2, ht2, hr2, hb2⟩
        go_wp2
        go_ret
        exact ⟨a2, c2, z2, rfl, by rw [hz2]; exact HGG.out, ht2, hr2.mono hb1.size, hb1.trans (hb2.mono hb1.size)⟩
      · rw [smallN_ge hsX, isSmall_ge hsX]
        by_cases hy0 : V Y = 0
        · rw [hy0]
          have HY0 : Hid (V Y = 0) := hy0
          clear hy0 hsY hsX
          go_wp2_with fail
          refine (trim_any _ _ _ _ rX (by omega)).mono ?_
          rintro e v1 ⟨a1, c1, rfl, hr1, hb1⟩
          go_wp2
          go_ret
          refine ⟨a1, c1, strip X, rfl, ?_, tr_strip _, hr1.mono hsz, hnx.trans (hb1.mono hsz)⟩
          rw [V_strip, ← HG.out, HY0.out, Nat.gcd_zero_right]
        · obtain ⟨vy, hvy⟩ : ∃ vy, V Y = vy := ⟨_, rfl⟩
          rw [hvy] at hy0 hsY ⊢
          have hyb : ((vy : Int) == 0) = false := beq_eq_false_iff_ne.2 (by omega)
          have HVY : Hid (V Y = vy) := hvy
          clear hvy hsX
          go_wp2_with fail
          refine (div_any _ _ _ _ _ _ _ rX rY hX hY).mono ?_
          rintro e v1 ⟨a1, c1, z1, a2, c2, z2, rfl, hv1, hv2, ht1, ht2, hr1, hr2, hb1⟩
          have hpos : 0 < V Y := by rw [HVY.out]; omega
          rw [remN_pos _ hpos] at hv2
          have hlt : V z2 < V Y := by rw [hv2]; exact Nat.mod_lt _ hpos
          have HLT : Hid (V z2 < gk) := by show _ < _; rw [← HK.out]; exact hlt
          have hl2 : z2.length ≤ Y.length := by
            rcases Nat.lt_or_ge Y.length z2.length with h | h
            · have := V_lt_of_length rY.lim ht2 h; omega
            · exact h
          have HG2 : Hid (Nat.gcd (V Y) (V z2) = Nat.gcd (V xs) (V ys)) := by show _ = _; rw [hv2, gcd_step]; exact HG.out
          have rY' := rY.below hb1
          have r2 := hr2.rd
          have hbw : Below w.heap.size w v1 := hnx.trans (hb1.mono hsz)
          clear hv1 hv2 hpos hlt hr1 hr2
          go_wp2
          go_roundg (V z2)
          case measure => exact HLT.out
          case rel => exact ⟨aB, cB, Y, a2, c2, z2, rfl, rfl, hY, by omega, rfl, rY', r2, HG2.out, hbw⟩
    · rw [smallN_ge hsY, isSmall_ge hsY]
      have HB : Hid (¬ V Y < 18446744073709551616) := hsY
      clear hsY
      have fin : ∀ (vx : Nat) (bx : Bool), True := fun _ _ => trivial
      generalize smallN (V X) = sx
      generalize isSmall (V X) = ix
      cases ix
      all_goals
        go_wp2_with fail
        refine (div_any _ _ _ _ _ _ _ rX rY hX hY).mono ?_
        rintro e v1 ⟨a1, c1, z1, a2, c2, z2, rfl, hv1, hv2, ht1, ht2, hr1, hr2, hb1⟩
        have hpos : 0 < V Y := by have := HB.out; omega
        rw [remN_pos _ hpos] at hv2
        have hlt : V z2 < V Y := by rw [hv2]; exact Nat.mod_lt _ hpos
        have HLT : Hid (V z2 < gk) := by show _ < _; rw [← HK.out]; exact hlt
        have hl2 : z2.length ≤ Y.length := by
          rcases Nat.lt_or_ge Y.length z2.length with h | h
          · have := V_lt_of_length rY.lim ht2 h; omega
          · exact h
        have HG2 : Hid (Nat.gcd (V Y) (V z2) = Nat.gcd (V xs) (V ys)) := by show _ = _; rw [hv2, gcd_step]; exact HG.out
        have rY' := rY.below hb1
        have r2 := hr2.rd
        have hbw : Below w.heap.size w v1 := hnx.trans (hb1.mono hsz)
        clear hv1 hv2 hpos hlt hr1 hr2
        go_wp2
        go_roundg (V z2)
        case measure => exact HLT.out
        case rel => exact ⟨aB, cB, Y, a2, c2, z2, rfl, rfl, hY, by omega, rfl, rY', r2, HG2.out, hbw⟩

end Go.Proofs.YtkbbdkecillnpaaGreat

namespace Go.Proofs.YtkbbdkecillnpaaGreat
open Go.RowKit Classical
set_option linter.unusedSimpArgs false
set_option linter.unusedVariables false


/-- A fraction that is formed. -/
def Fmd (n : Bool) (xs ys : List Nat) : Prop := Tr xs ∧ Tr ys ∧ ys ≠ [] ∧ ¬ (n = true ∧ xs = []) ∧ Nat.gcd (V xs) (V ys) = 1

theorem tr_iff {xs : List Nat} (h : xs ≠ []) : Tr xs ↔ xs.getD (xs.length - 1) 0 ≠ 0 := by
  refine ⟨fun t => t.last h, fun h0 => ?_⟩
  have hl : 0 < xs.length := List.length_pos_iff.2 h
  have e := strip_take_some xs (xs.length - 1) (by omega) h0
  rw [show xs.length - 1 + 1 = xs.length by omega, List.take_length] at e
  exact e

theorem V_eq_one {xs : List Nat} (l : Lim xs) (t : Tr xs) : V xs = 1 ↔ xs = [1] := by
  refine ⟨fun h => uniq l (by intro x hx; simp at hx; omega) t (by unfold Tr; rfl) (by rw [h]; rfl), fun h => by rw [h]; rfl⟩

set_option maxHeartbeats 400000 in
set_option maxRecDepth 100000 in
theorem trimmed_any (a : Option Addr) (cap : Nat) (xs : List Nat) (w : World) (h : Rd w a cap xs) :
    Calls Tryz.prog 132 #[.slice a xs.length cap] w fun e w' => e = .returned (.bool (decide (Tr xs))) ∧ w = w' := by
  have k1 := h.le
  have k2 := h.cap
  unfold maxLen at k2
  by_cases h0 : xs = []
  · subst h0
    go_enter Tryz.func132, Tryz.ntmps132
    go_wp2
    go_ret
    exact ⟨ret_bool (by simp [tr_nil]), rfl⟩
  · have hl : 0 < xs.length := List.length_pos_iff.2 h0
    obtain ⟨b, off, rfl, hb, hc⟩ := h.fm.at (Below.refl _ _) (xs.length - 1) (by omega)
    obtain ⟨m, hm⟩ : ∃ m, xs.length = m + 1 := ⟨xs.length - 1, by omega⟩
    have ht := tr_iff h0
    rw [hm] at ht hc k1 ⊢
    simp only [Nat.add_sub_cancel] at ht hc
    generalize xs.getD m 0 = z at ht hc
    clear h hl hm
    have g1 : ((m : Int) + 1 == 0) = false := beq_eq_false_iff_ne.2 (by omega)
    have g2 : ((z : Int) != 0) = decide (Tr xs) := by
      by_cases hz : z = 0
      · subst hz; simp [ht]
      · simp [ht, hz]
    go_enter Tryz.func132, Tryz.ntmps132
    go_wp2
    go_ret
    exact ⟨ret_bool (by simp [g1, ht]; try omega), rfl⟩

set_option maxHeartbeats 400000 in
set_option maxRecDepth 100000 in
theorem isOne_any (a : Option Addr) (cap : Nat) (xs : List Nat) (w : World) (h : Rd w a cap xs) :
    Calls Tryz.prog 133 #[.slice a xs.length cap] w fun e w' => e = .returned (.bool (decide (xs = [1]))) ∧ w = w' := by
  have k1 := h.le
  have k2 := h.cap
  unfold maxLen at k2
  by_cases h0 : xs.length = 1
  · match xs, h0 with
    | [z], _ =>
      obtain ⟨b, off, rfl, hb, hc⟩ := h.fm.at (Below.refl _ _) 0 (by simp)
      simp at hc
      clear h h0
      simp only [List.length_cons, List.length_nil]
      go_enter Tryz.func133, Tryz.ntmps133
      go_wp2
      go_ret
      exact ⟨ret_bool (by by_cases hz : z = 1 <;> simp [hz]; omega), rfl⟩
  · have hx : xs ≠ [1] := by intro e; rw [e] at h0; simp at h0
    have g1 : ((xs.length : Int) == 1) = false := beq_eq_false_iff_ne.2 (by omega)
    generalize xs.length = m at *
    go_enter Tryz.func133, Tryz.ntmps133
    go_wp2
    go_ret
    exact ⟨ret_bool (by simp [hx, h0]; try omega), rfl⟩

set_option maxHeartbeats 1000000 in
set_option maxRecDepth 100000 in
theorem formed_any (n : Bool) (a : Option Addr) (c : Nat) (xs : List Nat) (a' : Option Addr) (c' : Nat) (ys : List Nat) (w : World) (hx : Rd w a c xs) (hy : Rd w a' c' ys) (lx : xs.length ≤ 400000000) (ly : ys.length ≤ 400000000) :
    Calls Tryz.prog 108 #[.agg #[.bool n, .slice a xs.length c, .slice a' ys.length c']] w fun e w' => e = .returned (.bool (decide (Fmd n xs ys))) ∧ Below w.heap.size w w' := by
  go_enter Tryz.func108, Tryz.ntmps108
  go_wp2_with fail
  refine (trimmed_any _ _ _ _ (hx.below ((Below.refl _ _).alloc (Nat.le_refl _) _))).mono ?_
  rintro e u ⟨rfl, rfl⟩
  by_cases tx : Tr xs
  · have e1 : decide (Tr xs) = true := decide_eq_true tx
    rw [e1]
    clear e1
    go_wp2_with fail
    refine (trimmed_any _ _ _ _ (hy.below ((Below.refl _ _).alloc (Nat.le_refl _) _))).mono ?_
    rintro e u ⟨rfl, rfl⟩
    by_cases ty : Tr ys
    · have e1 : decide (Tr ys) = true := decide_eq_true ty
      rw [e1]
      clear e1
      by_cases hy0 : ys = []
      · subst hy0
        go_wp2
        go_ret
        exact ⟨ret_bool (by simp [Fmd]), (Below.refl _ _).alloc (Nat.le_refl _) _⟩
      · have hyl : 0 < ys.length := List.length_pos_iff.2 hy0
        have g1 : ((ys.length : Int) == 0) = false := beq_eq_false_iff_ne.2 (by omega)
        have key : (n = true ∧ xs = []) ∨ ((n = true → xs.length ≠ 0)) := by
          by_cases h1 : n = true ∧ xs = []
          · exact .inl h1
          · exact .inr fun hn h2 => h1 ⟨hn, List.length_eq_zero_iff.1 h2⟩
        rcases key with ⟨rfl, rfl⟩ | h1
        · go_wp2
          go_ret
          exact ⟨ret_bool (by simp [Fmd]), (Below.refl _ _).alloc (Nat.le_refl _) _⟩
        · have fin : ∀ (W : World), Below w.heap.size w W → ∀ a1 c1 (zs : List Nat), Rd W a1 c1 zs → V zs = Nat.gcd (V xs) (V ys) → Tr zs →
              Calls Tryz.prog 133 #[.slice a1 zs.length c1] W fun e w' => e = .returned (.bool (decide (Fmd n xs ys))) ∧ Below w.heap.size w w' := by
            intro W hb a1 c1 zs hr hv ht
            refine (isOne_any _ _ _ _ hr).mono ?_
            rintro e u ⟨rfl, rfl⟩
            refine ⟨ret_bool ?_, hb⟩
            have hiff : zs = [1] ↔ Fmd n xs ys := by
              rw [← V_eq_one hr.lim ht, hv]
              refine ⟨fun h => ⟨tx, ty, hy0, fun ⟨hn, hx0⟩ => h1 hn (by rw [hx0]; rfl), h⟩, fun h => h.2.2.2.2⟩
            by_cases hz : zs = [1] <;> simp [hz, ← hiff]
          cases n with
          | false =>
            go_wp2_with fail
            refine (gcd_any _ _ _ _ _ _ _ (hx.below ((Below.refl _ _).alloc (Nat.le_refl _) _)) (hy.below ((Below.refl _ _).alloc (Nat.le_refl _) _)) lx ly).mono ?_
            rintro e u ⟨a1, c1, zs, rfl, hv, ht, hr, hb⟩
            have hb' : Below w.heap.size w u := ((Below.refl _ _).alloc (Nat.le_refl _) _).trans (hb.mono (by simp))
            go_wp2_with fail
            refine (fin _ hb' _ _ _ hr.rd hv ht).mono ?_
            rintro e u2 ⟨rfl, hb2⟩
            go_wp2
            go_ret
            exact ⟨rfl, hb2⟩
          | true =>
            have g2 : ((xs.length : Int) == 0) = false := beq_eq_false_iff_ne.2 (by have := h1 rfl; omega)
            go_wp2_with fail
            refine (gcd_any _ _ _ _ _ _ _ (hx.below ((Below.refl _ _).alloc (Nat.le_refl _) _)) (hy.below ((Below.refl _ _).alloc (Nat.le_refl _) _)) lx ly).mono ?_
            rintro e u ⟨a1, c1, zs, rfl, hv, ht, hr, hb⟩
            have hb' : Below w.heap.size w u := ((Below.refl _ _).alloc (Nat.le_refl _) _).trans (hb.mono (by simp))
            go_wp2_with fail
            refine (fin _ hb' _ _ _ hr.rd hv ht).mono ?_
            rintro e u2 ⟨rfl, hb2⟩
            go_wp2
            go_ret
            exact ⟨rfl, hb2⟩
    · have e1 : decide (Tr ys) = false := decide_eq_false ty
      rw [e1]
      go_wp2
      go_ret
      exact ⟨ret_bool (by simp [Fmd, ty]), (Below.refl _ _).alloc (Nat.le_refl _) _⟩
  · have e1 : decide (Tr xs) = false := decide_eq_false tx
    rw [e1]
    go_wp2
    go_ret
    exact ⟨ret_bool (by simp [Fmd, tx]), (Below.refl _ _).alloc (Nat.le_refl _) _⟩

end Go.Proofs.YtkbbdkecillnpaaGreat

namespace Go.Proofs.YtkbbdkecillnpaaGreat
set_option linter.unusedSimpArgs false
set_option linter.unusedVariables false

theorem V_bd {xs : List Nat} {n : Nat} (l : Lim xs) (h : xs.length ≤ n) : V xs < 4294967296 ^ n :=
  Nat.lt_of_lt_of_le (V_lt l) (Nat.pow_le_pow_right (by decide) h)

theorem add_len {zs xs ys : List Nat} {n : Nat} (ht : Tr zs) (hv : V zs = V xs + V ys) (lx : Lim xs) (ly : Lim ys) (hx : xs.length ≤ n) (hy : ys.length ≤ n) : zs.length ≤ n + 1 := by
  refine len_le_of_V ht ?_
  have h1 := V_bd lx hx
  have h2 := V_bd ly hy
  rw [Nat.pow_succ]; omega

theorem mul_len {zs xs ys : List Nat} {n m : Nat} (ht : Tr zs) (hv : V zs = V xs * V ys) (lx : Lim xs) (ly : Lim ys) (hx : xs.length ≤ n) (hy : ys.length ≤ m) : zs.length ≤ n + m := by
  refine len_le_of_V ht ?_
  rw [hv, Nat.pow_add]
  exact Nat.mul_lt_mul'' (V_bd lx hx) (V_bd ly hy)

theorem sub_len {zs xs ys : List Nat} {n : Nat} (ht : Tr zs) (hv : V zs = V xs - V ys) (lx : Lim xs) (hx : xs.length ≤ n) : zs.length ≤ n := by
  refine len_le_of_V ht ?_
  have h1 := V_bd lx hx
  omega

theorem cmpN_eq {x y : Nat} (h : x = y) : cmpN x y = 0 := by subst h; simp [cmpN]

end Go.Proofs.YtkbbdkecillnpaaGreat

namespace Go.Proofs.YtkbbdkecillnpaaGreat
open Go.RowKit Classical
set_option linter.unusedSimpArgs false
set_option linter.unusedVariables false

/-- A size with a sign. -/
def sg (n : Bool) (k : Nat) : Int := if n = true then -(k : Int) else (k : Int)

/-- The number that a sign, a numerator and a denominator stand for. -/
def qv (n : Bool) (xs ys : List Nat) : Rat := mkRat (sg n (V xs)) (V ys)

/-- A value of type Ratio, read in a world. -/
def Rt (w : World) (v : Value) (n : Bool) (xs ys : List Nat) : Prop :=
  ∃ a c a' c', v = .agg #[.bool n, .slice a xs.length c, .slice a' ys.length c'] ∧ Rd w a c xs ∧ Rd w a' c' ys

/-- Formed; lists of at most k limbs; it stands for q. -/
def Fr (w : World) (v : Value) (k : Nat) (q : Rat) : Prop := ∃ n xs ys, Rt w v n xs ys ∧ Fmd n xs ys ∧ xs.length ≤ k ∧ ys.length ≤ k ∧ qv n xs ys = q

/-- Whatever came in: it counts as q. -/
def Ct (w : World) (v : Value) (k : Nat) (q : Rat) : Prop := ∃ n xs ys, Rt w v n xs ys ∧ xs.length ≤ k ∧ ys.length ≤ k ∧ q = if Fmd n xs ys then qv n xs ys else 0

/-- Not reduced yet. -/
def Lo (w : World) (v : Value) (k : Nat) (q : Rat) : Prop := ∃ n xs ys, Rt w v n xs ys ∧ Tr xs ∧ Tr ys ∧ V ys ≠ 0 ∧ xs.length ≤ k ∧ ys.length ≤ k ∧ qv n xs ys = q

theorem Rt.below {w w' : World} {v : Value} {n : Bool} {xs ys : List Nat} (h : Rt w v n xs ys) (hb : Below w.heap.size w w') : Rt w' v n xs ys := by
  obtain ⟨a, c, a', c', rfl, h1, h2⟩ := h
  exact ⟨a, c, a', c', rfl, h1.below hb, h2.below hb⟩
theorem Fr.below {w w' : World} {v : Value} {k : Nat} {q : Rat} (h : Fr w v k q) (hb : Below w.heap.size w w') : Fr w' v k q := by
  obtain ⟨n, xs, ys, h1, h2⟩ := h
  exact ⟨n, xs, ys, h1.below hb, h2⟩
theorem Ct.below {w w' : World} {v : Value} {k : Nat} {q : Rat} (h : Ct w v k q) (hb : Below w.heap.size w w') : Ct w' v k q := by
  obtain ⟨n, xs, ys, h1, h2⟩ := h
  exact ⟨n, xs, ys, h1.below hb, h2⟩
theorem Lo.below {w w' : World} {v : Value} {k : Nat} {q : Rat} (h : Lo w v k q) (hb : Below w.heap.size w w') : Lo w' v k q := by
  obtain ⟨n, xs, ys, h1, h2⟩ := h
  exact ⟨n, xs, ys, h1.below hb, h2⟩

theorem V_ne_of {ys : List Nat} (t : Tr ys) (h : ys ≠ []) : V ys ≠ 0 := fun h0 => h (eq_nil_of_V t h0)
theorem Fmd.den {n : Bool} {xs ys : List Nat} (h : Fmd n xs ys) : V ys ≠ 0 := V_ne_of h.2.1 h.2.2.1
theorem Fmd.neg {n : Bool} {xs ys : List Nat} (h : Fmd n xs ys) (hn : n = true) : V xs ≠ 0 := V_ne_of h.1 fun h0 => h.2.2.2.1 ⟨hn, h0⟩

theorem Fr.lo {w : World} {v : Value} {k : Nat} {q : Rat} (h : Fr w v k q) : Lo w v k q := by
  obtain ⟨n, xs, ys, h1, h2, h3⟩ := h
  exact ⟨n, xs, ys, h1, h2.1, h2.2.1, h2.den, h3⟩
theorem Fr.ct {w : World} {v : Value} {k : Nat} {q : Rat} (h : Fr w v k q) : Ct w v k q := by
  obtain ⟨n, xs, ys, h1, h2, h3, h4, h5⟩ := h
  exact ⟨n, xs, ys, h1, h3, h4, by rw [if_pos h2, h5]⟩
theorem Fr.le {w : World} {v : Value} {k k' : Nat} {q : Rat} (h : Fr w v k q) (hk : k ≤ k') : Fr w v k' q := by
  obtain ⟨n, xs, ys, h1, h2, h3, h4, h5⟩ := h
  exact ⟨n, xs, ys, h1, h2, by omega, by omega, h5⟩
theorem Fr.eq {w : World} {v : Value} {k : Nat} {q r : Rat} (h : Fr w v k q) (e : q = r) : Fr w v k r := e ▸ h
theorem Lo.eq {w : World} {v : Value} {k : Nat} {q r : Rat} (h : Lo w v k q) (e : q = r) : Lo w v k r := e ▸ h

theorem sg_natAbs (n : Bool) (k : Nat) : (sg n k).natAbs = k := by unfold sg; split <;> simp
theorem sg_zero (n : Bool) : sg n 0 = 0 := by unfold sg; split <;> rfl

/-- A formed fraction's parts are the number's own. -/
theorem Fmd.parts {n : Bool} {xs ys : List Nat} (h : Fmd n xs ys) : (qv n xs ys).num = sg n (V xs) ∧ (qv n xs ys).den = V ys := by
  have hc : (sg n (V xs)).natAbs.Coprime (V ys) := by rw [sg_natAbs]; exact h.2.2.2.2
  have e := Rat.mk_eq_mkRat (sg n (V xs)) (V ys) h.den hc
  unfold qv
  rw [← e]
  exact ⟨rfl, rfl⟩

theorem sg_inj {n m : Bool} {a b : Nat} (hn : n = true → a ≠ 0) (hm : m = true → b ≠ 0) (h : sg n a = sg m b) : n = m ∧ a = b := by
  have e : a = b := by have := congrArg Int.natAbs h; rwa [sg_natAbs, sg_natAbs] at this
  subst e
  refine ⟨?_, rfl⟩
  cases n <;> cases m <;> simp [sg] at h hn hm ⊢ <;> omega

/-- A formed fraction is told by its number. -/
theorem Fmd.uniq {n m : Bool} {xs ys xs' ys' : List Nat} (h : Fmd n xs ys) (k : Fmd m xs' ys') (lx : Lim xs) (ly : Lim ys) (lx' : Lim xs') (ly' : Lim ys') (e : qv n xs ys = qv m xs' ys') : n = m ∧ xs = xs' ∧ ys = ys' := by
  have e1 : sg n (V xs) = sg m (V xs') := by rw [← h.parts.1, ← k.parts.1, e]
  have e2 : V ys = V ys' := by rw [← h.parts.2, ← k.parts.2, e]
  obtain ⟨e3, e4⟩ := sg_inj h.neg k.neg e1
  exact ⟨e3, Go.Proofs.YtkbbdkecillnpaaGreat.uniq lx lx' h.1 k.1 e4, Go.Proofs.YtkbbdkecillnpaaGreat.uniq ly ly' h.2.1 k.2.1 e2⟩

/-- In lowest terms. -/
theorem fmd_reduced {n : Bool} {xs ys ps qs : List Nat} (hy : V ys ≠ 0) (tp : Tr ps) (tq : Tr qs) (hp : V ps = V xs / Nat.gcd (V xs) (V ys)) (hq : V qs = V ys / Nat.gcd (V xs) (V ys)) :
    Fmd (n && decide (0 < ps.length)) ps qs ∧ qv (n && decide (0 < ps.length)) ps qs = qv n xs ys := by
  have g0 : 0 < Nat.gcd (V xs) (V ys) := Nat.gcd_pos_of_pos_right _ (by omega)
  generalize hg : Nat.gcd (V xs) (V ys) = g at *
  have d1 : g ∣ V xs := hg ▸ Nat.gcd_dvd_left _ _
  have d2 : g ∣ V ys := hg ▸ Nat.gcd_dvd_right _ _
  obtain ⟨x, hx⟩ := d1
  obtain ⟨y, hyy⟩ := d2
  rw [hx, Nat.mul_div_cancel_left _ g0] at hp
  rw [hyy, Nat.mul_div_cancel_left _ g0] at hq
  have hy0 : y ≠ 0 := by rintro rfl; simp at hyy; exact hy hyy
  have hco : Nat.gcd x y = 1 := by
    have h1 := hg
    rw [hx, hyy, Nat.gcd_mul_left] at h1
    exact Nat.eq_of_mul_eq_mul_left g0 (by omega)
  have hq0 : qs ≠ [] := by rintro rfl; simp [V] at hq; omega
  have hpl : decide (0 < ps.length) = decide (x ≠ 0) := by
    by_cases h0 : x = 0
    · have : ps = [] := eq_nil_of_V tp (by omega)
      simp [this, h0]
    · have : ps ≠ [] := by rintro rfl; simp [V] at hp; omega
      simp [h0, List.length_pos_iff, this]
  refine ⟨⟨tp, tq, hq0, ?_, by rw [hp, hq]; exact hco⟩, ?_⟩
  · rintro ⟨h1, rfl⟩
    simp at h1
  · rw [hpl]
    unfold qv
    rw [hp, hq, hx, hyy, Rat.mkRat_eq_iff hy0 (by have := Nat.mul_pos g0 (show 0 < y by omega); omega)]
    by_cases h0 : x = 0
    · subst h0; simp [sg_zero]
    · cases n <;> simp [sg, h0] <;> grind

end Go.Proofs.YtkbbdkecillnpaaGreat
