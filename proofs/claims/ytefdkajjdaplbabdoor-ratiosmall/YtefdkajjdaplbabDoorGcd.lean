/-
  nat.gcdSmall, nat.Gcd: the walks.
-/
import Derived.Test.YtefdkajjdaplbabDoorSmall
import Derived.Test.YtefdkajjdaplbabDoorDiv
import Derived.Deep.LoopGhost
namespace Go.Proofs.YtefdkajjdaplbabDoor
open Go.RowKit
set_option linter.unusedSimpArgs false
set_option linter.unusedVariables false

theorem gcd_step (x y : Nat) : Nat.gcd y (x % y) = Nat.gcd x y := by
  rw [Nat.gcd_comm x y, Nat.gcd_rec y x, Nat.gcd_comm]

theorem ret_u64 {a b : Int} (h : a = b) : Ending.returned (.int .u64 a) = .returned (.int .u64 b) := by rw [h]

set_option maxHeartbeats 800000 in
theorem gcds_any (x y : Nat) (w : World) (hx : x < 18446744073709551616) (hy : y < 18446744073709551616) :
    Calls Tryd.prog 42 #[.int .u64 (x : Int), .int .u64 (y : Int)] w fun e w' => e = .returned (.int .u64 (Nat.gcd x y : Nat)) ∧ Below w.heap.size w w' := by
  go_enter Tryd.func42, Tryd.ntmps42
  go_wp2
  go_loopw [0, 1] (fun a b wr => ∃ p q : Nat, a = .int .u64 p ∧ b = .int .u64 q ∧ p < 18446744073709551616 ∧ q < 18446744073709551616 ∧ Nat.gcd p q = Nat.gcd x y ∧ Below w.heap.size w wr) (fun _ b _ => (intOf b).toNat)
  case atStart => exact ⟨x, y, rfl, rfl, hx, hy, rfl, Below.refl _ _⟩
  case round =>
    obtain ⟨p, q, rfl, rfl, hp, hq, hg, hnx⟩ := hrel
    have HG : Hid (Nat.gcd p q = Nat.gcd x y) := hg
    clear hg
    by_cases hq0 : q = 0
    · subst hq0
      go_wp2
      go_ret
      refine ⟨ret_u64 ?_, hnx⟩
      rw [← HG.out, Nat.gcd_zero_right]
    · have hne : ((q : Int) != 0) = true := by rw [bne_iff_ne]; omega
      have hq1 : (1 : Int) ≤ (q : Int) := by omega
      have hq2 : (0 : Int) ≤ (p : Int) := by omega
      obtain ⟨r, hr⟩ : ∃ r, p % q = r := ⟨_, rfl⟩
      have hri : (p : Int) % (q : Int) = (r : Int) := by rw [← hr]; simp
      have hrb : r < q := by rw [← hr]; exact Nat.mod_lt _ (by omega)
      have HG2 : Hid (Nat.gcd q r = Nat.gcd x y) := by show _ = _; rw [← hr, gcd_step]; exact HG.out
      have HRI : Hid ((p : Int) % (q : Int) = (r : Int)) := hri
      clear hr
      go_wp2_with fail
      go_quiet (fail)
      go_wp2
      go_roundw
      case rel => exact ⟨q, r, rfl, congrArg (Value.int .u64) (by first | rfl | exact HRI.out), hq, by omega, HG2.out, below_drewN hnx _⟩
      case measure => first | (simp [intOf]; omega) | (have := HRI.out; simp [intOf]; omega)

set_option maxHeartbeats 2000000 in
theorem gcd_any (a : Option Addr) (cap : Nat) (xs : List Nat) (b : Option Addr) (cbp : Nat) (ys : List Nat) (w : World) (ha : Rd w a cap xs) (hb : Rd w b cbp ys) (hla : xs.length ≤ 400000000) (hlb : ys.length ≤ 400000000) :
    Calls Tryd.prog 28 #[.slice a xs.length cap, .slice b ys.length cbp] w fun e w' =>
      ∃ a' cap' zs, e = .returned (.slice a' zs.length cap') ∧ V zs = Nat.gcd (V xs) (V ys) ∧ Tr zs ∧ Res 33 w.heap.size w' a' cap' zs ∧ Below w.heap.size w w' := by
  go_enter Tryd.func28, Tryd.ntmps28
  go_wp2
  go_loopg [0, 1] (V ys) (fun k p q wr => ∃ (aA : Option Addr) (cA : Nat) (X : List Nat) (aB : Option Addr) (cB : Nat) (Y : List Nat), p = .slice aA X.length cA ∧ q = .slice aB Y.length cB ∧ X.length ≤ 400000000 ∧ Y.length ≤ 400000000 ∧ V Y = k ∧ Rd wr aA cA X ∧ Rd wr aB cB Y ∧ Nat.gcd (V X) (V Y) = Nat.gcd (V xs) (V ys) ∧ Below w.heap.size w wr)
  case atStart => exact ⟨a, cap, xs, b, cbp, ys, rfl, rfl, hla, hlb, rfl, ha, hb, rfl, Below.refl _ _⟩
  case round =>
    obtain ⟨aA, cA, X, aB, cB, Y, rfl, rfl, hX, hY, hk, rX, rY, hg, hnx⟩ := hrel
    have HG : Hid (Nat.gcd (V X) (V Y) = Nat.gcd (V xs) (V ys)) := hg
    have HK : Hid (V Y = gk) := hk
    have hsz := hnx.size
    clear hg hk
    go_wp2_with fail
    refine (small_any _ _ _ _ rX).mono ?_
    rintro e w' ⟨rfl, rfl⟩
    go_wp2_with fail
    refine (small_any _ _ _ _ rY).mono ?_
    rintro e w' ⟨rfl, rfl⟩
    by_cases hsY : V Y < 18446744073709551616
    · rw [smallN_lt hsY, isSmall_lt hsY]
      by_cases hsX : V X < 18446744073709551616
      · rw [smallN_lt hsX, isSmall_lt hsX]
        obtain ⟨vx, hvx⟩ : ∃ vx, V X = vx := ⟨_, rfl⟩
        obtain ⟨vy, hvy⟩ : ∃ vy, V Y = vy := ⟨_, rfl⟩
        rw [hvx, hvy]
        rw [hvx] at hsX
        rw [hvy] at hsY
        have HG2 : Hid (Nat.gcd vx vy = Nat.gcd (V xs) (V ys)) := by show _ = _; rw [← hvx, ← hvy]; exact HG.out
        clear hvx hvy HG
        go_wp2_with fail
        refine (gcds_any vx vy _ hsX hsY).mono ?_
        rintro e v1 ⟨rfl, hv1⟩
        have hgb : Nat.gcd vx vy < 18446744073709551616 := by
          rcases Nat.eq_zero_or_pos vx with h0 | h0
          · rw [h0, Nat.gcd_zero_left]; exact hsY
          · exact Nat.lt_of_le_of_lt (Nat.gcd_le_left _ h0) hsX
        have hb1 : Below w.heap.size w v1 := hnx.trans (hv1.mono hsz)
        obtain ⟨gg, hgg⟩ : ∃ gg, Nat.gcd vx vy = gg := ⟨_, rfl⟩
        rw [hgg] at hgb ⊢
        have HGG : Hid (gg = Nat.gcd (V xs) (V ys)) := by show _ = _; rw [← hgg]; exact HG2.out
        clear hgg HG2
        go_wp2_with fail
        refine (of_any gg _ hgb).mono ?_
        rintro e v2 ⟨a2, c2, z2, rfl, hz2, ht2, hr2, hb2⟩
        go_wp2
        go_ret
        exact ⟨a2, c2, z2, rfl, by rw [hz2]; exact HGG.out, ht2, hr2.mono hb1.size, hb1.trans (hb2.mono hb1.size)⟩
      · rw [smallN_ge hsX, isSmall_ge hsX]
        by_cases hy0 : V Y = 0
        · rw [hy0]
          have HY0 : Hid (V Y = 0) := hy0
          clear hy0 hsY hsX
          go_wp2_with fail
          refine (trim_any _ _ _ _ rX (by omega)).mono ?_
          rintro e v1 ⟨a1, c1, rfl, hr1, hb1⟩
          go_wp2
          go_ret
          refine ⟨a1, c1, strip X, rfl, ?_, tr_strip _, hr1.mono hsz, hnx.trans (hb1.mono hsz)⟩
          rw [V_strip, ← HG.out, HY0.out, Nat.gcd_zero_right]
        · obtain ⟨vy, hvy⟩ : ∃ vy, V Y = vy := ⟨_, rfl⟩
          rw [hvy] at hy0 hsY ⊢
          have hyb : ((vy : Int) == 0) = false := beq_eq_false_iff_ne.2 (by omega)
          have HVY : Hid (V Y = vy) := hvy
          clear hvy hsX
          go_wp2_with fail
          refine (div_any _ _ _ _ _ _ _ rX rY hX hY).mono ?_
          rintro e v1 ⟨a1, c1, z1, a2, c2, z2, rfl, hv1, hv2, ht1, ht2, hr1, hr2, hb1⟩
          have hpos : 0 < V Y := by rw [HVY.out]; omega
          rw [remN_pos _ hpos] at hv2
          have hlt : V z2 < V Y := by rw [hv2]; exact Nat.mod_lt _ hpos
          have HLT : Hid (V z2 < gk) := by show _ < _; rw [← HK.out]; exact hlt
          have hl2 : z2.length ≤ Y.length := by
            rcases Nat.lt_or_ge Y.length z2.length with h | h
            · have := V_lt_of_length rY.lim ht2 h; omega
            · exact h
          have HG2 : Hid (Nat.gcd (V Y) (V z2) = Nat.gcd (V xs) (V ys)) := by show _ = _; rw [hv2, gcd_step]; exact HG.out
          have rY' := rY.below hb1
          have r2 := hr2.rd
          have hbw : Below w.heap.size w v1 := hnx.trans (hb1.mono hsz)
          clear hv1 hv2 hpos hlt hr1 hr2
          go_wp2
          go_roundg (V z2)
          case measure => exact HLT.out
          case rel => exact ⟨aB, cB, Y, a2, c2, z2, rfl, rfl, hY, by omega, rfl, rY', r2, HG2.out, hbw⟩
    · rw [smallN_ge hsY, isSmall_ge hsY]
      have HB : Hid (¬ V Y < 18446744073709551616) := hsY
      clear hsY
      have fin : ∀ (vx : Nat) (bx : Bool), True := fun _ _ => trivial
      generalize smallN (V X) = sx
      generalize isSmall (V X) = ix
      cases ix
      all_goals
        go_wp2_with fail
        refine (div_any _ _ _ _ _ _ _ rX rY hX hY).mono ?_
        rintro e v1 ⟨a1, c1, z1, a2, c2, z2, rfl, hv1, hv2, ht1, ht2, hr1, hr2, hb1⟩
        have hpos : 0 < V Y := by have := HB.out; omega
        rw [remN_pos _ hpos] at hv2
        have hlt : V z2 < V Y := by rw [hv2]; exact Nat.mod_lt _ hpos
        have HLT : Hid (V z2 < gk) := by show _ < _; rw [← HK.out]; exact hlt
        have hl2 : z2.length ≤ Y.length := by
          rcases Nat.lt_or_ge Y.length z2.length with h | h
          · have := V_lt_of_length rY.lim ht2 h; omega
          · exact h
        have HG2 : Hid (Nat.gcd (V Y) (V z2) = Nat.gcd (V xs) (V ys)) := by show _ = _; rw [hv2, gcd_step]; exact HG.out
        have rY' := rY.below hb1
        have r2 := hr2.rd
        have hbw : Below w.heap.size w v1 := hnx.trans (hb1.mono hsz)
        clear hv1 hv2 hpos hlt hr1 hr2
        go_wp2
        go_roundg (V z2)
        case measure => exact HLT.out
        case rel => exact ⟨aB, cB, Y, a2, c2, z2, rfl, rfl, hY, by omega, rfl, rY', r2, HG2.out, hbw⟩

end Go.Proofs.YtefdkajjdaplbabDoor
