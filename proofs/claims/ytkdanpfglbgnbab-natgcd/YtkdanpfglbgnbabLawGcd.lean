/-
  foundrylaw01.NatGcd: the walk.
-/
import Derived.Test.YtkdanpfglbgnbabLawDivides
import Derived.Test.YtkdanpfglbgnbabGcd
namespace Go.Proofs.Ytkdanpfglbgnbab
open Go.RowKit
set_option linter.unusedSimpArgs false
set_option linter.unusedVariables false

theorem gcd_len {zs xs ys : List Nat} {n : Nat} (ht : Tr zs) (hv : V zs = Nat.gcd (V xs) (V ys)) (lx : Lim xs) (ly : Lim ys) (hx : xs.length ≤ n) (hy : ys.length ≤ n) : zs.length ≤ n := by
  refine len_le_of_V ht ?_
  rw [hv]
  rcases Nat.eq_zero_or_pos (V xs) with h | h
  · rw [h, Nat.gcd_zero_left]; exact V_bd ly hy
  · exact Nat.lt_of_le_of_lt (Nat.gcd_le_left _ h) (V_bd lx hx)

theorem gcd_quot {x y : Nat} (h : 0 < Nat.gcd x y) : Nat.gcd (x / Nat.gcd x y) (y / Nat.gcd x y) = 1 := by
  rw [Nat.gcd_div (Nat.gcd_dvd_left x y) (Nat.gcd_dvd_right x y), Nat.div_self h]

set_option maxHeartbeats 4000000 in
theorem walkNatGcd (a0 : Option Addr) (len0 cap0 : Nat) (z0 : List Int) (a1 : Option Addr) (len1 cap1 : Nat) (z1 : List Int) (w : World) (w0 : IsRow .u32 w a0 len0 cap0 z0) (w1 : IsRow .u32 w a1 len1 cap1 z1) :
    Calls Try.prog 8 #[.slice a0 len0 cap0, .slice a1 len1 cap1] w fun e w' => e = .returned (.bool true) ∧ Below w.heap.size w w' := by
  obtain ⟨xs, rfl, h0⟩ := w0.rd
  obtain ⟨ys, rfl, h1⟩ := w1.rd
  clear w0 w1 z0 z1
  have b0 : xs.length ≤ 9223372036854775807 := by have := h0.le; have := h0.cap; unfold maxLen at this; omega
  have b1 : ys.length ≤ 9223372036854775807 := by have := h1.le; have := h1.cap; unfold maxLen at this; omega
  go_enter Try.func8, Try.ntmps8
  go_wp2_with fail
  refine (awake_any _).mono ?_
  rintro e v1 ⟨rfl, bel0⟩
  by_cases hf1 : xs.length ≤ 8
  · have g1 : decide ((8 : Int) < (xs.length : Int)) = false := by simp; omega
    by_cases hf2 : ys.length ≤ 8
    · clear b0 b1 g1
      have lx := h0.lim
      have ly := h1.lim
      go_wp2_with fail
      refine (gcd_any _ _ _ _ _ _ _ (h0.below bel0) (h1.below bel0) (by omega) (by omega)).mono ?_
      rintro e ug ⟨ag, cg, zg, rfl, hvg, htg, hrg, hug⟩
      have rg := hrg.rd
      have bg : zg.length ≤ 8 := gcd_len htg hvg lx ly hf1 hf2
      have belg : Below w.heap.size w ug := bel0.trans (hug.mono bel0.size)
      have HVg : Hid (V zg = Nat.gcd (V xs) (V ys)) := hvg
      clear hvg hrg hug
      by_cases hz : zg.length = 0
      · have hz' : ((zg.length : Int) == 0) = true := beq_iff_eq.2 (by omega)
        have hg0 : Nat.gcd (V xs) (V ys) = 0 := by rw [← HVg.out, List.length_eq_zero_iff.1 hz]; rfl
        have hx0 : V xs = 0 := Nat.eq_zero_of_gcd_eq_zero_left hg0
        have hy0 : V ys = 0 := Nat.eq_zero_of_gcd_eq_zero_right hg0
        have HC1 : Hid (cmpN (V xs) 0 = 0) := cmpN_eq hx0
        have HC2 : Hid (cmpN (V ys) 0 = 0) := cmpN_eq hy0
        clear hz hg0 hx0 hy0
        go_wp2_with fail
        refine (cmp_nil _ _ _ _ (h0.below belg)).mono ?_
        rintro e u1 ⟨rfl, hu1⟩
        rw [HC1.out]
        have bel1 : Below w.heap.size w u1 := belg.trans (hu1.mono belg.size)
        go_wp2_with fail
        refine (cmp_nil _ _ _ _ (h1.below bel1)).mono ?_
        rintro e u2 ⟨rfl, hu2⟩
        rw [HC2.out]
        go_wp2
        go_ret
        exact ⟨rfl, bel1.trans (hu2.mono bel1.size)⟩
      · have hz' : ((zg.length : Int) == 0) = false := beq_eq_false_iff_ne.2 (by omega)
        have hgp : 0 < V zg := by
          rcases Nat.eq_zero_or_pos (V zg) with h | h
          · exact absurd (len_zero htg h) hz
          · exact h
        have HGP : Hid (0 < V zg) := hgp
        have HGP2 : Hid (0 < Nat.gcd (V xs) (V ys)) := by show _ < _; rw [← HVg.out]; exact hgp
        clear hz hgp
        go_wp2_with fail
        refine (div_any _ _ _ _ _ _ _ (h0.below belg) rg (by omega) (by omega)).mono ?_
        rintro e up ⟨ap, cp, zp, ar, cr, zr, rfl, hvp, hvr, htp, htr, hrp, hrr, hup⟩
        have rp := hrp.rd
        have bp : zp.length ≤ 8 := div_len htp hvp lx hf1
        have hr0 : ((zr.length : Int) == 0) = true := beq_iff_eq.2 (by have := len_zero htr (by rw [hvr, remN_pos _ HGP.out, HVg.out]; exact Nat.mod_eq_zero_of_dvd (Nat.gcd_dvd_left _ _)); omega)
        have HVp : Hid (V zp = V xs / Nat.gcd (V xs) (V ys)) := by show _ = _; rw [hvp, HVg.out]
        have belp : Below w.heap.size w up := belg.trans (hup.mono belg.size)
        replace rg := rg.below hup
        clear hvp hvr hrp hrr hup
        go_wp2_with fail
        refine (div_any _ _ _ _ _ _ _ (h1.below belp) rg (by omega) (by omega)).mono ?_
        rintro e uq ⟨aq, cq, zq, al, cl, zl, rfl, hvq, hvl, htq, htl, hrq, hrl, huq⟩
        have rq := hrq.rd
        have bq : zq.length ≤ 8 := div_len htq hvq ly hf2
        have hl0 : ((zl.length : Int) == 0) = true := beq_iff_eq.2 (by have := len_zero htl (by rw [hvl, remN_pos _ HGP.out, HVg.out]; exact Nat.mod_eq_zero_of_dvd (Nat.gcd_dvd_right _ _)); omega)
        have HVq : Hid (V zq = V ys / Nat.gcd (V xs) (V ys)) := by show _ = _; rw [hvq, HVg.out]
        have belq : Below w.heap.size w uq := belp.trans (huq.mono belp.size)
        replace rg := rg.below huq
        replace rp := rp.below huq
        clear hvq hvl hrq hrl huq
        go_wp2_with fail
        refine (gcd_any _ _ _ _ _ _ _ rp rq (by omega) (by omega)).mono ?_
        rintro e uk ⟨ak, ck, zk, rfl, hvk, htk, hrk, huk⟩
        have rk := hrk.rd
        have HVk : Hid (V zk = 1) := by show _ = _; rw [hvk, HVp.out, HVq.out]; exact gcd_quot HGP2.out
        have belk : Below w.heap.size w uk := belq.trans (huk.mono belq.size)
        replace rg := rg.below huk
        clear hvk hrk huk rp rq
        go_wp2_with fail
        refine (of_any 1 _ (by decide)).mono ?_
        rintro e uo ⟨ao, co, zo, rfl, hvo, hto, hro, huo⟩
        have ro := hro.rd
        have HCo : Hid (cmpN (V zk) (V zo) = 0) := cmpN_eq (by rw [HVk.out, hvo])
        have belo : Below w.heap.size w uo := belk.trans (huo.mono belk.size)
        replace rg := rg.below huo
        replace rk := rk.below huo
        clear hvo hro huo
        go_wp2_with fail
        refine (cmp_any _ _ _ _ _ _ _ rk ro).mono ?_
        rintro e u5 ⟨rfl, hu5⟩
        rw [HCo.out]
        have bel5 : Below w.heap.size w u5 := belo.trans (hu5.mono belo.size)
        replace rg := rg.below hu5
        clear rk ro hu5
        go_wp2_with fail
        refine (gcd_any _ _ _ _ _ _ _ (h1.below bel5) (h0.below bel5) (by omega) (by omega)).mono ?_
        rintro e u6 ⟨a6, c6, z6, rfl, hv6, ht6, hr6, hu6⟩
        have r6 := hr6.rd
        have HC6 : Hid (cmpN (V zg) (V z6) = 0) := cmpN_eq (by rw [HVg.out, hv6, Nat.gcd_comm])
        have bel6 : Below w.heap.size w u6 := bel5.trans (hu6.mono bel5.size)
        replace rg := rg.below hu6
        clear hv6 hr6 hu6
        go_wp2_with fail
        refine (cmp_any _ _ _ _ _ _ _ rg r6).mono ?_
        rintro e u7 ⟨rfl, hu7⟩
        rw [HC6.out]
        go_wp2
        go_ret
        exact ⟨rfl, bel6.trans (hu7.mono bel6.size)⟩
    · have g2 : (8 : Int) < (ys.length : Int) := by omega
      go_wp2_with fail
      refine (awake_any _).mono ?_
      rintro e u3 ⟨rfl, hu3⟩
      go_wp2
      go_ret
      exact ⟨rfl, bel0.trans (hu3.mono bel0.size)⟩
  · have g1 : (8 : Int) < (xs.length : Int) := by omega
    go_wp2_with fail
    refine (awake_any _).mono ?_
    rintro e u3 ⟨rfl, hu3⟩
    go_wp2
    go_ret
    exact ⟨rfl, bel0.trans (hu3.mono bel0.size)⟩

end Go.Proofs.Ytkdanpfglbgnbab
