/-
  foundrylaw01.NatDivides: the walk.
-/
import Derived.Test.YtkdanpfglbgnbabLaw0
import Derived.Test.YtkdanpfglbgnbabDiv
import Derived.Test.YtkdanpfglbgnbabLens
namespace Go.Proofs.Ytkdanpfglbgnbab
open Go.RowKit
set_option linter.unusedSimpArgs false
set_option linter.unusedVariables false

theorem div_len {zs xs ys : List Nat} {n : Nat} (ht : Tr zs) (hv : V zs = V xs / V ys) (lx : Lim xs) (hx : xs.length ≤ n) : zs.length ≤ n := by
  refine len_le_of_V ht ?_
  rw [hv]
  exact Nat.lt_of_le_of_lt (Nat.div_le_self _ _) (V_bd lx hx)
theorem rem_len {zs xs ys : List Nat} {n : Nat} (ht : Tr zs) (hv : V zs = remN (V xs) (V ys)) (lx : Lim xs) (hx : xs.length ≤ n) : zs.length ≤ n := by
  refine len_le_of_V ht ?_
  rw [hv]
  refine Nat.lt_of_le_of_lt ?_ (V_bd lx hx)
  unfold remN
  split
  · exact Nat.zero_le _
  · exact Nat.mod_le _ _
theorem len_zero {zs : List Nat} (ht : Tr zs) (hv : V zs = 0) : zs.length = 0 := by rw [eq_nil_of_V ht hv]; rfl
theorem cmpN_lt {x y : Nat} (h : x < y) : cmpN x y = -1 := by unfold cmpN; rw [if_pos h]
theorem rd_nil (w : World) : Rd w none 0 [] := Rd.nil w none 0 (Nat.zero_le _) (fun _ => rfl)

theorem cmp_nil (a : Option Addr) (cap : Nat) (xs : List Nat) (w : World) (ha : Rd w a cap xs) :
    Calls Try.prog 20 #[.slice a xs.length cap, .slice none 0 0] w fun e w' => e = .returned (.int .i64 (cmpN (V xs) 0)) ∧ Below w.heap.size w w' :=
  cmp_any a cap xs none 0 [] w ha (rd_nil w)

set_option maxHeartbeats 4000000 in
set_option maxRecDepth 100000 in
theorem walkNatDivides (a0 : Option Addr) (len0 cap0 : Nat) (z0 : List Int) (a1 : Option Addr) (len1 cap1 : Nat) (z1 : List Int) (w : World) (w0 : IsRow .u32 w a0 len0 cap0 z0) (w1 : IsRow .u32 w a1 len1 cap1 z1) :
    Calls Try.prog 6 #[.slice a0 len0 cap0, .slice a1 len1 cap1] w fun e w' => e = .returned (.bool true) ∧ Below w.heap.size w w' := by
  obtain ⟨xs, rfl, h0⟩ := w0.rd
  obtain ⟨ys, rfl, h1⟩ := w1.rd
  clear w0 w1 z0 z1
  have b0 : xs.length ≤ 9223372036854775807 := by have := h0.le; have := h0.cap; unfold maxLen at this; omega
  have b1 : ys.length ≤ 9223372036854775807 := by have := h1.le; have := h1.cap; unfold maxLen at this; omega
  go_enter Try.func6, Try.ntmps6
  go_wp2_with fail
  refine (awake_any _).mono ?_
  rintro e v1 ⟨rfl, bel0⟩
  go_wp2_with fail
  refine (few_any _ _ _ _ _ _ _ b0 b1).mono ?_
  rintro e v2 ⟨rfl, rfl⟩
  by_cases hf : xs.length ≤ 12 ∧ ys.length ≤ 12
  · have hd : decide (xs.length ≤ 12 ∧ ys.length ≤ 12) = true := by simp [hf]
    rw [hd]
    have hf1 := hf.1
    have hf2 := hf.2
    clear hf hd b0 b1
    have lx := h0.lim
    have ly := h1.lim
    go_wp2_with fail
    refine (div_any _ _ _ _ _ _ _ (h0.below bel0) (h1.below bel0) (by omega) (by omega)).mono ?_
    rintro e uq ⟨aq, cq, zq, ar, cr, zr, rfl, hvq, hvr, htq, htr, hrq, hrr, huq⟩
    have rq := hrq.rd
    have rr := hrr.rd
    have bq : zq.length ≤ 12 := div_len htq hvq lx hf1
    have br : zr.length ≤ 12 := rem_len htr hvr lx hf1
    have belq : Below w.heap.size w uq := bel0.trans (huq.mono bel0.size)
    have HVq : Hid (V zq = V xs / V ys) := hvq
    have HVr : Hid (V zr = remN (V xs) (V ys)) := hvr
    clear hvq hvr hrq hrr huq
    go_wp2_with fail
    refine (cmp_nil _ _ _ _ (h1.below belq)).mono ?_
    rintro e uc ⟨rfl, huc⟩
    replace rq := rq.below huc
    replace rr := rr.below huc
    have belc : Below w.heap.size w uc := belq.trans (huc.mono belq.size)
    clear huc
    by_cases hy0 : V ys = 0
    · have hc : cmpN (V ys) 0 = 0 := cmpN_eq hy0
      have hq0 : ((zq.length : Int) == 0) = true := beq_iff_eq.2 (by have := len_zero htq (by rw [HVq.out, hy0, Nat.div_zero]); omega)
      have hr0 : ((zr.length : Int) == 0) = true := beq_iff_eq.2 (by have := len_zero htr (by rw [HVr.out, remN_zero _ hy0]); omega)
      rw [hc]
      clear hc hy0
      go_wp2
      go_ret
      exact ⟨rfl, belc⟩
    · have hpos : 0 < V ys := by omega
      have hc : cmpN (V ys) 0 = 1 := cmpN_gt hpos
      rw [hc]
      have HPOS : Hid (0 < V ys) := hpos
      clear hc hy0 hpos
      go_wp2_with fail
      refine (mul_any _ _ _ _ _ _ _ (h0.below belc) (h1.below belc) (by omega) (by omega)).mono ?_
      rintro e u1 ⟨a1, c1, z1, rfl, hv1, ht1, hr1, hu1⟩
      have r1 := hr1.rd
      have b1 : z1.length ≤ 24 := mul_len ht1 hv1 lx ly hf1 hf2
      have HV1 : Hid (V z1 = V xs * V ys) := hv1
      clear hv1 hr1
      replace rq := rq.below hu1
      replace rr := rr.below hu1
      have bel1 : Below w.heap.size w u1 := belc.trans (hu1.mono belc.size)
      clear hu1
      go_wp2_with fail
      refine (div_any _ _ _ _ _ _ _ r1 (h1.below bel1) (by omega) (by omega)).mono ?_
      rintro e ud ⟨ap, cp, zp, an, cn, zn, rfl, hvp, hvn, htp, htn, hrp, hrn, hud⟩
      have rp := hrp.rd
      have HVp : Hid (V zp = V xs) := by show _ = _; rw [hvp, HV1.out, Nat.mul_div_cancel _ HPOS.out]
      have hn0 : ((zn.length : Int) == 0) = true := beq_iff_eq.2 (by have := len_zero htn (by rw [hvn, HV1.out, remN_pos _ HPOS.out, Nat.mul_mod_left]); omega)
      replace rq := rq.below hud
      replace rr := rr.below hud
      have beld : Below w.heap.size w ud := bel1.trans (hud.mono bel1.size)
      clear hvp hvn hrp hrn hud r1
      go_wp2_with fail
      refine (mul_any _ _ _ _ _ _ _ rq (h1.below beld) (by omega) (by omega)).mono ?_
      rintro e u2 ⟨a2, c2, z2, rfl, hv2, ht2, hr2, hu2⟩
      have r2 := hr2.rd
      have b2 : z2.length ≤ 24 := mul_len ht2 hv2 rq.lim ly bq hf2
      have HV2 : Hid (V z2 = V zq * V ys) := hv2
      clear hv2 hr2
      clear rq
      replace rr := rr.below hu2
      replace rp := rp.below hu2
      have bel2 : Below w.heap.size w u2 := beld.trans (hu2.mono beld.size)
      clear hu2
      go_wp2_with fail
      refine (add_any _ _ _ _ _ _ _ r2 rr (by omega) (by omega)).mono ?_
      rintro e u3 ⟨a3, c3, z3, rfl, hv3, ht3, hr3, hu3⟩
      have r3 := hr3.rd
      have b3 : z3.length ≤ 25 := add_len ht3 hv3 r2.lim rr.lim b2 (Nat.le_trans br (by decide))
      have HV3 : Hid (V z3 = V z2 + V zr) := hv3
      clear hv3 hr3
      replace rr := rr.below hu3
      replace rp := rp.below hu3
      clear r2
      have bel3 : Below w.heap.size w u3 := bel2.trans (hu3.mono bel2.size)
      clear hu3
      have HC4 : Hid (cmpN (V z3) (V xs) = 0) := cmpN_eq (by rw [HV3.out, HV2.out, HVq.out, HVr.out, remN_pos _ HPOS.out, Nat.mul_comm]; exact Nat.div_add_mod _ _)
      go_wp2_with fail
      refine (cmp_any _ _ _ _ _ _ _ r3 (h0.below bel3)).mono ?_
      rintro e u4 ⟨rfl, hu4⟩
      rw [HC4.out]
      clear HC4
      replace rr := rr.below hu4
      replace rp := rp.below hu4
      clear r3
      have bel4 : Below w.heap.size w u4 := bel3.trans (hu4.mono bel3.size)
      clear hu4
      have HC5 : Hid (cmpN (V zr) (V ys) = -1) := cmpN_lt (by rw [HVr.out, remN_pos _ HPOS.out]; exact Nat.mod_lt _ HPOS.out)
      go_wp2_with fail
      refine (cmp_any _ _ _ _ _ _ _ rr (h1.below bel4)).mono ?_
      rintro e u5 ⟨rfl, hu5⟩
      rw [HC5.out]
      clear HC5
      clear rr
      replace rp := rp.below hu5
      have bel5 : Below w.heap.size w u5 := bel4.trans (hu5.mono bel4.size)
      clear hu5
      have HC6 : Hid (cmpN (V zp) (V xs) = 0) := cmpN_eq HVp.out
      go_wp2_with fail
      refine (cmp_any _ _ _ _ _ _ _ rp (h0.below bel5)).mono ?_
      rintro e u6 ⟨rfl, hu6⟩
      rw [HC6.out]
      clear HC6
      clear rp
      have bel6 : Below w.heap.size w u6 := bel5.trans (hu6.mono bel5.size)
      clear hu6
      go_wp2
      go_ret
      exact ⟨rfl, bel6⟩
  · have hd : decide (xs.length ≤ 12 ∧ ys.length ≤ 12) = false := by simpa using hf
    rw [hd]
    go_wp2_with fail
    refine (awake_any _).mono ?_
    rintro e u3 ⟨rfl, hu3⟩
    go_wp2
    go_ret
    exact ⟨rfl, bel0.trans (hu3.mono bel0.size)⟩

end Go.Proofs.Ytkdanpfglbgnbab
