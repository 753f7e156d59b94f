/-
  foundrylaw07.few, foundrylaw07.awake: the walks.
  fixed.To14, near: the walks.
  fixed.Between: the walk.
  foundryref01.Trim, Same; foundrylaw01.same: the walks.
  foundryref01.Bit, bits: the walks.
-/
import Derived.Test.YtdholmnniccbcaaGreatDoorZ13
import Derived.Test.YtdholmnniccbcaaGreatDoorZ9
import Derived.Deep.RegionHeld3
import Derived.Test.YtdholmnniccbcaaGreatDoorZ12
import Derived.Test.YtdholmnniccbcaaGreatDoorZ2
import Derived.Test.YtdholmnniccbcaaGreatDoorZ3
import Derived.Laws.BitsAllLaws
namespace Go.Proofs.YtdholmnniccbcaaGreatDoor
open Go.RowKit Go.Maps
set_option linter.unusedSimpArgs false
set_option linter.unusedVariables false

/-- One bend in a list. -/
theorem pzz_one (w : World) (a : Option Addr) (cap : Nat) (l : List Pr) (h : Pz w a cap l) (t : TypeId) : Pzz (w.alloc (.cells #[.slice a l.length cap] t)) (some ⟨w.heap.size, 0, none⟩) 1 [l] := by
  refine ⟨Nat.le_refl _, by simp [maxLen], fun i hi => ?_⟩
  have : i = 0 := by simp at hi; omega
  subst this
  have hn : (w.alloc (.cells #[.slice a l.length cap] t)).heap[w.heap.size]? = some (.cells #[.slice a l.length cap] t (0, 0)) := heap_alloc_new w _
  exact ⟨w.heap.size, 0, a, cap, rfl, by simp, cell_of_row _ _ 0 _ _ (0, 0) hn, h.below (bl1 _)⟩

set_option maxHeartbeats 1000000 in
set_option maxRecDepth 100000 in
theorem few7_any (a : Option Addr) (cap : Nat) (m : List (List Pr)) (n : Bool) (b b' : Option Addr) (c c' i j : Nat) (w : World) (h : Pzz w a cap m) (hi : i ≤ 9223372036854775807) (hj : j ≤ 9223372036854775807) :
    Calls Tryz.prog 7 #[.slice a m.length cap, .agg #[.bool n, .slice b i c, .slice b' j c']] w fun e w' => ∃ q : Bool, e = .returned (.bool q) ∧ (q = true → m.length ≤ 30 ∧ i ≤ 6 ∧ j ≤ 6) ∧ Below w.heap.size w w' := by
  have k1 := h.1
  have k2 := h.2.1
  unfold maxLen at k2
  obtain ⟨W, hW, B1, hbW⟩ : ∃ W, W = w.alloc (.cells #[.bool n, .slice b i c, .slice b' j c'] 26) ∧ Box 26 W w.heap.size (.bool n) (.slice b i c) (.slice b' j c') ∧ Below w.heap.size w W := ⟨_, rfl, Box.new _ _ _ _ _, al1 _⟩
  have HP : Hid (Pzz w a cap m) := h
  clear h
  go_enter Tryz.func7, Tryz.ntmps7
  go_wp2
  rw [← hW]
  clear hW
  go_loopw [5, 6] (fun n i wr => ∃ (k : Nat) (z : Int), k ≤ m.length ∧ i = .int .i64 k ∧ n = .int .i64 z ∧ -9223372036854775808 ≤ z ∧ z ≤ 200 ∧ wr = W) (fun _ i _ => m.length - (intOf i).toNat)
  case atStart => exact ⟨0, 0, Nat.zero_le _, rfl, rfl, by decide, by decide, rfl⟩
  case round =>
    obtain ⟨k, z, hk, rfl, rfl, hz1, hz2, rfl⟩ := hrel
    by_cases hkn : k < m.length
    · obtain ⟨b1, off, a1, c1, ea, _, d0, hp⟩ := HP.out.at hbW k hkn
      subst ea
      have e1 := hp.lenB
      generalize (m.getD k []).length = y at d0 e1
      clear hp
      have hw1 : -9223372036854775808 ≤ wrap64 (z + (y : Int)) := by unfold wrap64; omega
      go_wp2
      · go_ret
        exact ⟨false, rfl, (fun hq => by cases hq), hbW⟩
      · rename_i hw2
        exact ⟨⟨k + 1, _, by omega, by go_num, rfl, hw1, hw2, trivial⟩, by simp [intOf]; omega⟩
    · by_cases l0 : m.length ≤ 30
      · have g0 : decide ((m.length : Int) ≤ 30) = true := decide_eq_true (by omega)
        by_cases l1 : i ≤ 6
        · have g1 : decide ((i : Int) ≤ 6) = true := decide_eq_true (by omega)
          obtain ⟨p0, p1, p2, _⟩ := B1.cells
          go_wp2
          go_ret
          exact ⟨_, rfl, fun hq => ⟨l0, l1, by have := of_decide_eq_true hq; omega⟩, hbW⟩
        · have g1 : decide ((i : Int) ≤ 6) = false := decide_eq_false (by omega)
          obtain ⟨p0, p1, p2, _⟩ := B1.cells
          go_wp2
          go_ret
          exact ⟨_, rfl, (fun hq => by cases hq), hbW⟩
      · have g0 : decide ((m.length : Int) ≤ 30) = false := decide_eq_false (by omega)
        obtain ⟨p0, p1, p2, _⟩ := B1.cells
        go_wp2
        go_ret
        exact ⟨_, rfl, (fun hq => by cases hq), hbW⟩

/-- What 'awake' is about. -/
def awL : List Pr := [(-16384, -16384), (0, 0), (8192, 4096), (16384, 16384)]
theorem awL_fr : frP awL = true := by decide +kernel
theorem awL_txt : txt (beQ awL (((1 : Int) : Rat) / ((4 : Int) : Rat))) = [49, 47, 56] := by decide +kernel
theorem awL_pz (w : World) : Pz (w.alloc (.cells #[.int .i64 (-16384), .int .i64 (-16384), .int .i64 0, .int .i64 0, .int .i64 8192, .int .i64 4096, .int .i64 16384, .int .i64 16384] 49)) (some ⟨w.heap.size, 0, none⟩) 4 awL := by
  refine ⟨Nat.le_refl _, by simp [maxLen], fun t ht => ?_, fun i hi => ?_⟩
  · simp [awL] at ht
    rcases ht with rfl | rfl | rfl | rfl <;> exact ⟨⟨by decide, by decide⟩, ⟨by decide, by decide⟩⟩
  · have hn : (w.alloc (.cells #[.int .i64 (-16384), .int .i64 (-16384), .int .i64 0, .int .i64 0, .int .i64 8192, .int .i64 4096, .int .i64 16384, .int .i64 16384] 49)).heap[w.heap.size]? = some (.cells #[.int .i64 (-16384), .int .i64 (-16384), .int .i64 0, .int .i64 0, .int .i64 8192, .int .i64 4096, .int .i64 16384, .int .i64 16384] 49 (0, 0)) := heap_alloc_new w _
    refine ⟨w.heap.size, 0, rfl, by simp, ?_, ?_⟩
    · rw [cell_of_row _ _ _ _ _ (0, 0) hn]
      match i, hi with
      | 0, _ => rfl
      | 1, _ => rfl
      | 2, _ => rfl
      | 3, _ => rfl
    · rw [cell_of_row _ _ _ _ _ (0, 0) hn]
      match i, hi with
      | 0, _ => rfl
      | 1, _ => rfl
      | 2, _ => rfl
      | 3, _ => rfl

set_option maxHeartbeats 1000000 in
set_option maxRecDepth 100000 in
theorem awake7_any (w : World) (htab : Pow w) :
    Calls Tryz.prog 6 #[] w fun e w' => e = .returned (.bool true) ∧ Below w.heap.size w w' := by
  have hP := awL_pz w
  have hbW := bl1 (w := w) (.cells #[.int .i64 (-16384), .int .i64 (-16384), .int .i64 0, .int .i64 0, .int .i64 8192, .int .i64 4096, .int .i64 16384, .int .i64 16384] 49)
  have hfo := fun W hW => cformP_any (some ⟨w.heap.size, 0, none⟩) 4 awL W hW
  have hbe := fun v W hW hv => cbend_any 2 (((1 : Int) : Rat) / ((4 : Int) : Rat)) v (some ⟨w.heap.size, 0, none⟩) 4 awL W hW hv (by decide) (by decide)
  rw [awL_fr] at hfo
  rw [show awL.length = 4 from rfl] at hfo hbe
  have HT : Hid (txt (beQ awL (((1 : Int) : Rat) / ((4 : Int) : Rat))) = [49, 47, 56]) := awL_txt
  have HB : Hid (Pow w) := htab
  clear htab
  go_enter Tryz.func6, Tryz.ntmps6
  go_wp2_with fail
  refine (hfo _ hP).mono ?_
  rintro e u1 ⟨rfl, hb1⟩
  replace hP := hP.below hb1
  replace hbW := hbW.trans (hb1.mono hbW.size)
  clear hb1 hfo
  go_wp2_with fail
  refine (make_any 1 4 _ (by decide) (by decide) (by decide) (by decide)).mono ?_
  rintro e u2 ⟨v2, rfl, hF2, hb2⟩
  replace hP := hP.below hb2
  replace hbW := hbW.trans (hb2.mono hbW.size)
  clear hb2
  go_wp2_with fail
  refine (hbe _ _ hP hF2.ct).mono ?_
  rintro e u3 ⟨v3, rfl, hF3, hb3⟩
  replace hbW := hbW.trans (hb3.mono hbW.size)
  clear hb3 hP hF2 hbe
  go_wp2_with fail
  refine (qtext_any (2 + 8) _ _ _ hF3.ct (by decide) (by decide) (HB.out.below hbW)).mono ?_
  rintro e u4 ⟨rfl, hb4⟩
  replace hbW := hbW.trans (hb4.mono hbW.size)
  rw [HT.out]
  clear hb4 hF3
  go_wp2
  go_ret
  exact ⟨rfl, hbW⟩

end Go.Proofs.YtdholmnniccbcaaGreatDoor

namespace Go.Proofs.YtdholmnniccbcaaGreatDoor
open Go.RowKit
set_option linter.unusedSimpArgs false
set_option linter.unusedVariables false

theorem c14_big {q : Rat} {z : Int} (hz : (q * 16384 + 1 / 2).floor = z) (h : flB z = false) : c14 z = 16384 * sgnQ q := by
  have h1 : ¬ (-9223372036854775808 ≤ z ∧ z < 9223372036854775808) := by unfold flB at h; simpa using h
  have f1 := Rat.floor_le (q * 16384 + 1 / 2)
  have f2 := Rat.lt_floor (x := q * 16384 + 1 / 2)
  rw [hz] at f1 f2
  by_cases h2 : z < 0
  · have h3 : z ≤ -2 := by omega
    have hq : q < 0 := by
      have h4 : ((z : Int) : Rat) ≤ ((-2 : Int) : Rat) := Rat.intCast_le_intCast.2 h3
      grind
    have h0 : q ≠ 0 := by grind
    unfold sgnQ c14
    rw [if_neg h0, if_pos hq, if_pos (by omega)]
    rfl
  · have h3 : 2 ≤ z := by omega
    have hq : ¬ q < 0 := by
      have h4 : ((2 : Int) : Rat) ≤ ((z : Int) : Rat) := Rat.intCast_le_intCast.2 h3
      grind
    have h0 : q ≠ 0 := by
      have h4 : ((2 : Int) : Rat) ≤ ((z : Int) : Rat) := Rat.intCast_le_intCast.2 h3
      grind
    unfold sgnQ c14
    rw [if_neg h0, if_neg hq, if_neg (by omega), if_pos (by omega)]
    rfl

/-- A number that Between takes. -/
def nr (z : Int) : Bool := decide (-1099511627776 ≤ z ∧ z ≤ 1099511627776)

end Go.Proofs.YtdholmnniccbcaaGreatDoor

namespace Go.Proofs.YtdholmnniccbcaaGreatDoor
open Go.RowKit
set_option linter.unusedSimpArgs false
set_option linter.unusedVariables false

/-- All four are near. -/
def nr4 (a b n d : Int) : Bool := [a, b, n, d].all nr
/-- The fraction between. -/
def btw (a b n d : Int) : Rat := if nr4 a b n d = true then (a : Rat) + ((b - a : Int) : Rat) * ((n : Rat) / (d : Rat)) else 0
theorem nr4_all {a b n d : Int} (h : nr4 a b n d = true) : (-1099511627776 ≤ a ∧ a ≤ 1099511627776) ∧ (-1099511627776 ≤ b ∧ b ≤ 1099511627776) ∧ (-1099511627776 ≤ n ∧ n ≤ 1099511627776) ∧ (-1099511627776 ≤ d ∧ d ≤ 1099511627776) := by
  simp [nr4, nr] at h
  omega

end Go.Proofs.YtdholmnniccbcaaGreatDoor

namespace Go.Proofs.YtdholmnniccbcaaGreatDoor
open Go.RowKit
set_option linter.unusedSimpArgs false
set_option linter.unusedVariables false

set_option maxHeartbeats 800000 in
set_option maxRecDepth 100000 in
theorem rtrim_any (a : Option Addr) (cap : Nat) (xs : List Nat) (w : World) (h : Rd w a cap xs) (hl : xs.length ≤ 1000000000) :
    Calls Tryz.prog 129 #[.slice a xs.length cap] w fun e w' => ∃ a' cap', e = .returned (.slice a' (strip xs).length cap') ∧ Res 97 w.heap.size w' a' cap' (strip xs) ∧ Below w.heap.size w w' := by
  obtain ⟨i0, hi, hz0, hz1, hz2⟩ := info_parts info_limb
  have hsl := strip_length_le xs
  have hc2 : xs.length ≤ cap := h.le
  have hc3 : cap ≤ maxLen := h.cap
  unfold maxLen at hc3
  have hst := h.strip
  have lst := h.lim.strip
  have fm := h.fm
  clear h
  go_enter Tryz.func129, Tryz.ntmps129
  go_wp2
  go_loop [3] (fun n => ∃ k : Nat, k ≤ xs.length ∧ n = .int .i64 k ∧ strip (xs.take k) = strip xs) (fun n => (intOf n).toNat)
  case atStart => exact ⟨xs.length, Nat.le_refl _, rfl, by rw [List.take_length]⟩
  case round =>
    obtain ⟨k, hk, rfl, hs0⟩ := hrel
    have HS : Hid (strip (xs.take k) = strip xs) := hs0
    clear hs0
    by_cases hk0 : k = 0
    · subst hk0
      have e0 : strip xs = [] := by rw [← HS.out]; rfl
      rw [e0] at hst lst
      have E0 : Hid (strip xs = []) := e0
      clear e0 HS
      go_wp2_with (at_builtin; refine wpList_append_rd rfl _ _ 32 rfl w.heap.size 97 i0 Tryz.underlying32 hi hz0 hz1 hz2 _ 0 [] rfl (World.ownsRow_nil _ _ _ _) a cap 0 [] ?_ rfl hst (by simp) (Nat.le_refl _) ?_)
      intro v' w1 hown hgrow
      obtain ⟨a', cap', rfl, hres⟩ := Res.of (xs := []) Lim.nil hown
      go_wp2
      go_ret
      exact ⟨a', cap', by rw [E0.out]; rfl, by rw [E0.out]; exact hres, (Below.refl _ _).grown hgrow (Nat.le_refl _) (fun k hk => by simp [Value.ownBlock] at hk)⟩
    · obtain ⟨j, rfl⟩ : ∃ j, k = j + 1 := ⟨k - 1, by omega⟩
      obtain ⟨b, off, rfl, _, hcj⟩ := fm.at (Below.refl _ _) j (by omega)
      obtain ⟨x, hx⟩ : ∃ x, xs.getD j 0 = x := ⟨_, rfl⟩
      rw [hx] at hcj
      have HX : Hid (xs.getD j 0 = x) := hx
      clear hx
      by_cases hx0 : x = 0
      · subst hx0
        go_wp2
        go_round
        case rel => exact ⟨j, by omega, rfl, by rw [← HS.out, strip_take_zero xs j (by omega) HX.out]⟩
        case measure => simp [intOf]
      · have hx1 : ((x : Int) == 0) = false := by simp; omega
        have e : strip xs = xs.take (j + 1) := by rw [← HS.out]; exact strip_take_some xs j (by omega) (by rw [HX.out]; exact hx0)
        have el : j + 1 = (strip xs).length := by rw [e]; simp; omega
        have EL : Hid (j + 1 = (strip xs).length) := el
        clear e el
        go_wp2_with (at_builtin; refine wpList_append_rd rfl _ _ 32 rfl w.heap.size 97 i0 Tryz.underlying32 hi hz0 hz1 hz2 _ 0 [] rfl (World.ownsRow_nil _ _ _ _) (some ⟨b, off, none⟩) cap (j + 1) (strip xs) rfl EL.out hst (by omega) (Nat.le_refl _) ?_)
        intro v' w1 hown hgrow
        obtain ⟨a', cap', rfl, hres⟩ := Res.of lst hown
        go_wp2
        go_ret
        exact ⟨a', cap', rfl, hres, (Below.refl _ _).grown hgrow (Nat.le_refl _) (fun k hk => by simp [Value.ownBlock] at hk)⟩

set_option maxHeartbeats 800000 in
set_option maxRecDepth 100000 in
/-- Two slices that read alike are told to be the same. -/
theorem rsame_any (a b : Option Addr) (ca cb : Nat) (xs : List Nat) (w : World) (ha : Rd w a ca xs) (hb : Rd w b cb xs) :
    Calls Tryz.prog 30 #[.slice a xs.length ca, .slice b xs.length cb] w fun e w' => e = .returned (.bool true) ∧ Below w.heap.size w w' := by
  have k1 := ha.le
  have k2 := ha.cap
  unfold maxLen at k2
  have fa := ha.fm
  have fb := hb.fm
  clear ha hb
  have hne : ((xs.length : Int) != (xs.length : Int)) = false := by simp
  go_enter Tryz.func30, Tryz.ntmps30
  go_wp2
  go_loopw [5] (fun i wr => ∃ k : Nat, k ≤ xs.length ∧ i = .int .i64 k ∧ Below w.heap.size w wr) (fun i _ => xs.length - (intOf i).toNat)
  case atStart => exact ⟨0, Nat.zero_le _, rfl, Below.refl _ _⟩
  case round =>
    obtain ⟨k, hk, rfl, hnx⟩ := hrel
    by_cases hkn : k < xs.length
    · obtain ⟨b1, o1, rfl, _, c1⟩ := fa.at hnx k hkn
      obtain ⟨b2, o2, rfl, _, c2⟩ := fb.at hnx k hkn
      obtain ⟨x, hx⟩ : ∃ x, xs.getD k 0 = x := ⟨_, rfl⟩
      rw [hx] at c1 c2
      have hxx : ((x : Int) != (x : Int)) = false := by simp
      clear hx
      have i1 : (0 : Int) ≤ (k : Int) := by omega
      have i2 : (k : Int) < (xs.length : Int) := by omega
      go_wp2_with fail
      go_quiet (fail)
      go_wp2
      go_roundw
      case rel => exact ⟨k + 1, by omega, by go_num, below_drewN hnx _⟩
      case measure => simp [intOf]; omega
    · go_wp2
      go_ret
      exact ⟨rfl, hnx⟩

end Go.Proofs.YtdholmnniccbcaaGreatDoor

namespace Go.Proofs.YtdholmnniccbcaaGreatDoor
open Go.RowKit
set_option linter.unusedSimpArgs false
set_option linter.unusedVariables false

theorem and_one_u32 (n : Nat) (h : n < 4294967296) : bits BinOp.and IntKind.u32 (n : Int) 1 = ((n % 2 : Nat) : Int) := by
  have := u32_and_nat n 1 h (by decide)
  rw [Nat.and_one_is_mod] at this
  exact this

/-- A bit of a number is a bit of one of its limbs. -/
theorem V_bit (xs : List Nat) (lm : Lim xs) (i : Nat) : V xs / 2 ^ i % 2 = xs.getD (i / 32) 0 / 2 ^ (i % 32) % 2 := by
  have e := V_take_drop xs (i / 32)
  have hd := V_head_tail (xs.drop (i / 32))
  have hg : (xs.drop (i / 32)).getD 0 0 = xs.getD (i / 32) 0 := by simp [List.getD]
  rw [hg] at hd
  have hl : V (xs.take (i / 32)) < 4294967296 ^ (i / 32) := by
    have := V_take_Sv xs (i / 32)
    rw [this]
    exact Sv_lt (fun j _ => lm.getD j)
  have hp : 2 ^ i = 4294967296 ^ (i / 32) * 2 ^ (i % 32) := by
    rw [show (4294967296 : Nat) = 2 ^ 32 from rfl, ← Nat.pow_mul, ← Nat.pow_add, Nat.div_add_mod]
  rw [hp, ← Nat.div_div_eq_div_mul, e, Nat.add_mul_div_left _ _ (Nat.pow_pos (by decide)), Nat.div_eq_of_lt hl, Nat.zero_add, hd]
  generalize V (xs.drop (i / 32)).tail = T
  generalize xs.getD (i / 32) 0 = x
  have h32 : (4294967296 : Nat) = 2 ^ (i % 32) * (2 * 2 ^ (31 - i % 32)) := by
    have : (4294967296 : Nat) = 2 ^ 32 := rfl
    rw [this, ← Nat.pow_succ', ← Nat.pow_add]
    congr 1
    omega
  rw [h32, Nat.mul_assoc, Nat.add_mul_div_left _ _ (Nat.pow_pos (by decide)), Nat.mul_assoc, Nat.add_mul_mod_self_left]

set_option maxHeartbeats 400000 in
set_option maxRecDepth 100000 in
theorem rbits_any (a : Option Addr) (n cap : Nat) (w : World) (hn : n ≤ 100000000000000000) :
    Calls Tryz.prog 105 #[.slice a n cap] w fun e w' => e = .returned (.int .i64 (32 * (n : Int))) ∧ w = w' := by
  go_enter Tryz.func105, Tryz.ntmps105
  go_wp2
  go_ret
  exact ⟨rfl, rfl⟩

set_option maxHeartbeats 400000 in
set_option maxRecDepth 100000 in
theorem rbit_any (a : Option Addr) (cap : Nat) (xs : List Nat) (i : Nat) (w : World) (h : Rd w a cap xs) (hi : i ≤ 100000000000000000) :
    Calls Tryz.prog 107 #[.slice a xs.length cap, .int .i64 (i : Int)] w fun e w' => e = .returned (.int .u32 ((V xs / 2 ^ i % 2 : Nat) : Int)) ∧ w = w' := by
  have k1 := h.le
  have k2 := h.cap
  unfold maxLen at k2
  have fm := h.fm
  have lm := h.lim
  clear h
  by_cases hlt : i / 32 < xs.length
  · obtain ⟨b, off, rfl, _, hc⟩ := fm.at (Below.refl _ _) (i / 32) hlt
    obtain ⟨x, hx⟩ : ∃ x, xs.getD (i / 32) 0 = x := ⟨_, rfl⟩
    rw [hx] at hc
    have bx : x < 4294967296 := by rw [← hx]; exact lm.getD _
    go_enter Tryz.func107, Tryz.ntmps107
    go_wp2
    go_ret
    refine ⟨ret_u32 ?_, rfl⟩
    have hq : x / 2 ^ (i % 32) ≤ x := Nat.div_le_self _ _
    have hcast : (x : Int) / 2 ^ (i % 32) = ((x / 2 ^ (i % 32) : Nat) : Int) := by simp
    rw [V_bit xs lm i, hx, hcast, and_one_u32 _ (by omega)]
  · go_enter Tryz.func107, Tryz.ntmps107
    go_wp2
    go_ret
    refine ⟨ret_u32 ?_, rfl⟩
    rw [V_bit xs lm i, getD_past _ _ (by omega)]
    simp

theorem pow_32 (m : Nat) : 4294967296 ^ m = 2 ^ (32 * m) := by rw [Nat.pow_mul]

end Go.Proofs.YtdholmnniccbcaaGreatDoor
