/-
  fixed.Between: the walk.
  Fractions between two numbers, and signs (plain mathematics; split off FixedEnds' walk).
  Infer: what is inferred of a contour's numbers (plain mathematics).
  Pages: the document's states (St) and what is done with them, and how a page of the code lies in a world (Pc).
  octets: closed, fail, put, fits, four: the walks.
-/
import Derived.Test.YtngmcghmniakeaaZ13
import Derived.Deep.RegionHeld3
import Derived.Test.YtngmcghmniakeaaZ9
namespace Go.Proofs.Ytngmcghmniakeaa
open Go.RowKit
set_option linter.unusedSimpArgs false
set_option linter.unusedVariables false

/-- All four are near. -/
def nr4 (a b n d : Int) : Bool := [a, b, n, d].all nr
/-- The fraction between. -/
def btw (a b n d : Int) : Rat := if nr4 a b n d = true then (a : Rat) + ((b - a : Int) : Rat) * ((n : Rat) / (d : Rat)) else 0
theorem nr4_all {a b n d : Int} (h : nr4 a b n d = true) : (-1099511627776 ≤ a ∧ a ≤ 1099511627776) ∧ (-1099511627776 ≤ b ∧ b ≤ 1099511627776) ∧ (-1099511627776 ≤ n ∧ n ≤ 1099511627776) ∧ (-1099511627776 ≤ d ∧ d ≤ 1099511627776) := by
  simp [nr4, nr] at h
  omega

/-- near, of four numbers in a row. -/
theorem near4_any (a b n d : Int) (t : TypeId) (g : Nat) (w : World) (h : w.heap[g]? = some (.cells #[.int .i64 a, .int .i64 b, .int .i64 n, .int .i64 d] t (0, 0))) :
    Calls Try.prog 99 #[.slice (some ⟨g, 0, none⟩) 4 4] w fun e w' => e = .returned (.bool (nr4 a b n d)) ∧ w = w' := by
  refine near_any g [a, b, n, d] _ (by simp) ?_
  intro i hi
  simp at hi
  rcases (show i = 0 ∨ i = 1 ∨ i = 2 ∨ i = 3 by omega) with rfl | rfl | rfl | rfl <;> simp [World.cell?, h]

set_option maxHeartbeats 2000000 in
set_option maxRecDepth 100000 in
theorem between_any (a b n d : Int) (w : World) (ha : -9223372036854775808 ≤ a ∧ a < 9223372036854775808) (hb : -9223372036854775808 ≤ b ∧ b < 9223372036854775808) (hn : -9223372036854775808 ≤ n ∧ n < 9223372036854775808) (hd : -9223372036854775808 ≤ d ∧ d < 9223372036854775808) :
    Calls Try.prog 95 #[.int .i64 a, .int .i64 b, .int .i64 n, .int .i64 d] w fun e w' => ∃ v', e = .returned v' ∧ Fr w' v' 7 (btw a b n d) ∧ Below w.heap.size w w' := by
  go_enter Try.func95, Try.ntmps95
  go_wp2_with fail
  obtain ⟨W, hW, B1, R1, hbW⟩ : ∃ W, W = ((w.alloc (.cells #[.bool false, .slice none 0 0, .slice none 0 0] 49)).alloc (.cells #[.int .i64 a, .int .i64 b, .int .i64 n, .int .i64 d] 3)) ∧ Box 49 W w.heap.size (.bool false) (.slice none 0 0) (.slice none 0 0) ∧ W.heap[w.heap.size + 1]? = some (.cells #[.int .i64 a, .int .i64 b, .int .i64 n, .int .i64 d] 3 (0, 0)) ∧ Below w.heap.size w W :=
    ⟨_, rfl, (Box.new _ _ _ _ _).alloc _, by have := heap_alloc_new (w.alloc (.cells #[.bool false, .slice none 0 0, .slice none 0 0] 49)) (.cells #[.int .i64 a, .int .i64 b, .int .i64 n, .int .i64 d] 3); simpa using this, al2 _ _⟩
  rw [← hW]
  clear hW
  refine (near4_any a b n d _ _ _ R1).mono ?_
  rintro e u0 ⟨rfl, rfl⟩
  clear R1
  by_cases h4 : nr4 a b n d = true
  · obtain ⟨ra, rb, rn, rd⟩ := nr4_all h4
    have HB : Hid (btw a b n d = (a : Rat) + ((b - a : Int) : Rat) * ((n : Rat) / (d : Rat))) := by
      show btw a b n d = _
      unfold btw
      rw [if_pos h4]
    rw [h4]
    clear h4
    go_wp2_with fail
    refine (whole_any (b - a) _ (by omega) (by omega)).mono ?_
    rintro e u1 ⟨v1, rfl, hF1, hb1⟩
    replace B1 := B1.below hb1
    replace hbW : Below w.heap.size w u1 := hbW.trans (hb1.mono hbW.size)
    clear hb1
    go_wp2_with fail
    refine (make_any n d _ (by omega) (by omega) (by omega) (by omega)).mono ?_
    rintro e u2 ⟨v2, rfl, hF2, hb2⟩
    replace B1 := B1.below hb2
    replace hF1 := hF1.below hb2
    replace hbW : Below w.heap.size w u2 := hbW.trans (hb2.mono hbW.size)
    clear hb2
    go_wp2_with fail
    refine (qmul_any 2 2 _ _ _ _ _ hF1.ct hF2.ct (by decide) (by decide) (by decide) (by decide)).mono ?_
    rintro e u3 ⟨v3, rfl, hF3, hb3⟩
    replace B1 := B1.below hb3
    replace hbW : Below w.heap.size w u3 := hbW.trans (hb3.mono hbW.size)
    clear hb3 hF1 hF2
    have hX := hF3.ct
    obtain ⟨n3, x3, y3, ⟨a3, c3, b3, d3, rfl, _, _⟩, _⟩ := hF3
    have hs := B1.lt
    go_wp2_with fail
    obtain ⟨W2, hW2, B2, hb3⟩ : ∃ W2, W2 = u3.alloc (.cells #[.bool n3, .slice a3 x3.length c3, .slice b3 y3.length d3] 49) ∧ Box 49 W2 u3.heap.size (.bool n3) (.slice a3 x3.length c3) (.slice b3 y3.length d3) ∧ Below u3.heap.size u3 W2 := ⟨_, rfl, Box.new _ _ _ _ _, al1 _⟩
    rw [← hW2]
    clear hW2
    replace B1 := B1.below hb3
    replace hX := hX.below hb3
    replace hbW : Below w.heap.size w W2 := hbW.trans (hb3.mono hbW.size)
    clear hb3
    have hne : u3.heap.size ≠ w.heap.size := by omega
    clear hs
    generalize u3.heap.size = g at B2 hne ⊢
    obtain ⟨p1, p2, p3, _⟩ := B2.cells
    go_region_held3 (fun u => u.cell? ⟨g, 0, none⟩ = some (.bool n3) ∧ u.cell? ⟨g, 1, none⟩ = some (.slice a3 x3.length c3) ∧ u.cell? ⟨g, 2, none⟩ = some (.slice b3 y3.length d3)) (first | (go_keep; done) | (refine ⟨(cell_set3 hne).trans p1, (cell_set3 hne).trans p2, (cell_set3 hne).trans p3⟩))
      (first
        | (go_at_call 39
           refine (whole_any a _ ?_ ?_).mono ?_
           · omega
           · omega
           rintro e u4 ⟨v4, rfl, hF4, hb4⟩
           replace hb4 : Below W2.heap.size W2 u4 := Below.drew1.trans hb4
           replace hX := hX.below hb4
           replace B1 := B1.below hb4
           replace B2 := B2.below hb4
           replace hbW : Below w.heap.size w u4 := hbW.trans (hb4.mono hbW.size)
           clear hb4 p1 p2 p3
           obtain ⟨p1, p2, p3, _⟩ := B2.cells)
        | (go_at_call 66
           refine (qadd_any 2 4 _ _ _ _ _ hF4.ct hX (by decide) (by decide) (by decide) (by decide)).mono ?_
           rintro e u5 ⟨v5, rfl, hF5, hb5⟩
           replace B1 := B1.below hb5
           replace B2 := B2.below hb5
           replace hbW : Below w.heap.size w u5 := hbW.trans (hb5.mono hbW.size)
           replace hF5 := hF5.eq HB.out.symm
           clear hb5 hF4 hX p1 p2 p3
           obtain ⟨p1, p2, p3, _⟩ := B2.cells
           obtain ⟨q1, q2, q3, q4, q5, q6⟩ := B1.cells
           have hs := B1.lt
           obtain ⟨n', xs', ys', ⟨e1, f1, e2, f2, rfl, hx', hy'⟩, hF⟩ := hF5))
    go_wp2
    refine ret3 (v := .agg #[.bool n', .slice e1 xs'.length f1, .slice e2 ys'.length f2]) B1 rfl (fun U hU => by obtain ⟨r1, r2, r3, _⟩ := hU.cells; simp [results, Try.results95, go_sem, r1, r2, r3]) (fun U hU hK => ⟨_, rfl, ⟨_, _, _, ⟨_, _, _, _, rfl, hK _ _ _ hx', hK _ _ _ hy'⟩, hF⟩, hU _ _ hbW (by omega)⟩)
  · have e1 : nr4 a b n d = false := by simpa using h4
    have HB : Hid (btw a b n d = 0) := by
      show btw a b n d = _
      unfold btw
      rw [if_neg h4]
    rw [e1]
    clear h4 e1
    go_wp2_with fail
    refine (whole_any 0 _ (by decide) (by decide)).mono ?_
    rintro e u1 ⟨v1, rfl, hF1, hb1⟩
    replace B1 := B1.below hb1
    replace hbW : Below w.heap.size w u1 := hbW.trans (hb1.mono hbW.size)
    clear hb1
    have hs := B1.lt
    obtain ⟨q1, q2, q3, q4, q5, q6⟩ := B1.cells
    replace hF1 := (hF1.eq (r := btw a b n d) (by rw [HB.out]; rfl)).le (show 2 ≤ 7 by decide)
    obtain ⟨n', xs', ys', ⟨b, d, b', d', rfl, hx', hy'⟩, hF⟩ := hF1
    go_wp2
    refine ret3 (v := .agg #[.bool n', .slice b xs'.length d, .slice b' ys'.length d']) B1 rfl (fun U hU => by obtain ⟨r1, r2, r3, _⟩ := hU.cells; simp [results, Try.results95, go_sem, r1, r2, r3]) (fun U hU hK => ⟨_, rfl, ⟨_, _, _, ⟨_, _, _, _, rfl, hK _ _ _ hx', hK _ _ _ hy'⟩, hF⟩, hU _ _ hbW (by omega)⟩)

end Go.Proofs.Ytngmcghmniakeaa

namespace Go.Proofs.Ytngmcghmniakeaa
set_option linter.unusedSimpArgs false
set_option linter.unusedVariables false

theorem nr4_small {x y n d : Int} (hx : -2147483648 ≤ x ∧ x < 2147483648) (hy : -2147483648 ≤ y ∧ y < 2147483648) (hn : 0 ≤ n ∧ n < 65536) (hd : 0 ≤ d ∧ d < 65536) : nr4 x y n d = true := by
  simp [nr4, nr]
  omega
theorem btw_eq {x y n d : Int} (h : nr4 x y n d = true) : btw x y n d = (x : Rat) + ((y : Rat) - (x : Rat)) * ((n : Rat) / (d : Rat)) := by
  unfold btw
  rw [if_pos h, Rat.intCast_sub]
theorem btw_zero {x y d : Int} (h : nr4 x y 0 d = true) : btw x y 0 d = (x : Rat) := by
  rw [btw_eq h]
  have : ((0 : Int) : Rat) = 0 := rfl
  rw [this, Rat.div_def, Rat.zero_mul, Rat.mul_zero, Rat.add_zero]
theorem btw_end {x y d : Int} (h : nr4 x y d d = true) (hd : 0 < d) : btw x y d d = (y : Rat) := by
  rw [btw_eq h]
  have hd' : (0 : Rat) < (d : Rat) := by exact_mod_cast hd
  have : (d : Rat) / (d : Rat) = 1 := by rw [Rat.div_def]; exact Rat.mul_inv_cancel _ (by grind)
  rw [this]
  grind
theorem part_bounds {n d : Int} (hn : 0 ≤ n) (hd : 0 < d) (h : n ≤ d) : (0 : Rat) ≤ (n : Rat) / (d : Rat) ∧ (n : Rat) / (d : Rat) ≤ 1 := by
  have hd' : (0 : Rat) < (d : Rat) := by exact_mod_cast hd
  have hn' : (0 : Rat) ≤ (n : Rat) := by exact_mod_cast hn
  have hh : (n : Rat) ≤ (d : Rat) := by exact_mod_cast h
  refine ⟨?_, ?_⟩
  · rw [Rat.div_def]
    exact Rat.mul_nonneg hn' (Rat.le_of_lt (Rat.inv_pos.2 hd'))
  · have h1 := Rat.mul_le_mul_of_nonneg_right hh (Rat.le_of_lt (Rat.inv_pos.2 hd'))
    rw [Rat.mul_inv_cancel _ (by grind)] at h1
    rw [Rat.div_def]
    exact h1
theorem btw_low {x y n d l : Int} (h : nr4 x y n d = true) (hn : 0 ≤ n) (hd : 0 < d) (hnd : n ≤ d) (hx : l ≤ x) (hy : l ≤ y) : (l : Rat) ≤ btw x y n d := by
  rw [btw_eq h]
  obtain ⟨p0, p1⟩ := part_bounds hn hd hnd
  generalize (n : Rat) / (d : Rat) = p at *
  have hx' : (l : Rat) ≤ (x : Rat) := by exact_mod_cast hx
  have hy' : (l : Rat) ≤ (y : Rat) := by exact_mod_cast hy
  have e : (x : Rat) + ((y : Rat) - (x : Rat)) * p = (l : Rat) + (((x : Rat) - l) * (1 - p) + ((y : Rat) - l) * p) := by grind
  have a1 : 0 ≤ ((x : Rat) - l) * (1 - p) := Rat.mul_nonneg (by grind) (by grind)
  have a2 : 0 ≤ ((y : Rat) - l) * p := Rat.mul_nonneg (by grind) p0
  grind
theorem btw_high {x y n d l : Int} (h : nr4 x y n d = true) (hn : 0 ≤ n) (hd : 0 < d) (hnd : n ≤ d) (hx : x ≤ l) (hy : y ≤ l) : btw x y n d ≤ (l : Rat) := by
  rw [btw_eq h]
  obtain ⟨p0, p1⟩ := part_bounds hn hd hnd
  generalize (n : Rat) / (d : Rat) = p at *
  have hx' : (x : Rat) ≤ (l : Rat) := by exact_mod_cast hx
  have hy' : (y : Rat) ≤ (l : Rat) := by exact_mod_cast hy
  have e : (x : Rat) + ((y : Rat) - (x : Rat)) * p = (l : Rat) - (((l : Rat) - x) * (1 - p) + ((l : Rat) - y) * p) := by grind
  have a1 : 0 ≤ ((l : Rat) - x) * (1 - p) := Rat.mul_nonneg (by grind) (by grind)
  have a2 : 0 ≤ ((l : Rat) - y) * p := Rat.mul_nonneg (by grind) p0
  grind
theorem sgn_self (q : Rat) : sgnQ (q - q) = 0 := by
  unfold sgnQ
  rw [if_pos (by grind)]
theorem sgn_geE {q : Rat} (h : 0 ≤ q) : 0 ≤ sgnQ q := by
  unfold sgnQ
  split
  · omega
  · rw [if_neg (by grind)]; omega
theorem sgn_leE {q : Rat} (h : q ≤ 0) : sgnQ q ≤ 0 := by
  unfold sgnQ
  split
  · omega
  · rw [if_pos (by grind)]; omega

end Go.Proofs.Ytngmcghmniakeaa

namespace Go.Proofs.Ytngmcghmniakeaa
set_option linter.unusedSimpArgs false
set_option linter.unusedVariables false

/-- The first touched one on a way of m steps. -/
def nbT (t : List Bool) (f : Nat → Nat) (m : Nat) : Option Nat := ((List.range m).map f).find? (fun j => t.getD j false)
theorem nbT_succ (t : List Bool) (f : Nat → Nat) (m : Nat) : nbT t f (m + 1) = (nbT t f m).or (if t.getD (f m) false = true then some (f m) else none) := by
  unfold nbT
  rw [List.range_succ, List.map_append, List.find?_append]
  by_cases h : t.getD (f m) false = true
  · simp only [List.map_cons, List.map_nil, List.find?_cons, h, if_true]
  · have h' : t.getD (f m) false = false := by simpa using h
    simp only [List.map_cons, List.map_nil, List.find?_cons, List.find?_nil, h']
    rfl
theorem nbT_none {t : List Bool} {f : Nat → Nat} {m : Nat} (h : ∀ j, j < m → t.getD (f j) false = false) : nbT t f m = none := by
  induction m with
  | zero => rfl
  | succ m ih => rw [nbT_succ, ih (fun j hj => h j (by omega)), h m (by omega)]; rfl
theorem nbT_some {t : List Bool} {f : Nat → Nat} {m k : Nat} (hk : k < m) (h : ∀ j, j < k → t.getD (f j) false = false) (ht : t.getD (f k) false = true) : nbT t f m = some (f k) := by
  induction m with
  | zero => omega
  | succ m ih =>
    rw [nbT_succ]
    by_cases hkm : k < m
    · rw [ih hkm]; rfl
    · obtain rfl : k = m := by omega
      rw [nbT_none h, if_pos ht]; rfl
theorem nbT_spec (t : List Bool) (f : Nat → Nat) (m : Nat) : (nbT t f m = none ∧ ∀ j, j < m → t.getD (f j) false = false) ∨ ∃ k, k < m ∧ nbT t f m = some (f k) ∧ t.getD (f k) false = true := by
  induction m with
  | zero => exact .inl ⟨rfl, fun j hj => by omega⟩
  | succ m ih =>
    rcases ih with ⟨h1, h2⟩ | ⟨k, hk, h1, h2⟩
    · by_cases hm : t.getD (f m) false = true
      · exact .inr ⟨m, by omega, by rw [nbT_succ, h1, if_pos hm]; rfl, hm⟩
      · refine .inl ⟨by rw [nbT_succ, h1, if_neg hm]; rfl, fun j hj => ?_⟩
        by_cases hjm : j < m
        · exact h2 j hjm
        · obtain rfl : j = m := by omega
          simpa using hm
    · exact .inr ⟨k, by omega, by rw [nbT_succ, h1]; rfl, h2⟩
/-- A way that is seen elsewhere. -/
theorem nbT_map {t u : List Bool} {f g : Nat → Nat} {s : Nat → Nat} {m : Nat} (h1 : ∀ k, k < m → g k = s (f k)) (h2 : ∀ k, k < m → t.getD (f k) false = u.getD (g k) false) : (nbT t f m).map s = nbT u g m := by
  induction m with
  | zero => rfl
  | succ m ih =>
    rw [nbT_succ, nbT_succ, ← ih (fun k hk => h1 k (by omega)) (fun k hk => h2 k (by omega)), ← h2 m (by omega), h1 m (by omega)]
    cases nbT t f m with
    | some x => rfl
    | none =>
      by_cases h : t.getD (f m) false = true
      · simp only [if_pos h]; rfl
      · simp only [if_neg h]; rfl

/-- The ways ahead and behind. -/
def wyA (n i k : Nat) : Nat := if k < i then i - 1 - k else i + n - 1 - k
def wyB (n i k : Nat) : Nat := if i + 1 + k < n then i + 1 + k else i + 1 + k - n
theorem mod2 {x n : Nat} (h : x < 2 * n) : x % n = if x < n then x else x - n := by
  by_cases hx : x < n
  · rw [if_pos hx, Nat.mod_eq_of_lt hx]
  · rw [if_neg hx, Nat.mod_eq_sub_mod (by omega), Nat.mod_eq_of_lt (by omega)]
theorem wyA_lt {n i k : Nat} (hi : i < n) (hk : k < n) : wyA n i k < n := by unfold wyA; split <;> omega
theorem wyB_lt {n i k : Nat} (hi : i < n) (hk : k < n) : wyB n i k < n := by unfold wyB; split <;> omega
theorem wyA_ne {n i k : Nat} (hi : i < n) (hk : k < n - 1) : wyA n i k ≠ i := by unfold wyA; split <;> omega
theorem wyB_ne {n i k : Nat} (hi : i < n) (hk : k < n - 1) : wyB n i k ≠ i := by unfold wyB; split <;> omega
theorem wyA_end {n i : Nat} (hi : i < n) : wyA n i (n - 1) = i := by unfold wyA; split <;> omega
theorem wyB_end {n i : Nat} (hi : i < n) : wyB n i (n - 1) = i := by unfold wyB; split <;> omega
theorem wyA_zero {n i : Nat} (hi : i < n) : (i + (n - 1)) % n = wyA n i 0 := by rw [mod2 (by omega)]; unfold wyA; split <;> split <;> omega
theorem wyB_zero {n i : Nat} (hi : i < n) : (i + 1) % n = wyB n i 0 := by rw [mod2 (by omega)]; unfold wyB; rw [Nat.add_zero]
theorem wyA_succ {n i k : Nat} (hi : i < n) (hk : k + 1 < n) : (wyA n i k + (n - 1)) % n = wyA n i (k + 1) := by
  rw [mod2 (by have := wyA_lt hi (show k < n by omega); omega)]
  unfold wyA
  split <;> split <;> split <;> omega
theorem wyB_succ {n i k : Nat} (hi : i < n) (hk : k + 1 < n) : (wyB n i k + 1) % n = wyB n i (k + 1) := by
  rw [mod2 (by have := wyB_lt hi (show k < n by omega); omega)]
  unfold wyB
  split <;> split <;> split <;> omega
theorem wyA_onto {n i j : Nat} (hi : i < n) (hj : j < n) (hne : j ≠ i) : ∃ k, k < n - 1 ∧ wyA n i k = j := by
  by_cases h : j < i
  · exact ⟨i - 1 - j, by omega, by unfold wyA; rw [if_pos (by omega)]; omega⟩
  · exact ⟨i + n - 1 - j, by omega, by unfold wyA; rw [if_neg (by omega)]; omega⟩
theorem wyB_onto {n i j : Nat} (hi : i < n) (hj : j < n) (hne : j ≠ i) : ∃ k, k < n - 1 ∧ wyB n i k = j := by
  by_cases h : j < i
  · exact ⟨j + n - 1 - i, by omega, by unfold wyB; rw [if_neg (by omega)]; omega⟩
  · exact ⟨j - 1 - i, by omega, by unfold wyB; rw [if_pos (by omega)]; omega⟩
/-- The nearest touched ones. -/
def nbA (t : List Bool) (i : Nat) : Option Nat := nbT t (wyA t.length i) (t.length - 1)
def nbB (t : List Bool) (i : Nat) : Option Nat := nbT t (wyB t.length i) (t.length - 1)
theorem nbA_spec {t : List Bool} {i : Nat} (hi : i < t.length) : (nbA t i = none ∧ ∀ j, j < t.length → j ≠ i → t.getD j false = false) ∨ ∃ a, a < t.length ∧ a ≠ i ∧ nbA t i = some a ∧ t.getD a false = true := by
  rcases nbT_spec t (wyA t.length i) (t.length - 1) with ⟨h1, h2⟩ | ⟨k, hk, h1, h2⟩
  · refine .inl ⟨h1, fun j hj hne => ?_⟩
    obtain ⟨k, hk, e⟩ := wyA_onto hi hj hne
    rw [← e]
    exact h2 k hk
  · exact .inr ⟨_, wyA_lt hi (by omega), wyA_ne hi hk, h1, h2⟩
theorem nbB_spec {t : List Bool} {i : Nat} (hi : i < t.length) : (nbB t i = none ∧ ∀ j, j < t.length → j ≠ i → t.getD j false = false) ∨ ∃ a, a < t.length ∧ a ≠ i ∧ nbB t i = some a ∧ t.getD a false = true := by
  rcases nbT_spec t (wyB t.length i) (t.length - 1) with ⟨h1, h2⟩ | ⟨k, hk, h1, h2⟩
  · refine .inl ⟨h1, fun j hj hne => ?_⟩
    obtain ⟨k, hk, e⟩ := wyB_onto hi hj hne
    rw [← e]
    exact h2 k hk
  · exact .inr ⟨_, wyB_lt hi (by omega), wyB_ne hi hk, h1, h2⟩
/-- Both are there, or none. -/
theorem nbAB {t : List Bool} {i : Nat} (hi : i < t.length) : (nbA t i = none ∧ nbB t i = none ∧ ∀ j, j < t.length → j ≠ i → t.getD j false = false) ∨ ∃ a b, nbA t i = some a ∧ nbB t i = some b ∧ a < t.length ∧ b < t.length ∧ a ≠ i ∧ b ≠ i ∧ t.getD a false = true ∧ t.getD b false = true := by
  rcases nbA_spec hi with ⟨h1, h2⟩ | ⟨a, h1, h2, h3, h4⟩
  · rcases nbB_spec hi with ⟨k1, k2⟩ | ⟨b, k1, k2, k3, k4⟩
    · exact .inl ⟨h1, k1, h2⟩
    · rw [h2 b k1 k2] at k4; cases k4
  · rcases nbB_spec hi with ⟨k1, k2⟩ | ⟨b, k1, k2, k3, k4⟩
    · rw [k2 a h1 h2] at h4; cases h4
    · exact .inr ⟨a, b, h3, k3, h1, k1, h2, k2, h4, k4⟩

/-- What is inferred between two. -/
def segQ (a x b y c : Int) : Rat := if c ≤ a then (x : Rat) else if b ≤ c then (y : Rat) else btw x y (c - a) (b - a)
def infQ (a x b y c : Int) : Rat := if a = b then (if x = y then (x : Rat) else 0) else if a < b then segQ a x b y c else segQ b y a x c
theorem infQ_comm (a x b y c : Int) : infQ a x b y c = infQ b y a x c := by
  unfold infQ
  by_cases h : a = b
  · rw [if_pos h, if_pos h.symm]
    by_cases hx : x = y
    · rw [if_pos hx, if_pos hx.symm, hx]
    · rw [if_neg hx, if_neg (fun e => hx e.symm)]
  · have h' : ¬ b = a := fun e => h e.symm
    rw [if_neg h, if_neg h']
    by_cases hl : a < b
    · have h2 : ¬ b < a := by omega
      rw [if_pos hl, if_neg h2]
    · have h2 : b < a := by omega
      rw [if_neg hl, if_pos h2]
theorem nr4_fd {x y c a b : Int} (hx : -32768 ≤ x ∧ x ≤ 32767) (hy : -32768 ≤ y ∧ y ≤ 32767) (hc : -32768 ≤ c ∧ c ≤ 32767) (ha : -32768 ≤ a ∧ a ≤ 32767) (hb : -32768 ≤ b ∧ b ≤ 32767) : nr4 x y (c - a) (b - a) = true := by
  simp [nr4, nr]
  omega
theorem segQ_bounds {a x b y c l m : Int} (hx : -32768 ≤ x ∧ x ≤ 32767) (hy : -32768 ≤ y ∧ y ≤ 32767) (hc : -32768 ≤ c ∧ c ≤ 32767) (ha : -32768 ≤ a ∧ a ≤ 32767) (hb : -32768 ≤ b ∧ b ≤ 32767) (hab : a < b) (lx : l ≤ x) (ly : l ≤ y) (mx : x ≤ m) (my : y ≤ m) : (l : Rat) ≤ segQ a x b y c ∧ segQ a x b y c ≤ (m : Rat) := by
  unfold segQ
  split
  · exact ⟨by exact_mod_cast lx, by exact_mod_cast mx⟩
  · split
    · exact ⟨by exact_mod_cast ly, by exact_mod_cast my⟩
    · exact ⟨btw_low (nr4_fd hx hy hc ha hb) (by omega) (by omega) (by omega) lx ly, btw_high (nr4_fd hx hy hc ha hb) (by omega) (by omega) (by omega) mx my⟩
theorem infQ_bounds {a x b y c l m : Int} (hx : -32768 ≤ x ∧ x ≤ 32767) (hy : -32768 ≤ y ∧ y ≤ 32767) (hc : -32768 ≤ c ∧ c ≤ 32767) (ha : -32768 ≤ a ∧ a ≤ 32767) (hb : -32768 ≤ b ∧ b ≤ 32767) (lx : l ≤ x) (ly : l ≤ y) (mx : x ≤ m) (my : y ≤ m) : infQ a x b y c = 0 ∨ ((l : Rat) ≤ infQ a x b y c ∧ infQ a x b y c ≤ (m : Rat)) := by
  unfold infQ
  split
  · split
    · exact .inr ⟨by exact_mod_cast lx, by exact_mod_cast mx⟩
    · exact .inl rfl
  · split
    · exact .inr (segQ_bounds hx hy hc ha hb (by assumption) lx ly mx my)
    · exact .inr (segQ_bounds hy hx hc hb ha (by omega) ly lx my mx)
/-- Two that change alike. -/
theorem infQ_alike {a x b c : Int} (hx : -32768 ≤ x ∧ x ≤ 32767) (hc : -32768 ≤ c ∧ c ≤ 32767) (ha : -32768 ≤ a ∧ a ≤ 32767) (hb : -32768 ≤ b ∧ b ≤ 32767) : infQ a x b x c = (x : Rat) := by
  unfold infQ
  split
  · rw [if_pos rfl]
  · split
    · obtain ⟨h1, h2⟩ := segQ_bounds (l := x) (m := x) hx hx hc ha hb (by assumption) (Int.le_refl _) (Int.le_refl _) (Int.le_refl _) (Int.le_refl _)
      grind
    · obtain ⟨h1, h2⟩ := segQ_bounds (a := b) (b := a) (l := x) (m := x) hx hx hc hb ha (by omega) (Int.le_refl _) (Int.le_refl _) (Int.le_refl _) (Int.le_refl _)
      grind

/-- The change of number i, told or inferred. -/
def fiQ (ns : List Int) (ts : List Bool) (cs : List Int) (i : Nat) : Rat :=
  if ts.getD i false = true then ((cs.getD i 0 : Int) : Rat) else
    match nbA ts i, nbB ts i with
    | some a, some b => infQ (ns.getD a 0) (cs.getD a 0) (ns.getD b 0) (cs.getD b 0) (ns.getD i 0)
    | _, _ => 0
/-- Lists that fit. -/
def fitB (ns : List Int) (ts : List Bool) (cs : List Int) : Bool := decide (ts.length = ns.length ∧ cs.length = ns.length ∧ ns.length ≤ 80) && (ns.all fdB && cs.all fdB)
/-- What Fill answers. -/
def fillQ (ns : List Int) (ts : List Bool) (cs : List Int) : List Rat := if fitB ns ts cs = true then (List.range ns.length).map (fiQ ns ts cs) else []
theorem fillQ_no {ns : List Int} {ts : List Bool} {cs : List Int} (h : fitB ns ts cs = false) : fillQ ns ts cs = [] := by
  unfold fillQ
  rw [h]
  rfl
theorem fillQ_yes {ns : List Int} {ts : List Bool} {cs : List Int} (h : fitB ns ts cs = true) : fillQ ns ts cs = (List.range ns.length).map (fiQ ns ts cs) := if_pos h
theorem fillQ_len {ns : List Int} {ts : List Bool} {cs : List Int} (h : fitB ns ts cs = true) : (fillQ ns ts cs).length = ns.length := by rw [fillQ_yes h]; simp
theorem fillQ_get {ns : List Int} {ts : List Bool} {cs : List Int} (h : fitB ns ts cs = true) {i : Nat} (hi : i < ns.length) : (fillQ ns ts cs).getD i 0 = fiQ ns ts cs i := by rw [fillQ_yes h]; simp [List.getD, hi]
theorem fitB_iff {ns : List Int} {ts : List Bool} {cs : List Int} : fitB ns ts cs = true ↔ (ts.length = ns.length ∧ cs.length = ns.length ∧ ns.length ≤ 80) ∧ (∀ z ∈ ns, -32768 ≤ z ∧ z ≤ 32767) ∧ ∀ z ∈ cs, -32768 ≤ z ∧ z ≤ 32767 := by
  unfold fitB
  simp only [Bool.and_eq_true, decide_eq_true_iff, List.all_eq_true, fdB_iff]
theorem fd_getD {l : List Int} (h : ∀ z ∈ l, -32768 ≤ z ∧ z ≤ 32767) (i : Nat) : -32768 ≤ l.getD i 0 ∧ l.getD i 0 ≤ 32767 := by
  by_cases hi : i < l.length
  · rw [List.getD_eq_getElem?_getD, List.getElem?_eq_getElem hi, Option.getD_some]
    exact h _ (List.getElem_mem hi)
  · rw [List.getD_eq_getElem?_getD, List.getElem?_eq_none (by omega), Option.getD_none]
    omega
theorem fiQ_own {ns : List Int} {ts : List Bool} {cs : List Int} {i : Nat} (h : ts.getD i false = true) : fiQ ns ts cs i = ((cs.getD i 0 : Int) : Rat) := if_pos h
theorem fiQ_two {ns : List Int} {ts : List Bool} {cs : List Int} {i a b : Nat} (h : ts.getD i false = false) (ha : nbA ts i = some a) (hb : nbB ts i = some b) : fiQ ns ts cs i = infQ (ns.getD a 0) (cs.getD a 0) (ns.getD b 0) (cs.getD b 0) (ns.getD i 0) := by
  unfold fiQ
  rw [h, ha, hb]
  rfl
theorem fiQ_nil {ns : List Int} {ts : List Bool} {cs : List Int} {i : Nat} (h : ts.getD i false = false) (ha : nbA ts i = none) : fiQ ns ts cs i = 0 := by
  unfold fiQ
  rw [h, ha]
  rfl
/-- Nothing is touched. -/
theorem fiQ_none {ns : List Int} {ts : List Bool} {cs : List Int} {i : Nat} (hi : i < ts.length) (h : ∀ j, j < ts.length → ts.getD j false = false) : fiQ ns ts cs i = 0 := by
  rcases nbAB hi with ⟨h1, h2, _⟩ | ⟨a, b, h1, h2, h3, h4, h5, h6, h7, h8⟩
  · exact fiQ_nil (h i hi) h1
  · rw [h a h3] at h7; cases h7
/-- One is. -/
theorem fiQ_one {ns : List Int} {ts : List Bool} {cs : List Int} {i p : Nat} (hi : i < ts.length) (hp : p < ts.length) (ht : ts.getD p false = true) (h : ∀ j, j < ts.length → ts.getD j false = true → j = p) : fiQ ns ts cs i = ((cs.getD p 0 : Int) : Rat) := by
  by_cases hti : ts.getD i false = true
  · rw [fiQ_own hti, h i hi hti]
  · have hti : ts.getD i false = false := by simpa using hti
    rcases nbAB hi with ⟨h1, h2, h3⟩ | ⟨a, b, h1, h2, h3, h4, h5, h6, h7, h8⟩
    · by_cases hpi : p = i
      · rw [hpi, hti] at ht; cases ht
      · rw [h3 p hp hpi] at ht; cases ht
    · obtain rfl := h a h3 h7
      obtain rfl := h b h4 h8
      rw [fiQ_two hti h1 h2]
      unfold infQ
      rw [if_pos rfl, if_pos rfl]
/-- All that is inferred lies between. -/
theorem fiQ_bounds {ns : List Int} {ts : List Bool} {cs : List Int} {i : Nat} {l m : Int} (hF : fitB ns ts cs = true) (hi : i < ns.length) (hl : ∀ j, j < ns.length → ts.getD j false = true → l ≤ cs.getD j 0) (hm : ∀ j, j < ns.length → ts.getD j false = true → cs.getD j 0 ≤ m) : fiQ ns ts cs i = 0 ∨ ((l : Rat) ≤ fiQ ns ts cs i ∧ fiQ ns ts cs i ≤ (m : Rat)) := by
  obtain ⟨⟨e1, e2, e3⟩, hn, hc⟩ := fitB_iff.1 hF
  have hi' : i < ts.length := by omega
  by_cases hti : ts.getD i false = true
  · rw [fiQ_own hti]
    exact .inr ⟨by exact_mod_cast hl i hi hti, by exact_mod_cast hm i hi hti⟩
  · have hti : ts.getD i false = false := by simpa using hti
    rcases nbAB hi' with ⟨h1, h2, _⟩ | ⟨a, b, h1, h2, h3, h4, h5, h6, h7, h8⟩
    · exact .inl (fiQ_nil hti h1)
    · rw [fiQ_two hti h1 h2]
      exact infQ_bounds (fd_getD hc _) (fd_getD hc _) (fd_getD hn _) (fd_getD hn _) (fd_getD hn _) (hl a (by omega) h7) (hl b (by omega) h8) (hm a (by omega) h7) (hm b (by omega) h8)
/-- All that are touched change alike. -/
theorem fiQ_alike {ns : List Int} {ts : List Bool} {cs : List Int} {i p : Nat} {x : Int} (hF : fitB ns ts cs = true) (hi : i < ns.length) (hp : p < ns.length) (ht : ts.getD p false = true) (hx : ∀ j, j < ns.length → cs.getD j 0 = x) : fiQ ns ts cs i = (x : Rat) := by
  obtain ⟨⟨e1, e2, e3⟩, hn, hc⟩ := fitB_iff.1 hF
  have hi' : i < ts.length := by omega
  by_cases hti : ts.getD i false = true
  · rw [fiQ_own hti, hx i hi]
  · have hti : ts.getD i false = false := by simpa using hti
    rcases nbAB hi' with ⟨h1, h2, h3⟩ | ⟨a, b, h1, h2, h3, h4, h5, h6, h7, h8⟩
    · by_cases hpi : p = i
      · rw [hpi, hti] at ht; cases ht
      · rw [h3 p (by omega) hpi] at ht; cases ht
    · rw [fiQ_two hti h1 h2, hx a (by omega), hx b (by omega)]
      have hxx := fd_getD hc a
      rw [hx a (by omega)] at hxx
      exact infQ_alike hxx (fd_getD hn _) (fd_getD hn _) (fd_getD hn _)
/-- A contour that begins elsewhere, or goes the other way round. -/
theorem fiQ_turn {ns ms : List Int} {ts us : List Bool} {cs ds : List Int} {n d i : Nat} (l1 : ts.length = n) (l2 : us.length = n) (hi : i < n) (hd : d < n) (h1 : ∀ j, j < n → ms.getD j 0 = ns.getD ((j + d) % n) 0) (h2 : ∀ j, j < n → us.getD j false = ts.getD ((j + d) % n) false) (h3 : ∀ j, j < n → ds.getD j 0 = cs.getD ((j + d) % n) 0) : fiQ ms us ds i = fiQ ns ts cs ((i + d) % n) := by
  have hA : (nbA us i).map (fun j => (j + d) % n) = nbA ts ((i + d) % n) := by
    unfold nbA
    rw [l1, l2]
    refine nbT_map (fun k hk => ?_) (fun k hk => ?_)
    · have := wyA_lt hi (show k < n by omega)
      rw [mod2 (show wyA n i k + d < 2 * n by omega), mod2 (show i + d < 2 * n by omega)]
      unfold wyA
      split <;> split <;> split <;> split <;> omega
    · rw [h2 _ (wyA_lt hi (by omega))]
      congr 1
      have := wyA_lt hi (show k < n by omega)
      rw [mod2 (show wyA n i k + d < 2 * n by omega), mod2 (show i + d < 2 * n by omega)]
      unfold wyA
      split <;> split <;> split <;> split <;> omega
  have hB : (nbB us i).map (fun j => (j + d) % n) = nbB ts ((i + d) % n) := by
    unfold nbB
    rw [l1, l2]
    refine nbT_map (fun k hk => ?_) (fun k hk => ?_)
    · have := wyB_lt hi (show k < n by omega)
      rw [mod2 (show wyB n i k + d < 2 * n by omega), mod2 (show i + d < 2 * n by omega)]
      unfold wyB
      split <;> split <;> split <;> split <;> omega
    · rw [h2 _ (wyB_lt hi (by omega))]
      congr 1
      have := wyB_lt hi (show k < n by omega)
      rw [mod2 (show wyB n i k + d < 2 * n by omega), mod2 (show i + d < 2 * n by omega)]
      unfold wyB
      split <;> split <;> split <;> split <;> omega
  have hu := h2 i hi
  have hi2 : i < us.length := by omega
  by_cases hti : us.getD i false = true
  · rw [fiQ_own hti, fiQ_own (by rw [← hu]; exact hti), h3 i hi]
  · have hti : us.getD i false = false := by simpa using hti
    rcases nbAB hi2 with ⟨k1, k2, _⟩ | ⟨a, b, k1, k2, k3, k4, k5⟩
    · rw [k1] at hA
      rw [fiQ_nil hti k1, fiQ_nil (by rw [← hu]; exact hti) hA.symm]
    · rw [k1] at hA
      rw [k2] at hB
      rw [fiQ_two hti k1 k2, fiQ_two (by rw [← hu]; exact hti) hA.symm hB.symm, h1 a (by omega), h1 b (by omega), h1 i hi, h3 a (by omega), h3 b (by omega)]
theorem fiQ_back {ns ms : List Int} {ts us : List Bool} {cs ds : List Int} {n i : Nat} (l1 : ts.length = n) (l2 : us.length = n) (hi : i < n) (h1 : ∀ j, j < n → ms.getD j 0 = ns.getD (n - 1 - j) 0) (h2 : ∀ j, j < n → us.getD j false = ts.getD (n - 1 - j) false) (h3 : ∀ j, j < n → ds.getD j 0 = cs.getD (n - 1 - j) 0) : fiQ ms us ds i = fiQ ns ts cs (n - 1 - i) := by
  have hA : (nbA us i).map (fun j => n - 1 - j) = nbB ts (n - 1 - i) := by
    unfold nbA nbB
    rw [l1, l2]
    refine nbT_map (fun k hk => ?_) (fun k hk => ?_)
    · unfold wyA wyB
      split <;> split <;> omega
    · rw [h2 _ (wyA_lt hi (by omega))]
      congr 1
      unfold wyA wyB
      split <;> split <;> omega
  have hB : (nbB us i).map (fun j => n - 1 - j) = nbA ts (n - 1 - i) := by
    unfold nbA nbB
    rw [l1, l2]
    refine nbT_map (fun k hk => ?_) (fun k hk => ?_)
    · unfold wyA wyB
      split <;> split <;> omega
    · rw [h2 _ (wyB_lt hi (by omega))]
      congr 1
      unfold wyA wyB
      split <;> split <;> omega
  have hu := h2 i hi
  have hi2 : i < us.length := by omega
  by_cases hti : us.getD i false = true
  · rw [fiQ_own hti, fiQ_own (by rw [← hu]; exact hti), h3 i hi]
  · have hti : us.getD i false = false := by simpa using hti
    rcases nbAB hi2 with ⟨k1, k2, _⟩ | ⟨a, b, k1, k2, k3, k4, k5⟩
    · rw [k2] at hB
      rw [fiQ_nil hti k1, fiQ_nil (by rw [← hu]; exact hti) hB.symm]
    · rw [k1] at hA
      rw [k2] at hB
      rw [fiQ_two hti k1 k2, fiQ_two (by rw [← hu]; exact hti) hB.symm hA.symm, h1 a (by omega), h1 b (by omega), h1 i hi, h3 a (by omega), h3 b (by omega)]
      exact infQ_comm _ _ _ _ _

end Go.Proofs.Ytngmcghmniakeaa

namespace Go.Proofs.Ytngmcghmniakeaa
open Go.RowKit Go.Maps
set_option linter.unusedSimpArgs false
set_option linter.unusedVariables false

/-- A page: its bytes, the places that wait, whether it has failed. -/
structure St where
  bs : List Nat
  ws : List Int
  no : Bool

/-- A page of the document: bytes; no place waits twice, and each has its four bytes. -/
def Wf (s : St) : Prop := Byt s.bs ∧ s.ws.Nodup ∧ (∀ x ∈ s.ws, 0 ≤ x ∧ x + 4 ≤ (s.bs.length : Int)) ∧ 4 * s.ws.length ≤ s.bs.length

def St.zero : St := ⟨[], [], false⟩
def St.fail (s : St) : St := { s with no := true }
/-- Bytes are put, unless the page has failed. -/
def St.app (s : St) (xs : List Nat) : St := if s.no then s else { s with bs := s.bs ++ xs }

theorem Wf.zero : Wf St.zero := ⟨Byt.nil, List.nodup_nil, (fun x hx => by cases hx), Nat.le_refl _⟩
theorem Wf.fail {s : St} (h : Wf s) : Wf s.fail := h
theorem Wf.app {s : St} (h : Wf s) {xs : List Nat} (hx : Byt xs) : Wf (s.app xs) := by
  unfold St.app
  split
  · exact h
  · exact ⟨h.1.append hx, h.2.1, fun x hxs => by have := h.2.2.1 x hxs; simp; omega, by have := h.2.2.2; simp; omega⟩
theorem St.app_bad {s : St} (h : s.no = true) (xs : List Nat) : s.app xs = s := by simp [St.app, h]
theorem St.app_ok {s : St} (h : s.no = false) (xs : List Nat) : s.app xs = { s with bs := s.bs ++ xs } := by simp [St.app, h]
theorem St.app_no (s : St) (xs : List Nat) : (s.app xs).no = s.no := by unfold St.app; split <;> rfl
theorem St.app_len (s : St) (xs : List Nat) : (s.app xs).bs.length ≤ s.bs.length + xs.length := by unfold St.app; split <;> simp

/-- A row of bytes, none of whose blocks lies in G. -/
def Row (w : World) (G : Nat → Prop) (v : Value) (xs : List Nat) : Prop :=
  w.ownsRow 0 5 1 v xs.length (xs.map Y) ∧ ∀ g, v.ownBlock = some g → ¬ G g

/-- The map of the places that wait. -/
def Wts (w : World) (G : Nat → Prop) (v : Value) (ws : List Int) : Prop :=
  (v = .map none ∧ ws = []) ∨ ∃ m D, v = .map (some m) ∧ ¬ G m ∧ w.ownsMap Try.prog 3 (unitElem (H := Unit)) m ws.length D ∧
    (∀ x : Int, Maps.has D (.int .i64 x) = decide (x ∈ ws)) ∧ Maps.size D = ws.length

/-- What is owned stays owned while the blocks outside G stay. -/
theorem Row.stay {w w' : World} {G : Nat → Prop} {v : Value} {xs : List Nat} (h : Row w G v xs) (hb : ∀ k, k < w.heap.size → ¬ G k → w'.heap[k]? = w.heap[k]?) : Row w' G v xs := by
  obtain ⟨⟨h1, h2⟩, hG⟩ := h
  refine ⟨⟨h1, ?_⟩, hG⟩
  rcases h2 with h2 | ⟨g, cap, cur, e, h3, h4, h5⟩
  · exact .inl h2
  · exact .inr ⟨g, cap, cur, e, h3, (hb g (Array.getElem?_eq_some_iff.1 h4).1 (hG g (by rw [e]; rfl))).trans h4, h5⟩
/-- The row's block holds bytes: it is no page. -/
theorem Row.ne {w : World} {G : Nat → Prop} {v : Value} {xs : List Nat} (h : Row w G v xs) {B : Nat} {cs : Array Value} {t : TypeId} {f : Nat × Nat} (hB : w.heap[B]? = some (.cells cs t f)) (ht : t ≠ 5) : v.ownBlock ≠ some B := by
  obtain ⟨⟨h1, h2⟩, hG⟩ := h
  rcases h2 with ⟨rfl, _⟩ | ⟨g, cap, cur, rfl, h3, h4, h5⟩
  · intro e; cases e
  · intro e
    simp only [Value.ownBlock, Option.some.injEq] at e
    subst e
    rw [h4] at hB
    simp at hB
    exact ht hB.2.1.symm
theorem Row.ne_map {w : World} {G : Nat → Prop} {v : Value} {xs : List Nat} (h : Row w G v xs) {m : Nat} {es : Array MapEntry} {c : Nat} (hB : w.heap[m]? = some (.map es c)) : v.ownBlock ≠ some m := by
  obtain ⟨⟨h1, h2⟩, hG⟩ := h
  rcases h2 with ⟨rfl, _⟩ | ⟨g, cap, cur, rfl, h3, h4, h5⟩
  · intro e; cases e
  · intro e
    simp only [Value.ownBlock, Option.some.injEq] at e
    subst e
    rw [h4] at hB
    simp at hB
/-- .. while all but the page's own cells stays. -/
theorem Row.off {w w' : World} {G : Nat → Prop} {v : Value} {xs : List Nat} (h : Row w G v xs) {B : Nat} {cs : Array Value} {t : TypeId} {f : Nat × Nat} (hB : w.heap[B]? = some (.cells cs t f)) (ht : t ≠ 5)
    (hb : ∀ k, k < w.heap.size → k ≠ B → w'.heap[k]? = w.heap[k]?) : Row w' G v xs := by
  have hne := h.ne hB ht
  obtain ⟨⟨h1, h2⟩, hG⟩ := h
  refine ⟨⟨h1, ?_⟩, hG⟩
  rcases h2 with h2 | ⟨g, cap, cur, e, h3, h4, h5⟩
  · exact .inl h2
  · exact .inr ⟨g, cap, cur, e, h3, (hb g (Array.getElem?_eq_some_iff.1 h4).1 (fun e' => hne (by rw [e, ← e']; rfl))).trans h4, h5⟩
theorem Row.slice {w : World} {G : Nat → Prop} {v : Value} {xs : List Nat} (h : Row w G v xs) : ∃ a c, v = .slice a xs.length c := by
  rcases h.1.2 with ⟨e, h0⟩ | ⟨g, cap, cur, e, _⟩
  · exact ⟨none, 0, by rw [e, h0]⟩
  · exact ⟨_, cap, e⟩
theorem Row.no8 {w : World} {G : Nat → Prop} {v : Value} {xs : List Nat} (h : Row w G v xs) (z : Int) : v ≠ .int .u8 z := by
  obtain ⟨a, c, rfl⟩ := h.slice
  intro e; cases e
theorem Wts.no8 {w : World} {G : Nat → Prop} {v : Value} {ws : List Int} (h : Wts w G v ws) (z : Int) : v ≠ .int .u8 z := by
  rcases h with ⟨rfl, _⟩ | ⟨m, D, rfl, _⟩ <;> (intro e; cases e)
/-- The map stays while a block of cells is written. -/
theorem Wts.off {w w' : World} {G : Nat → Prop} {v : Value} {ws : List Int} (h : Wts w G v ws) {B : Nat} (hB : ∀ es c, w.heap[B]? ≠ some (.map es c))
    (hb : ∀ k, k < w.heap.size → k ≠ B → w'.heap[k]? = w.heap[k]?) : Wts w' G v ws := by
  rcases h with h | ⟨m, D, e, hG, ho, h1, h2⟩
  · exact .inl h
  · have hlt := ho.lt
    obtain ⟨es, clock, hb0, F, hs, hD⟩ := ho
    exact .inr ⟨m, D, e, hG, ⟨es, clock, (hb m hlt (fun e' => hB es clock (e' ▸ hb0))).trans hb0, F, hs, hD⟩, h1, h2⟩
/-- The map stays while the page's row grows. -/
theorem Wts.grown {w w' : World} {G : Nat → Prop} {v : Value} {ws : List Int} (h : Wts w G v ws) {G' : Nat → Prop} {u : Value} {xs : List Nat} (hr : Row w G' u xs) (hg : w.grownBy w' u.ownBlock) : Wts w' G v ws := by
  rcases h with h | ⟨m, D, e, hG, ho, h1, h2⟩
  · exact .inl h
  · have hlt := ho.lt
    obtain ⟨es, clock, hb0, F, hs, hD⟩ := ho
    exact .inr ⟨m, D, e, hG, ⟨es, clock, (hg.block m hlt (Ne.symm (hr.ne_map hb0))).trans hb0, F, hs, hD⟩, h1, h2⟩
theorem Wts.stay {w w' : World} {G : Nat → Prop} {v : Value} {ws : List Int} (h : Wts w G v ws) (hb : ∀ k, k < w.heap.size → ¬ G k → w'.heap[k]? = w.heap[k]?) : Wts w' G v ws := by
  rcases h with h | ⟨m, D, e, hG, ho, h1, h2⟩
  · exact .inl h
  · have hlt := ho.lt
    obtain ⟨es, clock, hb0, F, hs, hD⟩ := ho
    exact .inr ⟨m, D, e, hG, ⟨es, clock, (hb m hlt hG).trans hb0, F, hs, hD⟩, h1, h2⟩
end Go.Proofs.Ytngmcghmniakeaa

namespace Go.Proofs.Ytngmcghmniakeaa
open Go.RowKit Go.Maps
set_option linter.unusedSimpArgs false
set_option linter.unusedVariables false

theorem info_byte : (Try.prog.info? 5).map (fun i => (i.zero, i.size, i.bytes)) = some (some (.int .u8 0), 1, 1) := by kernel_rfl

/-- A page's pointer. -/
abbrev pg (B : Nat) : Value := .pointer (some ⟨B, 0, none⟩)

end Go.Proofs.Ytngmcghmniakeaa
