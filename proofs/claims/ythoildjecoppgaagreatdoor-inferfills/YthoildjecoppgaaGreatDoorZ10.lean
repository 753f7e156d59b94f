/-
  fixed.Between: the walk.
  Fractions between two numbers, and signs (plain mathematics; split off FixedEnds' walk).
  What is known of a slice of bytes in a world: where it is read (Rb), and where it is a row of the call's own (Rw). Two laws on append. Worlds that are as they were but for some blocks (Keep).
  Fields (plain mathematics).
-/
import Derived.Test.YthoildjecoppgaaGreatDoorZ9
import Derived.Deep.RegionHeld3
import Derived.Test.YthoildjecoppgaaGreatDoorProg
import Derived.WalkKit
import Derived.ProofKit
import Derived.Below
import Derived.Laws.AppendOwnNone
import Derived.Maps.AppendAt
import Derived.Maps.OwnSet
namespace Go.Proofs.YthoildjecoppgaaGreatDoor
open Go.RowKit
set_option linter.unusedSimpArgs false
set_option linter.unusedVariables false

/-- All four are near. -/
def nr4 (a b n d : Int) : Bool := [a, b, n, d].all nr
/-- The fraction between. -/
def btw (a b n d : Int) : Rat := if nr4 a b n d = true then (a : Rat) + ((b - a : Int) : Rat) * ((n : Rat) / (d : Rat)) else 0
theorem nr4_all {a b n d : Int} (h : nr4 a b n d = true) : (-1099511627776 ≤ a ∧ a ≤ 1099511627776) ∧ (-1099511627776 ≤ b ∧ b ≤ 1099511627776) ∧ (-1099511627776 ≤ n ∧ n ≤ 1099511627776) ∧ (-1099511627776 ≤ d ∧ d ≤ 1099511627776) := by
  simp [nr4, nr] at h
  omega

/-- near, of four numbers in a row. -/
theorem near4_any (a b n d : Int) (t : TypeId) (g : Nat) (w : World) (h : w.heap[g]? = some (.cells #[.int .i64 a, .int .i64 b, .int .i64 n, .int .i64 d] t (0, 0))) :
    Calls Tryz.prog 78 #[.slice (some ⟨g, 0, none⟩) 4 4] w fun e w' => e = .returned (.bool (nr4 a b n d)) ∧ w = w' := by
  refine near_any g [a, b, n, d] _ (by simp) ?_
  intro i hi
  simp at hi
  rcases (show i = 0 ∨ i = 1 ∨ i = 2 ∨ i = 3 by omega) with rfl | rfl | rfl | rfl <;> simp [World.cell?, h]

set_option maxHeartbeats 2000000 in
set_option maxRecDepth 100000 in
theorem between_any (a b n d : Int) (w : World) (ha : -9223372036854775808 ≤ a ∧ a < 9223372036854775808) (hb : -9223372036854775808 ≤ b ∧ b < 9223372036854775808) (hn : -9223372036854775808 ≤ n ∧ n < 9223372036854775808) (hd : -9223372036854775808 ≤ d ∧ d < 9223372036854775808) :
    Calls Tryz.prog 56 #[.int .i64 a, .int .i64 b, .int .i64 n, .int .i64 d] w fun e w' => ∃ v', e = .returned v' ∧ Fr w' v' 7 (btw a b n d) ∧ Below w.heap.size w w' := by
  go_enter Tryz.func56, Tryz.ntmps56
  go_wp2_with fail
  obtain ⟨W, hW, B1, R1, hbW⟩ : ∃ W, W = ((w.alloc (.cells #[.bool false, .slice none 0 0, .slice none 0 0] 51)).alloc (.cells #[.int .i64 a, .int .i64 b, .int .i64 n, .int .i64 d] 3)) ∧ Box 51 W w.heap.size (.bool false) (.slice none 0 0) (.slice none 0 0) ∧ W.heap[w.heap.size + 1]? = some (.cells #[.int .i64 a, .int .i64 b, .int .i64 n, .int .i64 d] 3 (0, 0)) ∧ Below w.heap.size w W :=
    ⟨_, rfl, (Box.new _ _ _ _ _).alloc _, by have := heap_alloc_new (w.alloc (.cells #[.bool false, .slice none 0 0, .slice none 0 0] 51)) (.cells #[.int .i64 a, .int .i64 b, .int .i64 n, .int .i64 d] 3); simpa using this, al2 _ _⟩
  rw [← hW]
  clear hW
  refine (near4_any a b n d _ _ _ R1).mono ?_
  rintro e u0 ⟨rfl, rfl⟩
  clear R1
  by_cases h4 : nr4 a b n d = true
  · obtain ⟨ra, rb, rn, rd⟩ := nr4_all h4
    have HB : Hid (btw a b n d = (a : Rat) + ((b - a : Int) : Rat) * ((n : Rat) / (d : Rat))) := by
      show btw a b n d = _
      unfold btw
      rw [if_pos h4]
    rw [h4]
    clear h4
    go_wp2_with fail
    refine (whole_any (b - a) _ (by omega) (by omega)).mono ?_
    rintro e u1 ⟨v1, rfl, hF1, hb1⟩
    replace B1 := B1.below hb1
    replace hbW : Below w.heap.size w u1 := hbW.trans (hb1.mono hbW.size)
    clear hb1
    go_wp2_with fail
    refine (make_any n d _ (by omega) (by omega) (by omega) (by omega)).mono ?_
    rintro e u2 ⟨v2, rfl, hF2, hb2⟩
    replace B1 := B1.below hb2
    replace hF1 := hF1.below hb2
    replace hbW : Below w.heap.size w u2 := hbW.trans (hb2.mono hbW.size)
    clear hb2
    go_wp2_with fail
    refine (qmul_any 2 2 _ _ _ _ _ hF1.ct hF2.ct (by decide) (by decide) (by decide) (by decide)).mono ?_
    rintro e u3 ⟨v3, rfl, hF3, hb3⟩
    replace B1 := B1.below hb3
    replace hbW : Below w.heap.size w u3 := hbW.trans (hb3.mono hbW.size)
    clear hb3 hF1 hF2
    have hX := hF3.ct
    obtain ⟨n3, x3, y3, ⟨a3, c3, b3, d3, rfl, _, _⟩, _⟩ := hF3
    have hs := B1.lt
    go_wp2_with fail
    obtain ⟨W2, hW2, B2, hb3⟩ : ∃ W2, W2 = u3.alloc (.cells #[.bool n3, .slice a3 x3.length c3, .slice b3 y3.length d3] 51) ∧ Box 51 W2 u3.heap.size (.bool n3) (.slice a3 x3.length c3) (.slice b3 y3.length d3) ∧ Below u3.heap.size u3 W2 := ⟨_, rfl, Box.new _ _ _ _ _, al1 _⟩
    rw [← hW2]
    clear hW2
    replace B1 := B1.below hb3
    replace hX := hX.below hb3
    replace hbW : Below w.heap.size w W2 := hbW.trans (hb3.mono hbW.size)
    clear hb3
    have hne : u3.heap.size ≠ w.heap.size := by omega
    clear hs
    generalize u3.heap.size = g at B2 hne ⊢
    obtain ⟨p1, p2, p3, _⟩ := B2.cells
    go_region_held3 (fun u => u.cell? ⟨g, 0, none⟩ = some (.bool n3) ∧ u.cell? ⟨g, 1, none⟩ = some (.slice a3 x3.length c3) ∧ u.cell? ⟨g, 2, none⟩ = some (.slice b3 y3.length d3)) (first | (go_keep; done) | (refine ⟨(cell_set3 hne).trans p1, (cell_set3 hne).trans p2, (cell_set3 hne).trans p3⟩))
      (first
        | (go_at_call 38
           refine (whole_any a _ ?_ ?_).mono ?_
           · omega
           · omega
           rintro e u4 ⟨v4, rfl, hF4, hb4⟩
           replace hb4 : Below W2.heap.size W2 u4 := Below.drew1.trans hb4
           replace hX := hX.below hb4
           replace B1 := B1.below hb4
           replace B2 := B2.below hb4
           replace hbW : Below w.heap.size w u4 := hbW.trans (hb4.mono hbW.size)
           clear hb4 p1 p2 p3
           obtain ⟨p1, p2, p3, _⟩ := B2.cells)
        | (go_at_call 81
           refine (qadd_any 2 4 _ _ _ _ _ hF4.ct hX (by decide) (by decide) (by decide) (by decide)).mono ?_
           rintro e u5 ⟨v5, rfl, hF5, hb5⟩
           replace B1 := B1.below hb5
           replace B2 := B2.below hb5
           replace hbW : Below w.heap.size w u5 := hbW.trans (hb5.mono hbW.size)
           replace hF5 := hF5.eq HB.out.symm
           clear hb5 hF4 hX p1 p2 p3
           obtain ⟨p1, p2, p3, _⟩ := B2.cells
           obtain ⟨q1, q2, q3, q4, q5, q6⟩ := B1.cells
           have hs := B1.lt
           obtain ⟨n', xs', ys', ⟨e1, f1, e2, f2, rfl, hx', hy'⟩, hF⟩ := hF5))
    go_wp2
    refine ret3 (v := .agg #[.bool n', .slice e1 xs'.length f1, .slice e2 ys'.length f2]) B1 rfl (fun U hU => by obtain ⟨r1, r2, r3, _⟩ := hU.cells; simp [results, Tryz.results56, go_sem, r1, r2, r3]) (fun U hU hK => ⟨_, rfl, ⟨_, _, _, ⟨_, _, _, _, rfl, hK _ _ _ hx', hK _ _ _ hy'⟩, hF⟩, hU _ _ hbW (by omega)⟩)
  · have e1 : nr4 a b n d = false := by simpa using h4
    have HB : Hid (btw a b n d = 0) := by
      show btw a b n d = _
      unfold btw
      rw [if_neg h4]
    rw [e1]
    clear h4 e1
    go_wp2_with fail
    refine (whole_any 0 _ (by decide) (by decide)).mono ?_
    rintro e u1 ⟨v1, rfl, hF1, hb1⟩
    replace B1 := B1.below hb1
    replace hbW : Below w.heap.size w u1 := hbW.trans (hb1.mono hbW.size)
    clear hb1
    have hs := B1.lt
    obtain ⟨q1, q2, q3, q4, q5, q6⟩ := B1.cells
    replace hF1 := (hF1.eq (r := btw a b n d) (by rw [HB.out]; rfl)).le (show 2 ≤ 7 by decide)
    obtain ⟨n', xs', ys', ⟨b, d, b', d', rfl, hx', hy'⟩, hF⟩ := hF1
    go_wp2
    refine ret3 (v := .agg #[.bool n', .slice b xs'.length d, .slice b' ys'.length d']) B1 rfl (fun U hU => by obtain ⟨r1, r2, r3, _⟩ := hU.cells; simp [results, Tryz.results56, go_sem, r1, r2, r3]) (fun U hU hK => ⟨_, rfl, ⟨_, _, _, ⟨_, _, _, _, rfl, hK _ _ _ hx', hK _ _ _ hy'⟩, hF⟩, hU _ _ hbW (by omega)⟩)

end Go.Proofs.YthoildjecoppgaaGreatDoor

namespace Go.Proofs.YthoildjecoppgaaGreatDoor
set_option linter.unusedSimpArgs false
set_option linter.unusedVariables false

theorem nr4_small {x y n d : Int} (hx : -2147483648 ≤ x ∧ x < 2147483648) (hy : -2147483648 ≤ y ∧ y < 2147483648) (hn : 0 ≤ n ∧ n < 65536) (hd : 0 ≤ d ∧ d < 65536) : nr4 x y n d = true := by
  simp [nr4, nr]
  omega
theorem btw_eq {x y n d : Int} (h : nr4 x y n d = true) : btw x y n d = (x : Rat) + ((y : Rat) - (x : Rat)) * ((n : Rat) / (d : Rat)) := by
  unfold btw
  rw [if_pos h, Rat.intCast_sub]
theorem btw_zero {x y d : Int} (h : nr4 x y 0 d = true) : btw x y 0 d = (x : Rat) := by
  rw [btw_eq h]
  have : ((0 : Int) : Rat) = 0 := rfl
  rw [this, Rat.div_def, Rat.zero_mul, Rat.mul_zero, Rat.add_zero]
theorem btw_end {x y d : Int} (h : nr4 x y d d = true) (hd : 0 < d) : btw x y d d = (y : Rat) := by
  rw [btw_eq h]
  have hd' : (0 : Rat) < (d : Rat) := by exact_mod_cast hd
  have : (d : Rat) / (d : Rat) = 1 := by rw [Rat.div_def]; exact Rat.mul_inv_cancel _ (by grind)
  rw [this]
  grind
theorem part_bounds {n d : Int} (hn : 0 ≤ n) (hd : 0 < d) (h : n ≤ d) : (0 : Rat) ≤ (n : Rat) / (d : Rat) ∧ (n : Rat) / (d : Rat) ≤ 1 := by
  have hd' : (0 : Rat) < (d : Rat) := by exact_mod_cast hd
  have hn' : (0 : Rat) ≤ (n : Rat) := by exact_mod_cast hn
  have hh : (n : Rat) ≤ (d : Rat) := by exact_mod_cast h
  refine ⟨?_, ?_⟩
  · rw [Rat.div_def]
    exact Rat.mul_nonneg hn' (Rat.le_of_lt (Rat.inv_pos.2 hd'))
  · have h1 := Rat.mul_le_mul_of_nonneg_right hh (Rat.le_of_lt (Rat.inv_pos.2 hd'))
    rw [Rat.mul_inv_cancel _ (by grind)] at h1
    rw [Rat.div_def]
    exact h1
theorem btw_low {x y n d l : Int} (h : nr4 x y n d = true) (hn : 0 ≤ n) (hd : 0 < d) (hnd : n ≤ d) (hx : l ≤ x) (hy : l ≤ y) : (l : Rat) ≤ btw x y n d := by
  rw [btw_eq h]
  obtain ⟨p0, p1⟩ := part_bounds hn hd hnd
  generalize (n : Rat) / (d : Rat) = p at *
  have hx' : (l : Rat) ≤ (x : Rat) := by exact_mod_cast hx
  have hy' : (l : Rat) ≤ (y : Rat) := by exact_mod_cast hy
  have e : (x : Rat) + ((y : Rat) - (x : Rat)) * p = (l : Rat) + (((x : Rat) - l) * (1 - p) + ((y : Rat) - l) * p) := by grind
  have a1 : 0 ≤ ((x : Rat) - l) * (1 - p) := Rat.mul_nonneg (by grind) (by grind)
  have a2 : 0 ≤ ((y : Rat) - l) * p := Rat.mul_nonneg (by grind) p0
  grind
theorem btw_high {x y n d l : Int} (h : nr4 x y n d = true) (hn : 0 ≤ n) (hd : 0 < d) (hnd : n ≤ d) (hx : x ≤ l) (hy : y ≤ l) : btw x y n d ≤ (l : Rat) := by
  rw [btw_eq h]
  obtain ⟨p0, p1⟩ := part_bounds hn hd hnd
  generalize (n : Rat) / (d : Rat) = p at *
  have hx' : (x : Rat) ≤ (l : Rat) := by exact_mod_cast hx
  have hy' : (y : Rat) ≤ (l : Rat) := by exact_mod_cast hy
  have e : (x : Rat) + ((y : Rat) - (x : Rat)) * p = (l : Rat) - (((l : Rat) - x) * (1 - p) + ((l : Rat) - y) * p) := by grind
  have a1 : 0 ≤ ((l : Rat) - x) * (1 - p) := Rat.mul_nonneg (by grind) (by grind)
  have a2 : 0 ≤ ((l : Rat) - y) * p := Rat.mul_nonneg (by grind) p0
  grind
theorem sgn_self (q : Rat) : sgnQ (q - q) = 0 := by
  unfold sgnQ
  rw [if_pos (by grind)]
theorem sgn_geE {q : Rat} (h : 0 ≤ q) : 0 ≤ sgnQ q := by
  unfold sgnQ
  split
  · omega
  · rw [if_neg (by grind)]; omega
theorem sgn_leE {q : Rat} (h : q ≤ 0) : sgnQ q ≤ 0 := by
  unfold sgnQ
  split
  · omega
  · rw [if_pos (by grind)]; omega

end Go.Proofs.YthoildjecoppgaaGreatDoor

namespace Go.Proofs.YthoildjecoppgaaGreatDoor
open Go.RowKit
set_option linter.unusedSimpArgs false
set_option linter.unusedVariables false


/-- Every number is a byte. -/
def Byt (xs : List Nat) : Prop := ∀ x ∈ xs, x < 256
theorem Byt.cons {x : Nat} {xs : List Nat} (h : Byt (x :: xs)) : x < 256 ∧ Byt xs := ⟨h x (by simp), fun y hy => h y (by simp [hy])⟩
theorem Byt.mk {x : Nat} {xs : List Nat} (hx : x < 256) (h : Byt xs) : Byt (x :: xs) := by
  intro y hy; rcases List.mem_cons.1 hy with rfl | hy
  · exact hx
  · exact h y hy
theorem Byt.nil : Byt [] := by intro x hx; cases hx
theorem Byt.append {xs ys : List Nat} (h : Byt xs) (k : Byt ys) : Byt (xs ++ ys) := by
  intro x hx; rcases List.mem_append.1 hx with hx | hx
  · exact h x hx
  · exact k x hx
theorem Byt.take {xs : List Nat} (h : Byt xs) (n : Nat) : Byt (xs.take n) := fun x hx => h x (List.mem_of_mem_take hx)
theorem Byt.drop {xs : List Nat} (h : Byt xs) (n : Nat) : Byt (xs.drop n) := fun x hx => h x (List.mem_of_mem_drop hx)
theorem Byt.getD {xs : List Nat} (h : Byt xs) (i : Nat) : xs.getD i 0 < 256 := by
  rw [List.getD_eq_getElem?_getD]
  by_cases hi : i < xs.length
  · rw [List.getElem?_eq_getElem hi]; exact h _ (List.getElem_mem hi)
  · rw [List.getElem?_eq_none (by omega)]; decide

/-- A byte as a value. -/
def Y (n : Nat) : Value := .int .u8 (n : Int)

/-- A slice of bytes: its address and capacity, and the bytes that are read there. -/
def Rb (w : World) (a : Option Addr) (cap : Nat) (xs : List Nat) : Prop :=
  Byt xs ∧ xs.length ≤ cap ∧ cap ≤ maxLen ∧ (a = none → cap = 0) ∧
  (xs = [] ∨ ∃ b off, a = some ⟨b, off, none⟩ ∧ b < w.heap.size ∧ ∀ i, i < xs.length → w.cell? ⟨b, off + i, none⟩ = some (.int .u8 (xs.getD i 0 : Nat)))

theorem Rb.lim {w : World} {a : Option Addr} {cap : Nat} {xs : List Nat} (h : Rb w a cap xs) : Byt xs := h.1
theorem Rb.le {w : World} {a : Option Addr} {cap : Nat} {xs : List Nat} (h : Rb w a cap xs) : xs.length ≤ cap := h.2.1
theorem Rb.cap {w : World} {a : Option Addr} {cap : Nat} {xs : List Nat} (h : Rb w a cap xs) : cap ≤ maxLen := h.2.2.1

/-- Where the bytes lie (a plain name, which no walk looks behind). -/
def Fb (w : World) (a : Option Addr) (xs : List Nat) : Prop :=
  xs = [] ∨ ∃ b off, a = some ⟨b, off, none⟩ ∧ b < w.heap.size ∧ ∀ i, i < xs.length → w.cell? ⟨b, off + i, none⟩ = some (.int .u8 (xs.getD i 0 : Nat))

theorem Rb.fm {w : World} {a : Option Addr} {cap : Nat} {xs : List Nat} (h : Rb w a cap xs) : Fb w a xs := h.2.2.2.2

theorem Fb.at {w wr : World} {a : Option Addr} {xs : List Nat} (h : Fb w a xs) (hb : Below w.heap.size w wr) (k : Nat) (hk : k < xs.length) :
    ∃ b off, a = some ⟨b, off, none⟩ ∧ b < w.heap.size ∧ wr.cell? ⟨b, off + k, none⟩ = some (.int .u8 (xs.getD k 0 : Nat)) := by
  rcases h with rfl | ⟨b, off, h1, h2, h3⟩
  · simp at hk
  · exact ⟨b, off, h1, h2, (hb.cell (p := ⟨b, off + k, none⟩) h2).trans (h3 k hk)⟩

theorem Rb.keep {w w' : World} {a : Option Addr} {cap : Nat} {xs : List Nat} (h : Rb w a cap xs) (hs : w.heap.size ≤ w'.heap.size)
    (hb : ∀ b, b < w.heap.size → (∃ o, a = some ⟨b, o, none⟩) → w'.heap[b]? = w.heap[b]?) : Rb w' a cap xs := by
  obtain ⟨h1, h2, h3, h5, h4⟩ := h
  refine ⟨h1, h2, h3, h5, ?_⟩
  rcases h4 with h4 | ⟨b, off, e, hb1, hc⟩
  · exact .inl h4
  · exact .inr ⟨b, off, e, Nat.lt_of_lt_of_le hb1 hs, fun i hi => (World.cell?_of_block (w := w) (a := ⟨b, off + i, none⟩) (hb b hb1 ⟨off, e⟩)).trans (hc i hi)⟩

theorem Rb.below {w w' : World} {a : Option Addr} {cap : Nat} {xs : List Nat} (h : Rb w a cap xs) (hb : Below w.heap.size w w') : Rb w' a cap xs :=
  h.keep hb.size fun b hb1 _ => hb.block b hb1

theorem Rb.take {w : World} {a : Option Addr} {cap : Nat} {xs : List Nat} (h : Rb w a cap xs) (n : Nat) : Rb w a cap (xs.take n) := by
  obtain ⟨h1, h2, h3, h5, h4⟩ := h
  refine ⟨h1.take n, by simp; omega, h3, h5, ?_⟩
  rcases h4 with rfl | ⟨b, off, e, hb1, hc⟩
  · exact .inl (by simp)
  · refine .inr ⟨b, off, e, hb1, fun i hi => ?_⟩
    simp at hi
    rw [hc i (by omega)]
    simp [List.getD, show i < n by omega]

theorem Rb.nil (w : World) (a : Option Addr) (cap : Nat) (h : cap ≤ maxLen) (h0 : a = none → cap = 0) : Rb w a cap [] := ⟨Byt.nil, Nat.zero_le _, h, h0, .inl rfl⟩

/-- A row of the call's own. -/
def Rw (e : TypeId) (base : Nat) (w : World) (a : Option Addr) (cap : Nat) (xs : List Nat) : Prop :=
  Byt xs ∧ w.ownsRow base e 1 (.slice a xs.length cap) xs.length (xs.map Y)

theorem Rw.lim {e : TypeId} {base : Nat} {w : World} {a : Option Addr} {cap : Nat} {xs : List Nat} (h : Rw e base w a cap xs) : Byt xs := h.1

theorem Rw.rd {e : TypeId} {base : Nat} {w : World} {a : Option Addr} {cap : Nat} {xs : List Nat} (h : Rw e base w a cap xs) : Rb w a cap xs := by
  obtain ⟨hl, h⟩ := h
  rcases h.2 with ⟨hv, h0⟩ | ⟨g, cap', cur, hv, hb, hg, hc1, hc2, hc3, ht⟩
  · have : xs = [] := List.length_eq_zero_iff.1 h0
    subst this
    simp at hv
    exact Rb.nil _ _ _ (by rw [hv.2]; exact Nat.zero_le _) (fun _ => hv.2)
  · simp at hv
    obtain ⟨rfl, rfl⟩ := hv
    refine ⟨hl, hc1, hc2, (by simp), .inr ⟨g, 0, rfl, (Array.getElem?_eq_some_iff.1 hg).1, fun i hi => ?_⟩⟩
    have := h.cells (g := g) rfl i (Y (xs.getD i 0)) (by simp [List.getD, hi])
    have hadd : (⟨g, 0, none⟩ : Addr).add i = ⟨g, 0 + i, none⟩ := by unfold Addr.add; split <;> simp_all
    rw [hadd] at this; exact this

theorem ownsRow_monoB {w : World} {base base' : Nat} {e : TypeId} {size : Nat} {v : Value} {n : Nat} {xs : List Value} (h : w.ownsRow base e size v n xs) (hb : base' ≤ base) : w.ownsRow base' e size v n xs := by
  refine ⟨h.1, ?_⟩
  rcases h.2 with h0 | ⟨g, cap, cur, h1, h2, h3⟩
  · exact .inl h0
  · exact .inr ⟨g, cap, cur, h1, Nat.le_trans hb h2, h3⟩

theorem Rw.mono {e : TypeId} {base base' : Nat} {w : World} {a : Option Addr} {cap : Nat} {xs : List Nat} (h : Rw e base w a cap xs) (hb : base' ≤ base) : Rw e base' w a cap xs := ⟨h.1, ownsRow_monoB h.2 hb⟩

theorem Rw.below {e : TypeId} {base : Nat} {w w' : World} {a : Option Addr} {cap : Nat} {xs : List Nat} (h : Rw e base w a cap xs) (hb : Below w.heap.size w w') : Rw e base w' a cap xs := by
  refine ⟨h.1, h.2.1, ?_⟩
  rcases h.2.2 with h0 | ⟨g, cap', cur, h1, h2, h3, h4⟩
  · exact .inl h0
  · exact .inr ⟨g, cap', cur, h1, h2, (hb.block g (Array.getElem?_eq_some_iff.1 h3).1).trans h3, h4⟩

/-- Out of what append leaves. -/
theorem Rw.of {e : TypeId} {base : Nat} {w : World} {v : Value} {n : Nat} {xs : List Nat} (hl : Byt xs) (h : w.ownsRow base e 1 v n (xs.map Y)) : ∃ a cap, v = .slice a xs.length cap ∧ Rw e base w a cap xs := by
  have hn : n = xs.length := by have := h.1; simp at this; omega
  subst hn
  rcases h.2 with ⟨hv, h0⟩ | ⟨g, cap, cur, hv, _⟩
  · exact ⟨none, 0, by rw [hv, h0], hl, by rw [h0] at h ⊢; rw [hv] at h; exact h⟩
  · subst hv; exact ⟨_, cap, rfl, hl, h⟩

/-- A view of a block that is known whole. -/
theorem rb_block {w : World} {g : Nat} {zs : List Nat} {e : TypeId} (h : w.heap[g]? = some (.cells (zs.map Y).toArray e (0, 0))) (hl : Byt zs) (off n cap : Nat) (h1 : off + n ≤ zs.length) (h2 : n ≤ cap) (h3 : cap ≤ maxLen) :
    Rb w (some ⟨g, off, none⟩) cap ((zs.drop off).take n) := by
  refine ⟨(hl.drop off).take n, by simp; omega, h3, (by simp), .inr ⟨g, off, rfl, (Array.getElem?_eq_some_iff.1 h).1, fun i hi => ?_⟩⟩
  simp at hi
  rw [cell_of_row w g (off + i) _ e (0, 0) h]
  simp [List.getD, Y, show off + i < zs.length by omega, show i < n by omega]

theorem rb_new (w : World) (e : TypeId) (zs : List Nat) (cs : Array Value) (hc : cs = (zs.map Y).toArray) (hl : Byt zs) (hm : zs.length ≤ maxLen) : Rb (w.alloc (.cells cs e)) (some ⟨w.heap.size, 0, none⟩) zs.length zs := by
  subst hc
  have := rb_block (heap_alloc_new w (.cells (zs.map Y).toArray e)) hl 0 zs.length zs.length (by omega) (Nat.le_refl _) hm
  simpa using this

/-- What append leaves, in the walk's own spelling. -/
theorem own_snocB {w : World} {base : Nat} {e : TypeId} {v : Value} {n z : Nat} {zs : List Nat} (h : w.ownsRow base e 1 v n (List.map Y zs ++ [Y z])) : w.ownsRow base e 1 v n ((zs ++ [z]).map Y) := by
  rw [List.map_append]; exact h

theorem oneCell_Y (xs : List Nat) : ∀ u ∈ xs.map Y, u.oneCell' = true := by
  intro u hu
  obtain ⟨x, _, rfl⟩ := List.mem_map.1 hu
  rfl

section
variable {P : Program} {w : World} {ops : Array Oper} {rest : List Oper} {o : Oper} {a : Act} {Q : Exit → Act → World → Prop}

/-- 'append(out, src...)': src is read, out is the call's own. -/
theorem wpList_append_rb (hgd : o.guard = none) (s x : Operand) (t : TypeId) (ho : o.op = .call { callee := .builtin .append, args := #[s, x], argTypes := #[t, t] })
    (base : Nat) (e : TypeId) (i : TypeInfo) (ht : P.underlying t = some (.slice e)) (hi : P.info? e = some i) (hz : i.zero = some (.int .u8 0)) (hsize : i.size = 1) (hby : i.bytes = 1)
    (v : Value) (n : Nat) (ys : List Nat) (hs : a.eval s = v) (hown : w.ownsRow base e 1 v n (ys.map Y))
    (ad : Option Addr) (c m : Nat) (zs : List Nat) (hx : a.eval x = .slice ad m c) (hm : m = zs.length) (hrd : Rb w ad c zs) (hlen : n + zs.length ≤ 2000000000) (hbase : base ≤ w.heap.size)
    (h : ∀ v' w', w'.ownsRow base e 1 v' (n + zs.length) ((ys ++ zs).map Y) → w.grownBy w' v.ownBlock → (v'.ownBlock = v.ownBlock ∨ v'.ownBlock = some w.heap.size) → wpList P ops Q rest (a.put o.dst v') w') : wpList P ops Q (o :: rest) a w := by
  subst hm
  cases ad with
  | none =>
    have hc : c = 0 := hrd.2.2.2.1 rfl
    have hzs : zs = [] := by
      rcases hrd.2.2.2.2 with h0 | ⟨b, off, e', _⟩
      · exact h0
      · cases e'
    subst hzs; subst hc
    refine wpList_append_own_none hgd s x t ho base e i 1 ht hi v n (ys.map Y) hs hown hx (h v w (by simpa using hown) (World.grownBy.refl w _) (.inl rfl))
  | some ad =>
    refine wpList_append_own_at w hgd s x t ho base e i (.int .u8 0) 1 1 ht hi hz hsize hby rfl (by decide) v n (ys.map Y) hs hown ad zs.length c (zs.map Y) hx (by simp) ?_ (oneCell_Y zs) (by unfold maxLen; omega) (by omega) hbase ?_
    · intro j u hj
      rcases hrd.2.2.2.2 with rfl | ⟨b, off, e', hb, hc⟩
      · simp at hj
      · simp at e'; subst e'
        have hjl : j < zs.length := by
          rcases Nat.lt_or_ge j zs.length with h1 | h1
          · exact h1
          · rw [List.getElem?_eq_none (by simpa using h1)] at hj; cases hj
        have hadd : (⟨b, off, none⟩ : Addr).add j = ⟨b, off + j, none⟩ := by unfold Addr.add; split <;> simp_all
        rw [hadd, hc j hjl]
        rw [List.getElem?_map, List.getElem?_eq_getElem hjl] at hj
        simp at hj; rw [← hj]; simp [List.getD, hjl, Y]
    · intro v' w' h1 h2 _ h3
      exact h v' w' (by rw [List.map_append]; exact h1) h2 h3

/-- 'append(out, x)': x is laid in a block of its own first. -/
theorem wpList_append_oneB (hgd : o.guard = none) (s x : Operand) (t : TypeId) (ho : o.op = .call { callee := .builtin .append, args := #[s, x], argTypes := #[t, t] })
    (base : Nat) (e : TypeId) (i : TypeInfo) (ht : P.underlying t = some (.slice e)) (hi : P.info? e = some i) (hz : i.zero = some (.int .u8 0)) (hsize : i.size = 1) (hby : i.bytes = 1)
    (v : Value) (n : Nat) (ys : List Nat) (hs : a.eval s = v) (hown : w.ownsRow base e 1 v n (ys.map Y))
    (g z : Nat) (hx : a.eval x = .slice (some ⟨g, 0, none⟩) 1 1) (hc : w.cell? ⟨g, 0, none⟩ = some (.int .u8 (z : Int))) (hlen : n + 1 ≤ 2000000000) (hbase : base ≤ w.heap.size)
    (h : ∀ v' w', w'.ownsRow base e 1 v' (n + 1) ((ys ++ [z]).map Y) → w.grownBy w' v.ownBlock → (v'.ownBlock = v.ownBlock ∨ v'.ownBlock = some w.heap.size) → wpList P ops Q rest (a.put o.dst v') w') : wpList P ops Q (o :: rest) a w := by
  refine wpList_append_own_at w hgd s x t ho base e i (.int .u8 0) 1 1 ht hi hz hsize hby rfl (by decide) v n (ys.map Y) hs hown ⟨g, 0, none⟩ 1 1 [Y z] hx rfl ?_ (oneCell_Y [z]) (by unfold maxLen; omega) (by omega) hbase ?_
  · intro j u hj
    match j, hj with
    | 0, hj => simp at hj; subst hj; simpa [Addr.add, Y] using hc
  · intro v' w' h1 h2 _ h3
    exact h v' w' (by rw [List.map_append]; exact h1) h2 h3
end

/-- The blocks of G are as they were, and so are the streams; no block has gone. -/
structure Keep (G : Nat → Prop) (w w' : World) : Prop where
  os : w'.os = w.os
  tape : w'.tape = w.tape
  output : w'.output = w.output
  size : w.heap.size ≤ w'.heap.size
  block : ∀ k, G k → w'.heap[k]? = w.heap[k]?

theorem Keep.refl (G : Nat → Prop) (w : World) : Keep G w w := ⟨rfl, rfl, rfl, Nat.le_refl _, fun _ _ => rfl⟩
theorem Keep.trans {G : Nat → Prop} {a b c : World} (h : Keep G a b) (k : Keep G b c) : Keep G a c :=
  ⟨k.os.trans h.os, k.tape.trans h.tape, k.output.trans h.output, Nat.le_trans h.size k.size, fun i hi => (k.block i hi).trans (h.block i hi)⟩
theorem Keep.mono {G G' : Nat → Prop} {w w' : World} (h : Keep G w w') (hG : ∀ k, G' k → G k) : Keep G' w w' := ⟨h.os, h.tape, h.output, h.size, fun k hk => h.block k (hG k hk)⟩
theorem Keep.of_below {G : Nat → Prop} {w w' : World} {B : Nat} (h : Below B w w') (hG : ∀ k, G k → k < B) : Keep G w w' := ⟨h.os, h.tape, h.output, h.size, fun k hk => h.block k (hG k hk)⟩
theorem Keep.below {G : Nat → Prop} {w w' : World} {B : Nat} (h : Keep G w w') (hG : ∀ k, k < B → G k) : Below B w w' := ⟨h.os, h.tape, h.output, h.size, fun k hk => h.block k (hG k hk)⟩
theorem Keep.alloc {G : Nat → Prop} {a w : World} (h : Keep G a w) (hG : ∀ k, G k → k < w.heap.size) (o : Obj) : Keep G a (w.alloc o) :=
  h.trans (Keep.of_below ((Below.refl w.heap.size w).alloc (Nat.le_refl _) o) hG)
theorem Keep.setCell {G : Nat → Prop} {a w : World} (h : Keep G a w) {p : Addr} (hp : ¬ G p.block) (u : Value) : Keep G a (w.setCell p u) :=
  h.trans ⟨rfl, rfl, rfl, by simp [World.setCell], fun k hk => Below.heap_setCell _ _ _ _ (fun e => hp (e ▸ hk))⟩
theorem Keep.grown {G : Nat → Prop} {a w w' : World} {row : Option Nat} (h : Keep G a w) (hg : w.grownBy w' row) (hG : ∀ k, G k → k < w.heap.size) (hr : ∀ k, row = some k → ¬ G k) : Keep G a w' :=
  h.trans ⟨hg.os, hg.tape, hg.output, hg.size, fun k hk => hg.block k (hG k hk) (fun e => hr k e.symm hk)⟩
theorem Keep.turned {G : Nat → Prop} {a w w' : World} {b : Nat} (h : Keep G a w) (ht : w.mapTurned w' b) (hG : ∀ k, G k → k < w.heap.size) (hb : ¬ G b) : Keep G a w' :=
  h.grown ht.grown hG (fun k hk => by cases hk; exact hb)
theorem Keep.cell {G : Nat → Prop} {w w' : World} (h : Keep G w w') {p : Addr} (hp : G p.block) : w'.cell? p = w.cell? p := World.cell?_of_block (w := w) (h.block p.block hp)
theorem Rb.kept {G : Nat → Prop} {w w' : World} {a : Option Addr} {cap : Nat} {xs : List Nat} (h : Rb w a cap xs) (hk : Keep G w w') (hG : ∀ b o, a = some ⟨b, o, none⟩ → G b) : Rb w' a cap xs :=
  h.keep hk.size fun b _ ⟨o, e⟩ => hk.block b (hG b o e)

/-- A number of 64 bits with a sign. -/
def I64 (n : Int) : Prop := -9223372036854775808 ≤ n ∧ n ≤ 9223372036854775807
theorem rt_bool {a b : Bool} (h : a = b) : Ending.returned (.bool a) = .returned (.bool b) := by rw [h]
theorem rt_int {a b : Int} {k : IntKind} (h : a = b) : Ending.returned (.int k a) = .returned (.int k b) := by rw [h]
theorem rt_slice {a a' : Option Addr} {n n' c c' : Nat} (h1 : a = a') (h2 : n = n') (h3 : c = c') : Ending.returned (.slice a n c) = .returned (.slice a' n' c') := by rw [h1, h2, h3]
theorem bl1 {w : World} (o : Obj) : Below w.heap.size w (w.alloc o) := (Below.refl _ _).alloc (Nat.le_refl _) o
theorem bl2 {w : World} (o o' : Obj) : Below w.heap.size w ((w.alloc o).alloc o') := (bl1 o).alloc (by simp) o'
theorem bl3 {w : World} (o o' o'' : Obj) : Below w.heap.size w (((w.alloc o).alloc o').alloc o'') := (bl2 o o').alloc (by simp; omega) o''

end Go.Proofs.YthoildjecoppgaaGreatDoor

namespace Go.Proofs.YthoildjecoppgaaGreatDoor

/-- A number that is a field. -/
def fdB (n : Int) : Bool := decide (-32768 ≤ n ∧ n ≤ 32767)
theorem fdB_iff {n : Int} : fdB n = true ↔ -32768 ≤ n ∧ n ≤ 32767 := by unfold fdB; exact decide_eq_true_iff

end Go.Proofs.YthoildjecoppgaaGreatDoor
