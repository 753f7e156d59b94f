/-
  fixed.Between: the walk.
  Fractions between two numbers, and signs (plain mathematics; split off FixedEnds' walk).
  Infer: what is inferred of a contour's numbers (plain mathematics).
  Pages: the document's states (St) and what is done with them, and how a page of the code lies in a world (Pc).
-/
import Derived.Test.YtngmcghmniakeaaGreatZB13
import Derived.Deep.RegionHeld3
import Derived.Test.YtngmcghmniakeaaGreatZB9
namespace Go.Proofs.YtngmcghmniakeaaGreat
open Go.RowKit
set_option linter.unusedSimpArgs false
set_option linter.unusedVariables false

/-- All four are near. -/
def nr4 (a b n d : Int) : Bool := [a, b, n, d].all nr
/-- The fraction between. -/
def btw (a b n d : Int) : Rat := if nr4 a b n d = true then (a : Rat) + ((b - a : Int) : Rat) * ((n : Rat) / (d : Rat)) else 0
theorem nr4_all {a b n d : Int} (h : nr4 a b n d = true) : (-1099511627776 ≤ a ∧ a ≤ 1099511627776) ∧ (-1099511627776 ≤ b ∧ b ≤ 1099511627776) ∧ (-1099511627776 ≤ n ∧ n ≤ 1099511627776) ∧ (-1099511627776 ≤ d ∧ d ≤ 1099511627776) := by
  simp [nr4, nr] at h
  omega

/-- near, of four numbers in a row. -/
theorem near4_any (a b n d : Int) (t : TypeId) (g : Nat) (w : World) (h : w.heap[g]? = some (.cells #[.int .i64 a, .int .i64 b, .int .i64 n, .int .i64 d] t (0, 0))) :
    Calls Tryz.prog 211 #[.slice (some ⟨g, 0, none⟩) 4 4] w fun e w' => e = .returned (.bool (nr4 a b n d)) ∧ w = w' := by
  refine near_any g [a, b, n, d] _ (by simp) ?_
  intro i hi
  simp at hi
  rcases (show i = 0 ∨ i = 1 ∨ i = 2 ∨ i = 3 by omega) with rfl | rfl | rfl | rfl <;> simp [World.cell?, h]

set_option maxHeartbeats 2000000 in
set_option maxRecDepth 100000 in
theorem between_any (a b n d : Int) (w : World) (ha : -9223372036854775808 ≤ a ∧ a < 9223372036854775808) (hb : -9223372036854775808 ≤ b ∧ b < 9223372036854775808) (hn : -9223372036854775808 ≤ n ∧ n < 9223372036854775808) (hd : -9223372036854775808 ≤ d ∧ d < 9223372036854775808) :
    Calls Tryz.prog 205 #[.int .i64 a, .int .i64 b, .int .i64 n, .int .i64 d] w fun e w' => ∃ v', e = .returned v' ∧ Fr w' v' 7 (btw a b n d) ∧ Below w.heap.size w w' := by
  go_enter Tryz.func205, Tryz.ntmps205
  go_wp2_with fail
  obtain ⟨W, hW, B1, R1, hbW⟩ : ∃ W, W = ((w.alloc (.cells #[.bool false, .slice none 0 0, .slice none 0 0] 69)).alloc (.cells #[.int .i64 a, .int .i64 b, .int .i64 n, .int .i64 d] 3)) ∧ Box 69 W w.heap.size (.bool false) (.slice none 0 0) (.slice none 0 0) ∧ W.heap[w.heap.size + 1]? = some (.cells #[.int .i64 a, .int .i64 b, .int .i64 n, .int .i64 d] 3 (0, 0)) ∧ Below w.heap.size w W :=
    ⟨_, rfl, (Box.new _ _ _ _ _).alloc _, by have := heap_alloc_new (w.alloc (.cells #[.bool false, .slice none 0 0, .slice none 0 0] 69)) (.cells #[.int .i64 a, .int .i64 b, .int .i64 n, .int .i64 d] 3); simpa using this, al2 _ _⟩
  rw [← hW]
  clear hW
  refine (near4_any a b n d _ _ _ R1).mono ?_
  rintro e u0 ⟨rfl, rfl⟩
  clear R1
  by_cases h4 : nr4 a b n d = true
  · obtain ⟨ra, rb, rn, rd⟩ := nr4_all h4
    have HB : Hid (btw a b n d = (a : Rat) + ((b - a : Int) : Rat) * ((n : Rat) / (d : Rat))) := by
      show btw a b n d = _
      unfold btw
      rw [if_pos h4]
    rw [h4]
    clear h4
    go_wp2_with fail
    refine (whole_any (b - a) _ (by omega) (by omega)).mono ?_
    rintro e u1 ⟨v1, rfl, hF1, hb1⟩
    replace B1 := B1.below hb1
    replace hbW : Below w.heap.size w u1 := hbW.trans (hb1.mono hbW.size)
    clear hb1
    go_wp2_with fail
    refine (make_any n d _ (by omega) (by omega) (by omega) (by omega)).mono ?_
    rintro e u2 ⟨v2, rfl, hF2, hb2⟩
    replace B1 := B1.below hb2
    replace hF1 := hF1.below hb2
    replace hbW : Below w.heap.size w u2 := hbW.trans (hb2.mono hbW.size)
    clear hb2
    go_wp2_with fail
    refine (qmul_any 2 2 _ _ _ _ _ hF1.ct hF2.ct (by decide) (by decide) (by decide) (by decide)).mono ?_
    rintro e u3 ⟨v3, rfl, hF3, hb3⟩
    replace B1 := B1.below hb3
    replace hbW : Below w.heap.size w u3 := hbW.trans (hb3.mono hbW.size)
    clear hb3 hF1 hF2
    have hX := hF3.ct
    obtain ⟨n3, x3, y3, ⟨a3, c3, b3, d3, rfl, _, _⟩, _⟩ := hF3
    have hs := B1.lt
    go_wp2_with fail
    obtain ⟨W2, hW2, B2, hb3⟩ : ∃ W2, W2 = u3.alloc (.cells #[.bool n3, .slice a3 x3.length c3, .slice b3 y3.length d3] 69) ∧ Box 69 W2 u3.heap.size (.bool n3) (.slice a3 x3.length c3) (.slice b3 y3.length d3) ∧ Below u3.heap.size u3 W2 := ⟨_, rfl, Box.new _ _ _ _ _, al1 _⟩
    rw [← hW2]
    clear hW2
    replace B1 := B1.below hb3
    replace hX := hX.below hb3
    replace hbW : Below w.heap.size w W2 := hbW.trans (hb3.mono hbW.size)
    clear hb3
    have hne : u3.heap.size ≠ w.heap.size := by omega
    clear hs
    generalize u3.heap.size = g at B2 hne ⊢
    obtain ⟨p1, p2, p3, _⟩ := B2.cells
    go_region_held3 (fun u => u.cell? ⟨g, 0, none⟩ = some (.bool n3) ∧ u.cell? ⟨g, 1, none⟩ = some (.slice a3 x3.length c3) ∧ u.cell? ⟨g, 2, none⟩ = some (.slice b3 y3.length d3)) (first | (go_keep; done) | (refine ⟨(cell_set3 hne).trans p1, (cell_set3 hne).trans p2, (cell_set3 hne).trans p3⟩))
      (first
        | (go_at_call 63
           refine (whole_any a _ ?_ ?_).mono ?_
           · omega
           · omega
           rintro e u4 ⟨v4, rfl, hF4, hb4⟩
           replace hb4 : Below W2.heap.size W2 u4 := Below.drew1.trans hb4
           replace hX := hX.below hb4
           replace B1 := B1.below hb4
           replace B2 := B2.below hb4
           replace hbW : Below w.heap.size w u4 := hbW.trans (hb4.mono hbW.size)
           clear hb4 p1 p2 p3
           obtain ⟨p1, p2, p3, _⟩ := B2.cells)
        | (go_at_call 123
           refine (qadd_any 2 4 _ _ _ _ _ hF4.ct hX (by decide) (by decide) (by decide) (by decide)).mono ?_
           rintro e u5 ⟨v5, rfl, hF5, hb5⟩
           replace B1 := B1.below hb5
           replace B2 := B2.below hb5
           replace hbW : Below w.heap.size w u5 := hbW.trans (hb5.mono hbW.size)
           replace hF5 := hF5.eq HB.out.symm
           clear hb5 hF4 hX p1 p2 p3
           obtain ⟨p1, p2, p3, _⟩ := B2.cells
           obtain ⟨q1, q2, q3, q4, q5, q6⟩ := B1.cells
           have hs := B1.lt
           obtain ⟨n', xs', ys', ⟨e1, f1, e2, f2, rfl, hx', hy'⟩, hF⟩ := hF5))
    go_wp2
    refine ret3 (v := .agg #[.bool n', .slice e1 xs'.length f1, .slice e2 ys'.length f2]) B1 rfl (fun U hU => by obtain ⟨r1, r2, r3, _⟩ := hU.cells; simp [results, Tryz.results205, go_sem, r1, r2, r3]) (fun U hU hK => ⟨_, rfl, ⟨_, _, _, ⟨_, _, _, _, rfl, hK _ _ _ hx', hK _ _ _ hy'⟩, hF⟩, hU _ _ hbW (by omega)⟩)
  · have e1 : nr4 a b n d = false := by simpa using h4
    have HB : Hid (btw a b n d = 0) := by
      show btw a b n d = _
      unfold btw
      rw [if_neg h4]
    rw [e1]
    clear h4 e1
    go_wp2_with fail
    refine (whole_any 0 _ (by decide) (by decide)).mono ?_
    rintro e u1 ⟨v1, rfl, hF1, hb1⟩
    replace B1 := B1.below hb1
    replace hbW : Below w.heap.size w u1 := hbW.trans (hb1.mono hbW.size)
    clear hb1
    have hs := B1.lt
    obtain ⟨q1, q2, q3, q4, q5, q6⟩ := B1.cells
    replace hF1 := (hF1.eq (r := btw a b n d) (by rw [HB.out]; rfl)).le (show 2 ≤ 7 by decide)
    obtain ⟨n', xs', ys', ⟨b, d, b', d', rfl, hx', hy'⟩, hF⟩ := hF1
    go_wp2
    refine ret3 (v := .agg #[.bool n', .slice b xs'.length d, .slice b' ys'.length d']) B1 rfl (fun U hU => by obtain ⟨r1, r2, r3, _⟩ := hU.cells; simp [results, Tryz.results205, go_sem, r1, r2, r3]) (fun U hU hK => ⟨_, rfl, ⟨_, _, _, ⟨_, _, _, _, rfl, hK _ _ _ hx', hK _ _ _ hy'⟩, hF⟩, hU _ _ hbW (by omega)⟩)

end Go.Proofs.YtngmcghmniakeaaGreat

namespace Go.Proofs.YtngmcghmniakeaaGreat
set_option linter.unusedSimpArgs false
set_option linter.unusedVariables false
end Go.Proofs.YtngmcghmniakeaaGreat

namespace Go.Proofs.YtngmcghmniakeaaGreat
set_option linter.unusedSimpArgs false
set_option linter.unusedVariables false

/-- The first touched one on a way of m steps. -/
def nbT (t : List Bool) (f : Nat → Nat) (m : Nat) : Option Nat := ((List.range m).map f).find? (fun j => t.getD j false)
theorem nbT_succ (t : List Bool) (f : Nat → Nat) (m : Nat) : nbT t f (m + 1) = (nbT t f m).or (if t.getD (f m) false = true then some (f m) else none) := by
  unfold nbT
  rw [List.range_succ, List.map_append, List.find?_append]
  by_cases h : t.getD (f m) false = true
  · simp only [List.map_cons, List.map_nil, List.find?_cons, h, if_true]
  · have h' : t.getD (f m) false = false := by simpa using h
    simp only [List.map_cons, List.map_nil, List.find?_cons, List.find?_nil, h']
    rfl
theorem nbT_none {t : List Bool} {f : Nat → Nat} {m : Nat} (h : ∀ j, j < m → t.getD (f j) false = false) : nbT t f m = none := by
  induction m with
  | zero => rfl
  | succ m ih => rw [nbT_succ, ih (fun j hj => h j (by omega)), h m (by omega)]; rfl
theorem nbT_some {t : List Bool} {f : Nat → Nat} {m k : Nat} (hk : k < m) (h : ∀ j, j < k → t.getD (f j) false = false) (ht : t.getD (f k) false = true) : nbT t f m = some (f k) := by
  induction m with
  | zero => omega
  | succ m ih =>
    rw [nbT_succ]
    by_cases hkm : k < m
    · rw [ih hkm]; rfl
    · obtain rfl : k = m := by omega
      rw [nbT_none h, if_pos ht]; rfl
theorem nbT_spec (t : List Bool) (f : Nat → Nat) (m : Nat) : (nbT t f m = none ∧ ∀ j, j < m → t.getD (f j) false = false) ∨ ∃ k, k < m ∧ nbT t f m = some (f k) ∧ t.getD (f k) false = true := by
  induction m with
  | zero => exact .inl ⟨rfl, fun j hj => by omega⟩
  | succ m ih =>
    rcases ih with ⟨h1, h2⟩ | ⟨k, hk, h1, h2⟩
    · by_cases hm : t.getD (f m) false = true
      · exact .inr ⟨m, by omega, by rw [nbT_succ, h1, if_pos hm]; rfl, hm⟩
      · refine .inl ⟨by rw [nbT_succ, h1, if_neg hm]; rfl, fun j hj => ?_⟩
        by_cases hjm : j < m
        · exact h2 j hjm
        · obtain rfl : j = m := by omega
          simpa using hm
    · exact .inr ⟨k, by omega, by rw [nbT_succ, h1]; rfl, h2⟩
/-- The ways ahead and behind. -/
def wyA (n i k : Nat) : Nat := if k < i then i - 1 - k else i + n - 1 - k
def wyB (n i k : Nat) : Nat := if i + 1 + k < n then i + 1 + k else i + 1 + k - n
theorem mod2 {x n : Nat} (h : x < 2 * n) : x % n = if x < n then x else x - n := by
  by_cases hx : x < n
  · rw [if_pos hx, Nat.mod_eq_of_lt hx]
  · rw [if_neg hx, Nat.mod_eq_sub_mod (by omega), Nat.mod_eq_of_lt (by omega)]
theorem wyA_lt {n i k : Nat} (hi : i < n) (hk : k < n) : wyA n i k < n := by unfold wyA; split <;> omega
theorem wyB_lt {n i k : Nat} (hi : i < n) (hk : k < n) : wyB n i k < n := by unfold wyB; split <;> omega
theorem wyA_ne {n i k : Nat} (hi : i < n) (hk : k < n - 1) : wyA n i k ≠ i := by unfold wyA; split <;> omega
theorem wyB_ne {n i k : Nat} (hi : i < n) (hk : k < n - 1) : wyB n i k ≠ i := by unfold wyB; split <;> omega
theorem wyA_end {n i : Nat} (hi : i < n) : wyA n i (n - 1) = i := by unfold wyA; split <;> omega
theorem wyB_end {n i : Nat} (hi : i < n) : wyB n i (n - 1) = i := by unfold wyB; split <;> omega
theorem wyA_zero {n i : Nat} (hi : i < n) : (i + (n - 1)) % n = wyA n i 0 := by rw [mod2 (by omega)]; unfold wyA; split <;> split <;> omega
theorem wyB_zero {n i : Nat} (hi : i < n) : (i + 1) % n = wyB n i 0 := by rw [mod2 (by omega)]; unfold wyB; rw [Nat.add_zero]
theorem wyA_succ {n i k : Nat} (hi : i < n) (hk : k + 1 < n) : (wyA n i k + (n - 1)) % n = wyA n i (k + 1) := by
  rw [mod2 (by have := wyA_lt hi (show k < n by omega); omega)]
  unfold wyA
  split <;> split <;> split <;> omega
theorem wyB_succ {n i k : Nat} (hi : i < n) (hk : k + 1 < n) : (wyB n i k + 1) % n = wyB n i (k + 1) := by
  rw [mod2 (by have := wyB_lt hi (show k < n by omega); omega)]
  unfold wyB
  split <;> split <;> split <;> omega
theorem wyA_onto {n i j : Nat} (hi : i < n) (hj : j < n) (hne : j ≠ i) : ∃ k, k < n - 1 ∧ wyA n i k = j := by
  by_cases h : j < i
  · exact ⟨i - 1 - j, by omega, by unfold wyA; rw [if_pos (by omega)]; omega⟩
  · exact ⟨i + n - 1 - j, by omega, by unfold wyA; rw [if_neg (by omega)]; omega⟩
theorem wyB_onto {n i j : Nat} (hi : i < n) (hj : j < n) (hne : j ≠ i) : ∃ k, k < n - 1 ∧ wyB n i k = j := by
  by_cases h : j < i
  · exact ⟨j + n - 1 - i, by omega, by unfold wyB; rw [if_neg (by omega)]; omega⟩
  · exact ⟨j - 1 - i, by omega, by unfold wyB; rw [if_pos (by omega)]; omega⟩
/-- The nearest touched ones. -/
def nbA (t : List Bool) (i : Nat) : Option Nat := nbT t (wyA t.length i) (t.length - 1)
def nbB (t : List Bool) (i : Nat) : Option Nat := nbT t (wyB t.length i) (t.length - 1)
theorem nbA_spec {t : List Bool} {i : Nat} (hi : i < t.length) : (nbA t i = none ∧ ∀ j, j < t.length → j ≠ i → t.getD j false = false) ∨ ∃ a, a < t.length ∧ a ≠ i ∧ nbA t i = some a ∧ t.getD a false = true := by
  rcases nbT_spec t (wyA t.length i) (t.length - 1) with ⟨h1, h2⟩ | ⟨k, hk, h1, h2⟩
  · refine .inl ⟨h1, fun j hj hne => ?_⟩
    obtain ⟨k, hk, e⟩ := wyA_onto hi hj hne
    rw [← e]
    exact h2 k hk
  · exact .inr ⟨_, wyA_lt hi (by omega), wyA_ne hi hk, h1, h2⟩
theorem nbB_spec {t : List Bool} {i : Nat} (hi : i < t.length) : (nbB t i = none ∧ ∀ j, j < t.length → j ≠ i → t.getD j false = false) ∨ ∃ a, a < t.length ∧ a ≠ i ∧ nbB t i = some a ∧ t.getD a false = true := by
  rcases nbT_spec t (wyB t.length i) (t.length - 1) with ⟨h1, h2⟩ | ⟨k, hk, h1, h2⟩
  · refine .inl ⟨h1, fun j hj hne => ?_⟩
    obtain ⟨k, hk, e⟩ := wyB_onto hi hj hne
    rw [← e]
    exact h2 k hk
  · exact .inr ⟨_, wyB_lt hi (by omega), wyB_ne hi hk, h1, h2⟩
/-- Both are there, or none. -/
theorem nbAB {t : List Bool} {i : Nat} (hi : i < t.length) : (nbA t i = none ∧ nbB t i = none ∧ ∀ j, j < t.length → j ≠ i → t.getD j false = false) ∨ ∃ a b, nbA t i = some a ∧ nbB t i = some b ∧ a < t.length ∧ b < t.length ∧ a ≠ i ∧ b ≠ i ∧ t.getD a false = true ∧ t.getD b false = true := by
  rcases nbA_spec hi with ⟨h1, h2⟩ | ⟨a, h1, h2, h3, h4⟩
  · rcases nbB_spec hi with ⟨k1, k2⟩ | ⟨b, k1, k2, k3, k4⟩
    · exact .inl ⟨h1, k1, h2⟩
    · rw [h2 b k1 k2] at k4; cases k4
  · rcases nbB_spec hi with ⟨k1, k2⟩ | ⟨b, k1, k2, k3, k4⟩
    · rw [k2 a h1 h2] at h4; cases h4
    · exact .inr ⟨a, b, h3, k3, h1, k1, h2, k2, h4, k4⟩

/-- What is inferred between two. -/
def segQ (a x b y c : Int) : Rat := if c ≤ a then (x : Rat) else if b ≤ c then (y : Rat) else btw x y (c - a) (b - a)
def infQ (a x b y c : Int) : Rat := if a = b then (if x = y then (x : Rat) else 0) else if a < b then segQ a x b y c else segQ b y a x c
/-- The change of number i, told or inferred. -/
def fiQ (ns : List Int) (ts : List Bool) (cs : List Int) (i : Nat) : Rat :=
  if ts.getD i false = true then ((cs.getD i 0 : Int) : Rat) else
    match nbA ts i, nbB ts i with
    | some a, some b => infQ (ns.getD a 0) (cs.getD a 0) (ns.getD b 0) (cs.getD b 0) (ns.getD i 0)
    | _, _ => 0
/-- Lists that fit. -/
def fitB (ns : List Int) (ts : List Bool) (cs : List Int) : Bool := decide (ts.length = ns.length ∧ cs.length = ns.length ∧ ns.length ≤ 80) && (ns.all fdB && cs.all fdB)
/-- What Fill answers. -/
def fillQ (ns : List Int) (ts : List Bool) (cs : List Int) : List Rat := if fitB ns ts cs = true then (List.range ns.length).map (fiQ ns ts cs) else []
theorem fillQ_no {ns : List Int} {ts : List Bool} {cs : List Int} (h : fitB ns ts cs = false) : fillQ ns ts cs = [] := by
  unfold fillQ
  rw [h]
  rfl
theorem fillQ_yes {ns : List Int} {ts : List Bool} {cs : List Int} (h : fitB ns ts cs = true) : fillQ ns ts cs = (List.range ns.length).map (fiQ ns ts cs) := if_pos h
theorem fillQ_len {ns : List Int} {ts : List Bool} {cs : List Int} (h : fitB ns ts cs = true) : (fillQ ns ts cs).length = ns.length := by rw [fillQ_yes h]; simp
theorem fitB_iff {ns : List Int} {ts : List Bool} {cs : List Int} : fitB ns ts cs = true ↔ (ts.length = ns.length ∧ cs.length = ns.length ∧ ns.length ≤ 80) ∧ (∀ z ∈ ns, -32768 ≤ z ∧ z ≤ 32767) ∧ ∀ z ∈ cs, -32768 ≤ z ∧ z ≤ 32767 := by
  unfold fitB
  simp only [Bool.and_eq_true, decide_eq_true_iff, List.all_eq_true, fdB_iff]
theorem fd_getD {l : List Int} (h : ∀ z ∈ l, -32768 ≤ z ∧ z ≤ 32767) (i : Nat) : -32768 ≤ l.getD i 0 ∧ l.getD i 0 ≤ 32767 := by
  by_cases hi : i < l.length
  · rw [List.getD_eq_getElem?_getD, List.getElem?_eq_getElem hi, Option.getD_some]
    exact h _ (List.getElem_mem hi)
  · rw [List.getD_eq_getElem?_getD, List.getElem?_eq_none (by omega), Option.getD_none]
    omega
theorem fiQ_own {ns : List Int} {ts : List Bool} {cs : List Int} {i : Nat} (h : ts.getD i false = true) : fiQ ns ts cs i = ((cs.getD i 0 : Int) : Rat) := if_pos h
theorem fiQ_two {ns : List Int} {ts : List Bool} {cs : List Int} {i a b : Nat} (h : ts.getD i false = false) (ha : nbA ts i = some a) (hb : nbB ts i = some b) : fiQ ns ts cs i = infQ (ns.getD a 0) (cs.getD a 0) (ns.getD b 0) (cs.getD b 0) (ns.getD i 0) := by
  unfold fiQ
  rw [h, ha, hb]
  rfl
theorem fiQ_nil {ns : List Int} {ts : List Bool} {cs : List Int} {i : Nat} (h : ts.getD i false = false) (ha : nbA ts i = none) : fiQ ns ts cs i = 0 := by
  unfold fiQ
  rw [h, ha]
  rfl
end Go.Proofs.YtngmcghmniakeaaGreat

namespace Go.Proofs.YtngmcghmniakeaaGreat
open Go.RowKit Go.Maps
set_option linter.unusedSimpArgs false
set_option linter.unusedVariables false

/-- A page: its bytes, the places that wait, whether it has failed. -/
structure St where
  bs : List Nat
  ws : List Int
  no : Bool

/-- A page of the document: bytes; no place waits twice, and each has its four bytes. -/
def Wf (s : St) : Prop := Byt s.bs ∧ s.ws.Nodup ∧ (∀ x ∈ s.ws, 0 ≤ x ∧ x + 4 ≤ (s.bs.length : Int)) ∧ 4 * s.ws.length ≤ s.bs.length

def St.zero : St := ⟨[], [], false⟩
def St.fail (s : St) : St := { s with no := true }
/-- Bytes are put, unless the page has failed. -/
def St.app (s : St) (xs : List Nat) : St := if s.no then s else { s with bs := s.bs ++ xs }

theorem Wf.zero : Wf St.zero := ⟨Byt.nil, List.nodup_nil, (fun x hx => by cases hx), Nat.le_refl _⟩
theorem Wf.fail {s : St} (h : Wf s) : Wf s.fail := h
theorem Wf.app {s : St} (h : Wf s) {xs : List Nat} (hx : Byt xs) : Wf (s.app xs) := by
  unfold St.app
  split
  · exact h
  · exact ⟨h.1.append hx, h.2.1, fun x hxs => by have := h.2.2.1 x hxs; simp; omega, by have := h.2.2.2; simp; omega⟩
theorem St.app_bad {s : St} (h : s.no = true) (xs : List Nat) : s.app xs = s := by simp [St.app, h]
theorem St.app_ok {s : St} (h : s.no = false) (xs : List Nat) : s.app xs = { s with bs := s.bs ++ xs } := by simp [St.app, h]
theorem St.app_no (s : St) (xs : List Nat) : (s.app xs).no = s.no := by unfold St.app; split <;> rfl
/-- A row of bytes, none of whose blocks lies in G. -/
def Row (w : World) (G : Nat → Prop) (v : Value) (xs : List Nat) : Prop :=
  w.ownsRow 0 5 1 v xs.length (xs.map Y) ∧ ∀ g, v.ownBlock = some g → ¬ G g

/-- The map of the places that wait. -/
def Wts (w : World) (G : Nat → Prop) (v : Value) (ws : List Int) : Prop :=
  (v = .map none ∧ ws = []) ∨ ∃ m D, v = .map (some m) ∧ ¬ G m ∧ w.ownsMap Tryz.prog 3 (unitElem (H := Unit)) m ws.length D ∧
    (∀ x : Int, Maps.has D (.int .i64 x) = decide (x ∈ ws)) ∧ Maps.size D = ws.length

/-- The four cells of a page of the code. -/
def Bx4 (w : World) (B : Nat) (a b c d : Value) : Prop := w.heap[B]? = some (.cells #[a, b, c, d] 96 (0, 0))

/-- Block B holds a page of the code in the state s; no block of it lies in G. -/
def Pc (w : World) (B : Nat) (G : Nat → Prop) (s : St) : Prop :=
  (∀ k, G k → k < w.heap.size) ∧ ¬ G B ∧ Wf s ∧ ∃ vb vm, Bx4 w B vb (.int .i64 (s.bs.length : Int)) vm (.bool s.no) ∧ (s.no = true → vm = .map none) ∧ (s.no = false → Row w G vb s.bs ∧ Wts w G vm s.ws)

theorem Bx4.lt {w : World} {B : Nat} {a b c d : Value} (h : Bx4 w B a b c d) : B < w.heap.size := (Array.getElem?_eq_some_iff.1 h).1
theorem Bx4.cells {w : World} {B : Nat} {a b c d : Value} (h : Bx4 w B a b c d) :
    w.cell? ⟨B, 0, none⟩ = some a ∧ w.cell? ⟨B, 1, none⟩ = some b ∧ w.cell? ⟨B, 2, none⟩ = some c ∧ w.cell? ⟨B, 3, none⟩ = some d ∧
    w.frozen? ⟨B, 0, none⟩ = false ∧ w.frozen? ⟨B, 1, none⟩ = false ∧ w.frozen? ⟨B, 2, none⟩ = false ∧ w.frozen? ⟨B, 3, none⟩ = false :=
  ⟨cell_of_row w B 0 _ _ (0, 0) h, cell_of_row w B 1 _ _ (0, 0) h, cell_of_row w B 2 _ _ (0, 0) h, cell_of_row w B 3 _ _ (0, 0) h, frozen_of_row w B 0 _ _ h, frozen_of_row w B 1 _ _ h, frozen_of_row w B 2 _ _ h, frozen_of_row w B 3 _ _ h⟩
theorem Bx4.set0 {w : World} {B : Nat} {a b c d : Value} (h : Bx4 w B a b c d) (x : Value) : Bx4 (w.setCell ⟨B, 0, none⟩ x) B x b c d := heap_setCell_same w B 0 _ _ x h
theorem Bx4.set1 {w : World} {B : Nat} {a b c d : Value} (h : Bx4 w B a b c d) (x : Value) : Bx4 (w.setCell ⟨B, 1, none⟩ x) B a x c d := heap_setCell_same w B 1 _ _ x h
theorem Bx4.set2 {w : World} {B : Nat} {a b c d : Value} (h : Bx4 w B a b c d) (x : Value) : Bx4 (w.setCell ⟨B, 2, none⟩ x) B a b x d := heap_setCell_same w B 2 _ _ x h
theorem Bx4.set3 {w : World} {B : Nat} {a b c d : Value} (h : Bx4 w B a b c d) (x : Value) : Bx4 (w.setCell ⟨B, 3, none⟩ x) B a b c x := heap_setCell_same w B 3 _ _ x h
theorem Bx4.keep {G : Nat → Prop} {w w' : World} {B : Nat} {a b c d : Value} (h : Bx4 w B a b c d) (hk : Keep G w w') (hB : G B) : Bx4 w' B a b c d := (hk.block B hB).trans h
theorem Bx4.below {w w' : World} {B : Nat} {a b c d : Value} (h : Bx4 w B a b c d) (hb : Below w.heap.size w w') : Bx4 w' B a b c d := (hb.block B h.lt).trans h

/-- No byte that is read lies among a page's cells. -/
theorem Rb.off {w : World} {B : Nat} {x0 x1 x2 x3 : Value} (hB : Bx4 w B x0 x1 x2 x3) (h0 : ∀ z, x0 ≠ .int .u8 z) (h1 : ∀ z, x1 ≠ .int .u8 z) (h2 : ∀ z, x2 ≠ .int .u8 z) (h3 : ∀ z, x3 ≠ .int .u8 z)
    {w' : World} {a : Option Addr} {cap : Nat} {xs : List Nat} (h : Rb w a cap xs) (hs : w.heap.size ≤ w'.heap.size) (hw : ∀ k, k < w.heap.size → k ≠ B → w'.heap[k]? = w.heap[k]?) : Rb w' a cap xs := by
  obtain ⟨k1, k2, k3, k5, k4⟩ := h
  refine ⟨k1, k2, k3, k5, ?_⟩
  by_cases hx : xs = []
  · exact .inl hx
  rcases k4 with k4 | ⟨g, off, e, hg, hc⟩
  · exact .inl k4
  · refine .inr ⟨g, off, e, Nat.lt_of_lt_of_le hg hs, fun i hi => ?_⟩
    have hne : g ≠ B := by
      rintro rfl
      have hc0 := hc 0 (List.length_pos_iff.2 hx)
      have hb := cell_of_row w g (off + 0) _ _ (0, 0) hB
      rw [hc0] at hb
      match off, hb with
      | 0, hb => simp at hb; exact h0 _ hb.symm
      | 1, hb => simp at hb; exact h1 _ hb.symm
      | 2, hb => simp at hb; exact h2 _ hb.symm
      | 3, hb => simp at hb; exact h3 _ hb.symm
      | (k + 4), hb => simp at hb
    exact (World.cell?_of_block (w := w) (a := ⟨g, off + i, none⟩) (hw g hg hne)).trans (hc i hi)

/-- What is owned stays owned while the blocks outside G stay. -/
theorem Row.stay {w w' : World} {G : Nat → Prop} {v : Value} {xs : List Nat} (h : Row w G v xs) (hb : ∀ k, k < w.heap.size → ¬ G k → w'.heap[k]? = w.heap[k]?) : Row w' G v xs := by
  obtain ⟨⟨h1, h2⟩, hG⟩ := h
  refine ⟨⟨h1, ?_⟩, hG⟩
  rcases h2 with h2 | ⟨g, cap, cur, e, h3, h4, h5⟩
  · exact .inl h2
  · exact .inr ⟨g, cap, cur, e, h3, (hb g (Array.getElem?_eq_some_iff.1 h4).1 (hG g (by rw [e]; rfl))).trans h4, h5⟩
/-- The row's block holds bytes: it is no page. -/
theorem Row.ne {w : World} {G : Nat → Prop} {v : Value} {xs : List Nat} (h : Row w G v xs) {B : Nat} {cs : Array Value} {t : TypeId} {f : Nat × Nat} (hB : w.heap[B]? = some (.cells cs t f)) (ht : t ≠ 5) : v.ownBlock ≠ some B := by
  obtain ⟨⟨h1, h2⟩, hG⟩ := h
  rcases h2 with ⟨rfl, _⟩ | ⟨g, cap, cur, rfl, h3, h4, h5⟩
  · intro e; cases e
  · intro e
    simp only [Value.ownBlock, Option.some.injEq] at e
    subst e
    rw [h4] at hB
    simp at hB
    exact ht hB.2.1.symm
theorem Row.ne_map {w : World} {G : Nat → Prop} {v : Value} {xs : List Nat} (h : Row w G v xs) {m : Nat} {es : Array MapEntry} {c : Nat} (hB : w.heap[m]? = some (.map es c)) : v.ownBlock ≠ some m := by
  obtain ⟨⟨h1, h2⟩, hG⟩ := h
  rcases h2 with ⟨rfl, _⟩ | ⟨g, cap, cur, rfl, h3, h4, h5⟩
  · intro e; cases e
  · intro e
    simp only [Value.ownBlock, Option.some.injEq] at e
    subst e
    rw [h4] at hB
    simp at hB
/-- .. while all but the page's own cells stays. -/
theorem Row.off {w w' : World} {G : Nat → Prop} {v : Value} {xs : List Nat} (h : Row w G v xs) {B : Nat} {cs : Array Value} {t : TypeId} {f : Nat × Nat} (hB : w.heap[B]? = some (.cells cs t f)) (ht : t ≠ 5)
    (hb : ∀ k, k < w.heap.size → k ≠ B → w'.heap[k]? = w.heap[k]?) : Row w' G v xs := by
  have hne := h.ne hB ht
  obtain ⟨⟨h1, h2⟩, hG⟩ := h
  refine ⟨⟨h1, ?_⟩, hG⟩
  rcases h2 with h2 | ⟨g, cap, cur, e, h3, h4, h5⟩
  · exact .inl h2
  · exact .inr ⟨g, cap, cur, e, h3, (hb g (Array.getElem?_eq_some_iff.1 h4).1 (fun e' => hne (by rw [e, ← e']; rfl))).trans h4, h5⟩
theorem Row.slice {w : World} {G : Nat → Prop} {v : Value} {xs : List Nat} (h : Row w G v xs) : ∃ a c, v = .slice a xs.length c := by
  rcases h.1.2 with ⟨e, h0⟩ | ⟨g, cap, cur, e, _⟩
  · exact ⟨none, 0, by rw [e, h0]⟩
  · exact ⟨_, cap, e⟩
theorem Row.no8 {w : World} {G : Nat → Prop} {v : Value} {xs : List Nat} (h : Row w G v xs) (z : Int) : v ≠ .int .u8 z := by
  obtain ⟨a, c, rfl⟩ := h.slice
  intro e; cases e
theorem Wts.no8 {w : World} {G : Nat → Prop} {v : Value} {ws : List Int} (h : Wts w G v ws) (z : Int) : v ≠ .int .u8 z := by
  rcases h with ⟨rfl, _⟩ | ⟨m, D, rfl, _⟩ <;> (intro e; cases e)
/-- The map stays while a block of cells is written. -/
theorem Wts.off {w w' : World} {G : Nat → Prop} {v : Value} {ws : List Int} (h : Wts w G v ws) {B : Nat} (hB : ∀ es c, w.heap[B]? ≠ some (.map es c))
    (hb : ∀ k, k < w.heap.size → k ≠ B → w'.heap[k]? = w.heap[k]?) : Wts w' G v ws := by
  rcases h with h | ⟨m, D, e, hG, ho, h1, h2⟩
  · exact .inl h
  · have hlt := ho.lt
    obtain ⟨es, clock, hb0, F, hs, hD⟩ := ho
    exact .inr ⟨m, D, e, hG, ⟨es, clock, (hb m hlt (fun e' => hB es clock (e' ▸ hb0))).trans hb0, F, hs, hD⟩, h1, h2⟩
theorem Bx4.no_map {w : World} {B : Nat} {a b c d : Value} (h : Bx4 w B a b c d) (es : Array MapEntry) (k : Nat) : w.heap[B]? ≠ some (.map es k) := by
  rw [h]; intro e; simp at e
/-- The map stays while the page's row grows. -/
theorem Wts.grown {w w' : World} {G : Nat → Prop} {v : Value} {ws : List Int} (h : Wts w G v ws) {G' : Nat → Prop} {u : Value} {xs : List Nat} (hr : Row w G' u xs) (hg : w.grownBy w' u.ownBlock) : Wts w' G v ws := by
  rcases h with h | ⟨m, D, e, hG, ho, h1, h2⟩
  · exact .inl h
  · have hlt := ho.lt
    obtain ⟨es, clock, hb0, F, hs, hD⟩ := ho
    exact .inr ⟨m, D, e, hG, ⟨es, clock, (hg.block m hlt (Ne.symm (hr.ne_map hb0))).trans hb0, F, hs, hD⟩, h1, h2⟩
theorem Bx4.grown {w w' : World} {B : Nat} {a b c d : Value} (h : Bx4 w B a b c d) {G' : Nat → Prop} {u : Value} {xs : List Nat} (hr : Row w G' u xs) (hg : w.grownBy w' u.ownBlock) : Bx4 w' B a b c d :=
  (hg.block B h.lt (Ne.symm (hr.ne h (by decide)))).trans h
theorem Wts.stay {w w' : World} {G : Nat → Prop} {v : Value} {ws : List Int} (h : Wts w G v ws) (hb : ∀ k, k < w.heap.size → ¬ G k → w'.heap[k]? = w.heap[k]?) : Wts w' G v ws := by
  rcases h with h | ⟨m, D, e, hG, ho, h1, h2⟩
  · exact .inl h
  · have hlt := ho.lt
    obtain ⟨es, clock, hb0, F, hs, hD⟩ := ho
    exact .inr ⟨m, D, e, hG, ⟨es, clock, (hb m hlt hG).trans hb0, F, hs, hD⟩, h1, h2⟩
/-- A page stays while its own blocks stay. -/
theorem Pc.stay {w w' : World} {B : Nat} {G : Nat → Prop} {s : St} (h : Pc w B G s) (hs : w.heap.size ≤ w'.heap.size) (hb : ∀ k, k < w.heap.size → ¬ G k → w'.heap[k]? = w.heap[k]?) : Pc w' B G s := by
  obtain ⟨h1, h2, h3, vb, vm, h4, h6, h5⟩ := h
  exact ⟨fun k hk => Nat.lt_of_lt_of_le (h1 k hk) hs, h2, h3, vb, vm, (hb B h4.lt h2).trans h4, h6, fun hn => ⟨(h5 hn).1.stay hb, (h5 hn).2.stay hb⟩⟩
theorem Pc.below {w w' : World} {B : Nat} {G : Nat → Prop} {s : St} (h : Pc w B G s) (hb : Below w.heap.size w w') : Pc w' B G s := h.stay hb.size fun k hk _ => hb.block k hk
/-- New blocks may be counted to G; fewer blocks too. -/
theorem Pc.guard {w : World} {B : Nat} {G G' : Nat → Prop} {s : St} (h : Pc w B G s) (hG : ∀ k, G' k → k < w.heap.size ∧ G k) : Pc w B G' s := by
  obtain ⟨h1, h2, h3, vb, vm, h4, h6, h5⟩ := h
  refine ⟨fun k hk => (hG k hk).1, fun hB => h2 (hG _ hB).2, h3, vb, vm, h4, h6, fun hn => ⟨⟨(h5 hn).1.1, fun g hg hg' => (h5 hn).1.2 g hg (hG _ hg').2⟩, ?_⟩⟩
  rcases (h5 hn).2 with h | ⟨m, D, e, hG2, r⟩
  · exact .inl h
  · exact .inr ⟨m, D, e, fun hm => hG2 (hG _ hm).2, r⟩
/-- Blocks that are made behind a page may be counted to G. -/
theorem Pc.guard_new {w w' : World} {B : Nat} {G G' : Nat → Prop} {s : St} (h : Pc w B G s) (hs : w.heap.size ≤ w'.heap.size) (hb : ∀ k, k < w.heap.size → ¬ G k → w'.heap[k]? = w.heap[k]?) (hG : ∀ k, G' k → k < w'.heap.size ∧ (k < w.heap.size → G k)) : Pc w' B G' s := by
  have h' := h.stay hs hb
  obtain ⟨h1, h2, h3, vb, vm, h4, h6, h5⟩ := h
  refine ⟨fun k hk => (hG k hk).1, fun hB => h2 ((hG _ hB).2 h4.lt), h3, vb, vm, (hb B h4.lt h2).trans h4, h6, fun hn => ⟨⟨((h5 hn).1.stay hb).1, fun g hg hg' => (h5 hn).1.2 g hg ((hG _ hg').2 ((h5 hn).1.1.lt g hg).2)⟩, ?_⟩⟩
  rcases (h5 hn).2 with h | ⟨m, D, e, hG2, ho, r⟩
  · exact .inl h
  · have hlt := ho.lt
    rcases ((h5 hn).2).stay hb with h | ⟨m', D', e', hG2', r'⟩
    · exact .inl h
    · rw [e] at e'
      simp at e'
      subst e'
      exact .inr ⟨m, D', e, fun hm => hG2 ((hG _ hm).2 hlt), r'⟩

end Go.Proofs.YtngmcghmniakeaaGreat
