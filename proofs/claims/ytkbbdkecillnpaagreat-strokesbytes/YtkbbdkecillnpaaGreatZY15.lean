/-
  ratio.Add, Sub, Mul, Cmp, Sign: the walks.
  ratio.Quo: the walk.
  ratio.floor, Floor, Round: the walks.
  foundryref01.Same, foundryref02.Same, foundrylaw02.plain, same, few, awake: the walks.
  fixed.Coordinate, Of14, Of16, Clamp, Field, To14: the walks.
-/
import Derived.Test.YtkbbdkecillnpaaGreatZY14
import Derived.Deep.RegionHeld3
import Derived.Deep.QuietTactic
import Derived.BigQuiet
import Derived.Outline
namespace Go.Proofs.YtkbbdkecillnpaaGreat
open Go.RowKit
set_option linter.unusedSimpArgs false
set_option linter.unusedVariables false

set_option maxHeartbeats 2000000 in
set_option maxRecDepth 100000 in
theorem qadd_any (k l : Nat) (q r : Rat) (v v' : Value) (w : World) (h : Ct w v k q) (h' : Ct w v' l r) (hk : k ≤ 100000000) (hl : l ≤ 100000000) (hk2 : 2 ≤ k) (hl2 : 2 ≤ l) :
    Calls Tryz.prog 72 #[v, v'] w fun e w' => ∃ v', e = .returned v' ∧ Fr w' v' (k + l + 1) (q + r) ∧ Below w.heap.size w w' := by
  have hX := h
  have hY := h'
  obtain ⟨n, xs, ys, ⟨a, c, a', c', rfl, hx, hy⟩, lx, ly, hq⟩ := h
  obtain ⟨m, ps, qs, ⟨b, d, b', d', rfl, hp, hqs⟩, lp, lq, hr⟩ := h'
  clear hq hr hx hy hp hqs lx ly lp lq
  go_enter Tryz.func72, Tryz.ntmps72
  go_wp2_with fail
  obtain ⟨W, hW, B1, B2, B3, hbW⟩ := boxes3 119 119 119 w (.bool n) (.slice a xs.length c) (.slice a' ys.length c') (.bool m) (.slice b ps.length d) (.slice b' qs.length d') (.bool false) (.slice none 0 0) (.slice none 0 0)
  rw [← hW]
  clear hW
  replace hX := hX.below hbW
  replace hY := hY.below hbW
  obtain ⟨p1, p2, p3, _⟩ := B1.cells
  obtain ⟨p4, p5, p6, _⟩ := B2.cells
  go_region_held3 (fun u => u.cell? ⟨w.heap.size, 0, none⟩ = some (.bool n) ∧ u.cell? ⟨w.heap.size, 1, none⟩ = some (.slice a xs.length c) ∧ u.cell? ⟨w.heap.size, 2, none⟩ = some (.slice a' ys.length c') ∧ u.cell? ⟨w.heap.size + 1, 0, none⟩ = some (.bool m) ∧ u.cell? ⟨w.heap.size + 1, 1, none⟩ = some (.slice b ps.length d) ∧ u.cell? ⟨w.heap.size + 1, 2, none⟩ = some (.slice b' qs.length d')) (first | (go_keep; done) | (refine ⟨(cell_set3 (by omega)).trans p1, (cell_set3 (by omega)).trans p2, (cell_set3 (by omega)).trans p3, (cell_set3 (by omega)).trans p4, (cell_set3 (by omega)).trans p5, (cell_set3 (by omega)).trans p6⟩))
    (first
      | (go_at_call_of 83 (Value.agg #[.bool n, .slice a xs.length c, .slice a' ys.length c'])
         refine (counted_any k q _ _ (hX.below Below.drew1) ?_ ?_).mono ?_
         · omega
         · omega
         rintro e u1 ⟨v1, rfl, hF1, hb1⟩
         have hb1' : Below W.heap.size W u1 := Below.drew1.trans hb1
         replace hY := hY.below hb1'
         replace B1 := B1.below hb1'
         replace B2 := B2.below hb1'
         replace B3 := B3.below hb1'
         replace hbW : Below w.heap.size w u1 := hbW.trans (hb1'.mono hbW.size)
         clear hb1 hb1' hX
         clear p1 p2 p3 p4 p5 p6
         obtain ⟨p1, p2, p3, _⟩ := B1.cells
         obtain ⟨p4, p5, p6, _⟩ := B2.cells)
      | (go_at_call_of 83 (Value.agg #[.bool m, .slice b ps.length d, .slice b' qs.length d'])
         refine (counted_any l r _ _ hY ?_ ?_).mono ?_
         · omega
         · omega
         rintro e u2 ⟨v2, rfl, hF2, hb2⟩
         replace hF1 := hF1.below hb2
         replace B1 := B1.below hb2
         replace B2 := B2.below hb2
         replace B3 := B3.below hb2
         replace hbW : Below w.heap.size w u2 := hbW.trans (hb2.mono hbW.size)
         clear hb2 hY
         clear p1 p2 p3 p4 p5 p6
         obtain ⟨p1, p2, p3, _⟩ := B1.cells
         obtain ⟨p4, p5, p6, _⟩ := B2.cells)
      | (go_at_call 82
         refine (plus_any k l q r _ _ _ hF1.lo hF2.lo ?_ ?_).mono ?_
         · omega
         · omega
         rintro e u3 ⟨v3, rfl, hL, hb3⟩
         replace B1 := B1.below hb3
         replace B2 := B2.below hb3
         replace B3 := B3.below hb3
         replace hbW : Below w.heap.size w u3 := hbW.trans (hb3.mono hbW.size)
         clear hb3 hF1 hF2
         clear p1 p2 p3 p4 p5 p6
         obtain ⟨p1, p2, p3, _⟩ := B1.cells
         obtain ⟨p4, p5, p6, _⟩ := B2.cells)
      | (go_at_call 84
         refine (reduced_any (k + l + 1) _ _ _ hL ?_).mono ?_
         · omega
         rintro e u4 ⟨v4, rfl, hF, hb4⟩
         replace B1 := B1.below hb4
         replace B2 := B2.below hb4
         replace B3 := B3.below hb4
         replace hbW : Below w.heap.size w u4 := hbW.trans (hb4.mono hbW.size)
         clear hb4 hL
         clear p1 p2 p3 p4 p5 p6
         obtain ⟨p1, p2, p3, _⟩ := B1.cells
         obtain ⟨p4, p5, p6, _⟩ := B2.cells
         obtain ⟨q1, q2, q3, q4, q5, q6⟩ := B3.cells
         have hs := B3.lt
         obtain ⟨n1, x1, y1, ⟨b1, d1, b2, d2, rfl, hx', hy'⟩, hF⟩ := hF))
  go_wp2
  exact ret3 (v := .agg #[.bool n1, .slice b1 x1.length d1, .slice b2 y1.length d2]) B3 rfl (fun U hU => by obtain ⟨r1, r2, r3, _⟩ := hU.cells; simp [results, Tryz.results72, go_sem, r1, r2, r3]) (fun U hU hK => ⟨_, rfl, ⟨_, _, _, ⟨_, _, _, _, rfl, hK _ _ _ hx', hK _ _ _ hy'⟩, hF⟩, hU _ _ hbW (by omega)⟩)

set_option maxHeartbeats 2000000 in
set_option maxRecDepth 100000 in
theorem qmul_any (k l : Nat) (q r : Rat) (v v' : Value) (w : World) (h : Ct w v k q) (h' : Ct w v' l r) (hk : k ≤ 100000000) (hl : l ≤ 100000000) (hk2 : 2 ≤ k) (hl2 : 2 ≤ l) :
    Calls Tryz.prog 88 #[v, v'] w fun e w' => ∃ v', e = .returned v' ∧ Fr w' v' (k + l) (q * r) ∧ Below w.heap.size w w' := by
  have hX := h
  have hY := h'
  obtain ⟨n, xs, ys, ⟨a, c, a', c', rfl, hx, hy⟩, lx, ly, hq⟩ := h
  obtain ⟨m, ps, qs, ⟨b, d, b', d', rfl, hp, hqs⟩, lp, lq, hr⟩ := h'
  clear hq hr hx hy hp hqs lx ly lp lq
  go_enter Tryz.func88, Tryz.ntmps88
  go_wp2_with fail
  obtain ⟨W, hW, B1, B2, B3, hbW⟩ := boxes3 119 119 119 w (.bool n) (.slice a xs.length c) (.slice a' ys.length c') (.bool m) (.slice b ps.length d) (.slice b' qs.length d') (.bool false) (.slice none 0 0) (.slice none 0 0)
  rw [← hW]
  clear hW
  replace hX := hX.below hbW
  replace hY := hY.below hbW
  obtain ⟨p1, p2, p3, _⟩ := B1.cells
  obtain ⟨p4, p5, p6, _⟩ := B2.cells
  go_region_held3 (fun u => u.cell? ⟨w.heap.size, 0, none⟩ = some (.bool n) ∧ u.cell? ⟨w.heap.size, 1, none⟩ = some (.slice a xs.length c) ∧ u.cell? ⟨w.heap.size, 2, none⟩ = some (.slice a' ys.length c') ∧ u.cell? ⟨w.heap.size + 1, 0, none⟩ = some (.bool m) ∧ u.cell? ⟨w.heap.size + 1, 1, none⟩ = some (.slice b ps.length d) ∧ u.cell? ⟨w.heap.size + 1, 2, none⟩ = some (.slice b' qs.length d')) (first | (go_keep; done) | (refine ⟨(cell_set3 (by omega)).trans p1, (cell_set3 (by omega)).trans p2, (cell_set3 (by omega)).trans p3, (cell_set3 (by omega)).trans p4, (cell_set3 (by omega)).trans p5, (cell_set3 (by omega)).trans p6⟩))
    (first
      | (go_at_call_of 83 (Value.agg #[.bool n, .slice a xs.length c, .slice a' ys.length c'])
         refine (counted_any k q _ _ (hX.below Below.drew1) ?_ ?_).mono ?_
         · omega
         · omega
         rintro e u1 ⟨v1, rfl, hF1, hb1⟩
         have hb1' : Below W.heap.size W u1 := Below.drew1.trans hb1
         replace hY := hY.below hb1'
         replace B1 := B1.below hb1'
         replace B2 := B2.below hb1'
         replace B3 := B3.below hb1'
         replace hbW : Below w.heap.size w u1 := hbW.trans (hb1'.mono hbW.size)
         clear hb1 hb1' hX
         clear p1 p2 p3 p4 p5 p6
         obtain ⟨p1, p2, p3, _⟩ := B1.cells
         obtain ⟨p4, p5, p6, _⟩ := B2.cells)
      | (go_at_call_of 83 (Value.agg #[.bool m, .slice b ps.length d, .slice b' qs.length d'])
         refine (counted_any l r _ _ hY ?_ ?_).mono ?_
         · omega
         · omega
         rintro e u2 ⟨v2, rfl, hF2, hb2⟩
         replace hF1 := hF1.below hb2
         replace B1 := B1.below hb2
         replace B2 := B2.below hb2
         replace B3 := B3.below hb2
         replace hbW : Below w.heap.size w u2 := hbW.trans (hb2.mono hbW.size)
         clear hb2 hY
         clear p1 p2 p3 p4 p5 p6
         obtain ⟨p1, p2, p3, _⟩ := B1.cells
         obtain ⟨p4, p5, p6, _⟩ := B2.cells)
      | (go_at_call 113
         refine (times_any k l q r _ _ _ hF1.lo hF2.lo ?_ ?_).mono ?_
         · omega
         · omega
         rintro e u3 ⟨v3, rfl, hL, hb3⟩
         replace B1 := B1.below hb3
         replace B2 := B2.below hb3
         replace B3 := B3.below hb3
         replace hbW : Below w.heap.size w u3 := hbW.trans (hb3.mono hbW.size)
         clear hb3 hF1 hF2
         clear p1 p2 p3 p4 p5 p6
         obtain ⟨p1, p2, p3, _⟩ := B1.cells
         obtain ⟨p4, p5, p6, _⟩ := B2.cells)
      | (go_at_call 84
         refine (reduced_any (k + l) _ _ _ hL ?_).mono ?_
         · omega
         rintro e u4 ⟨v4, rfl, hF, hb4⟩
         replace B1 := B1.below hb4
         replace B2 := B2.below hb4
         replace B3 := B3.below hb4
         replace hbW : Below w.heap.size w u4 := hbW.trans (hb4.mono hbW.size)
         clear hb4 hL
         clear p1 p2 p3 p4 p5 p6
         obtain ⟨p1, p2, p3, _⟩ := B1.cells
         obtain ⟨p4, p5, p6, _⟩ := B2.cells
         obtain ⟨q1, q2, q3, q4, q5, q6⟩ := B3.cells
         have hs := B3.lt
         obtain ⟨n1, x1, y1, ⟨b1, d1, b2, d2, rfl, hx', hy'⟩, hF⟩ := hF))
  go_wp2
  exact ret3 (v := .agg #[.bool n1, .slice b1 x1.length d1, .slice b2 y1.length d2]) B3 rfl (fun U hU => by obtain ⟨r1, r2, r3, _⟩ := hU.cells; simp [results, Tryz.results88, go_sem, r1, r2, r3]) (fun U hU hK => ⟨_, rfl, ⟨_, _, _, ⟨_, _, _, _, rfl, hK _ _ _ hx', hK _ _ _ hy'⟩, hF⟩, hU _ _ hbW (by omega)⟩)

set_option maxHeartbeats 1000000 in
set_option maxRecDepth 100000 in
theorem qsign_any (k : Nat) (q : Rat) (v : Value) (w : World) (h : Ct w v k q) (hk : k ≤ 100000000) (hk2 : 2 ≤ k) :
    Calls Tryz.prog 87 #[v] w fun e w' => e = .returned (.int .i64 (sgnQ q)) ∧ Below w.heap.size w w' := by
  have hX := h
  obtain ⟨n, xs, ys, ⟨a, c, a', c', rfl, hx, hy⟩, lx, ly, hq⟩ := h
  clear hq hx hy lx ly
  go_enter Tryz.func87, Tryz.ntmps87
  go_wp2_with fail
  refine (counted_any k q _ _ (hX.below (al1 _)) (by omega) hk2).mono ?_
  rintro e u1 ⟨v1, rfl, hF1, hb1⟩
  obtain ⟨B1, hbW⟩ := after1 hb1
  clear hb1
  go_wp2_with fail
  refine (sign_any k q _ _ hF1.lo (by omega)).mono ?_
  rintro e u2 ⟨rfl, hb2⟩
  replace hbW : Below w.heap.size w u2 := hbW.trans (hb2.mono hbW.size)
  go_wp2
  go_ret
  exact ⟨rfl, hbW⟩

end Go.Proofs.YtkbbdkecillnpaaGreat

namespace Go.Proofs.YtkbbdkecillnpaaGreat
open Go.RowKit Classical
set_option linter.unusedSimpArgs false
set_option linter.unusedVariables false

theorem Box.other {t : TypeId} {u U : World} {b k : Nat} {x y z : Value} (h : Box t u k x y z) (hU : ∀ j, j ≠ b → U.heap[j]? = u.heap[j]?) (hk : k ≠ b) : Box t U k x y z := (hU k hk).trans h

/-- A fraction is stored into a block that holds one. -/
theorem set3_world {t : TypeId} {u : World} {b : Nat} {n : Bool} {a a' : Option Addr} {l c l' c' : Nat} (B : Box t u b (.bool n) (.slice a l c) (.slice a' l' c')) (x' y' z' : Value) :
    ∃ U, U = (((u.setCell ⟨b, 0, none⟩ x').setCell ⟨b, 1, none⟩ y').setCell ⟨b, 2, none⟩ z') ∧ Box t U b x' y' z' ∧ (∀ B w, Below B w u → B ≤ b → Below B w U) ∧ (∀ a c xs, Rd u a c xs → Rd U a c xs) ∧ (∀ j, j ≠ b → U.heap[j]? = u.heap[j]?) :=
  ⟨_, rfl, B.set3 x' y' z', fun _ _ h hb => below_set3 h hb x' y' z', fun _ _ _ h => Rd.apart B (by simp [World.setCell]) (set3_other u b x' y' z') h, set3_other u b x' y' z'⟩
/-- Its two parts are put anew. -/
theorem set2_world {t : TypeId} {u : World} {b : Nat} {n : Bool} {a a' : Option Addr} {l c l' c' : Nat} (B : Box t u b (.bool n) (.slice a l c) (.slice a' l' c')) (y' z' : Value) :
    ∃ U, U = ((u.setCell ⟨b, 1, none⟩ y').setCell ⟨b, 2, none⟩ z') ∧ Box t U b (.bool n) y' z' ∧ (∀ B w, Below B w u → B ≤ b → Below B w U) ∧ (∀ a c xs, Rd u a c xs → Rd U a c xs) ∧ (∀ j, j ≠ b → U.heap[j]? = u.heap[j]?) := by
  have ho : ∀ j, j ≠ b → ((u.setCell ⟨b, 1, none⟩ y').setCell ⟨b, 2, none⟩ z').heap[j]? = u.heap[j]? := by
    intro j hj
    rw [Below.heap_setCell _ ⟨b, 2, none⟩ z' j hj, Below.heap_setCell _ ⟨b, 1, none⟩ y' j hj]
  refine ⟨_, rfl, ?_, fun _ _ h hb => (h.setCell (p := ⟨b, 1, none⟩) hb y').setCell (p := ⟨b, 2, none⟩) hb z', fun _ _ _ h => Rd.apart B (by simp [World.setCell]) ho h, ho⟩
  have h1 := heap_setCell_same u b 1 _ t y' B
  have h2 := heap_setCell_same _ b 2 _ t z' h1
  exact h2

theorem sgnQ_zero {q : Rat} : sgnQ q = 0 ↔ q = 0 := by
  unfold sgnQ
  refine ⟨fun h => ?_, fun h => by rw [if_pos h]⟩
  by_cases h0 : q = 0
  · exact h0
  · rw [if_neg h0] at h; split at h <;> cases h

theorem qv_inv (n : Bool) (xs ys : List Nat) (hx : V xs ≠ 0) : qv n ys xs = (qv n xs ys)⁻¹ := by
  unfold qv
  rw [← Rat.divInt_ofNat, ← Rat.divInt_ofNat, Rat.inv_divInt]
  by_cases hy : V ys = 0
  · rw [hy, sg_zero]
    simp [Rat.zero_divInt]
  · have h1 : sg n (V xs) ≠ 0 := by intro h; have := congrArg Int.natAbs h; rw [sg_natAbs] at this; exact hx this
    rw [Rat.divInt_eq_divInt_iff (by omega) h1]
    cases n <;> simp [sg] <;> grind

theorem Fr.zero_iff {w : World} {n : Bool} {xs ys : List Nat} (h : Fmd n xs ys) : qv n xs ys = 0 ↔ xs = [] := by
  rw [← Rat.num_eq_zero, h.parts.1]
  refine ⟨fun h0 => ?_, fun h0 => by rw [h0]; exact sg_zero n⟩
  have := congrArg Int.natAbs h0
  rw [sg_natAbs] at this
  exact eq_nil_of_V h.1 this

end Go.Proofs.YtkbbdkecillnpaaGreat

namespace Go.Proofs.YtkbbdkecillnpaaGreat
open Go.RowKit
set_option linter.unusedSimpArgs false
set_option linter.unusedVariables false

theorem floor_mk (a : Int) (b : Nat) (hb : b ≠ 0) : (mkRat a b).floor = a / (b : Int) := by
  have key : ∀ x : Int, (mkRat a b).floor < x ↔ a / (b : Int) < x := by
    intro x
    have hb' : (0 : Rat) < (b : Rat) := Rat.natCast_pos.2 (Nat.pos_of_ne_zero hb)
    rw [Rat.floor_lt_iff, Rat.mkRat_eq_div, Rat.div_lt_iff hb', Int.ediv_lt_iff_lt_mul (by omega)]
    rw [show ((b : Rat)) = (((b : Int)) : Rat) from rfl, ← Rat.intCast_mul, Rat.intCast_lt_intCast]
  have h1 := (key (a / (b : Int) + 1)).2 (by omega)
  have h2 := (key ((mkRat a b).floor + 1)).1 (by omega)
  omega
theorem neg_ediv (x y : Nat) (hy : y ≠ 0) : (-(x : Int)) / (y : Int) = -((x / y + (if 0 < x % y then 1 else 0) : Nat) : Int) := by
  have h := Nat.div_add_mod x y
  have hl := Nat.mod_lt x (Nat.pos_of_ne_zero hy)
  generalize x / y = q at *
  generalize x % y = r at *
  subst h
  have hy' : (y : Int) ≠ 0 := by omega
  split
  · have : (-((y * q + r : Nat) : Int)) = (y - r : Int) + (y : Int) * (-(q : Int) - 1) := by push_cast; grind
    rw [this, Int.add_mul_ediv_left _ _ hy', Int.ediv_eq_zero_of_lt (by omega) (by omega)]; push_cast; omega
  · have : r = 0 := by omega
    subst this
    have : (-((y * q + 0 : Nat) : Int)) = (y : Int) * (-(q : Int)) := by push_cast; grind
    rw [this, Int.mul_ediv_cancel_left _ hy']; push_cast; omega

/-- Is it an int64? -/
def flB (z : Int) : Bool := decide (-9223372036854775808 ≤ z ∧ z < 9223372036854775808)
/-- It; else 0. -/
def flN (z : Int) : Int := if flB z = true then z else 0

theorem floor_pos {xs ys : List Nat} (hy : V ys ≠ 0) : (qv false xs ys).floor = ((V xs / V ys : Nat) : Int) := by
  unfold qv; rw [floor_mk _ _ hy]; simp [sg]
theorem floor_neg {xs ys : List Nat} (hy : V ys ≠ 0) : (qv true xs ys).floor = -((V xs / V ys + (if 0 < V xs % V ys then 1 else 0) : Nat) : Int) := by
  unfold qv; rw [floor_mk _ _ hy, show sg true (V xs) = -(V xs : Int) from rfl, neg_ediv _ _ hy]

theorem flB_pos (m : Nat) : flB (m : Int) = decide (m < 9223372036854775808) := by
  unfold flB; by_cases h : m < 9223372036854775808 <;> simp [h] <;> omega
theorem flB_neg (m : Nat) : flB (-(m : Int)) = decide (m ≤ 9223372036854775808) := by
  unfold flB; by_cases h : m ≤ 9223372036854775808 <;> simp [h] <;> omega

theorem flN_pos (m : Nat) : flN (m : Int) = if m < 9223372036854775808 then (m : Int) else 0 := by unfold flN; rw [flB_pos]; simp
theorem flN_neg (m : Nat) : flN (-(m : Int)) = if m ≤ 9223372036854775808 then -(m : Int) else 0 := by unfold flN; rw [flB_neg]; simp

theorem wrap_i64 (z : Int) : IntKind.i64.wrap z = if 9223372036854775808 ≤ z % 18446744073709551616 then z % 18446744073709551616 - 18446744073709551616 else z % 18446744073709551616 := by
  unfold IntKind.wrap; simp [IntKind.bits, IntKind.signed]

theorem back_pos {m : Nat} (h : m < 9223372036854775808) : wrap64 (m : Int) = (m : Int) := by
  unfold wrap64; omega
theorem back_neg {m : Nat} (h : m ≤ 9223372036854775808) : wrap64 (IntKind.u64.wrap (-(m : Int))) = -(m : Int) := by
  rw [wrap_u64]
  unfold wrap64
  by_cases h0 : m = 0
  · subst h0; rfl
  · have e : (-(m : Int)) % 18446744073709551616 = 18446744073709551616 - (m : Int) := by omega
    rw [e]; omega

theorem ret_two {a b : Int} {c d : Bool} (h : a = b) (k : c = d) : Ending.returned (.tuple #[.int .i64 a, .bool c]) = .returned (.tuple #[.int .i64 b, .bool d]) := by rw [h, k]

set_option maxHeartbeats 2000000 in
set_option maxRecDepth 100000 in
theorem floor_any (k : Nat) (q : Rat) (v : Value) (w : World) (h : Lo w v k q) (hk : k ≤ 400000000) :
    Calls Tryz.prog 81 #[v] w fun e w' => e = .returned (.tuple #[.int .i64 (flN q.floor), .bool (flB q.floor)]) ∧ Below w.heap.size w w' := by
  obtain ⟨n, xs, ys, ⟨a, c, a', c', rfl, hx, hy⟩, tx, ty, y0, lx, ly, rfl⟩ := h
  go_enter Tryz.func81, Tryz.ntmps81
  go_wp2_with fail
  refine (div_any _ _ _ _ _ _ _ (hx.below (al1 _)) (hy.below (al1 _)) (by omega) (by omega)).mono ?_
  rintro e u1 ⟨a1, c1, zs, a2, c2, rs, rfl, hv1, hv2, ht1, ht2, hr1, hr2, hb1⟩
  obtain ⟨B1, hbW⟩ := after1 hb1
  have lz : zs.length ≤ 400000000 := by
    have h1 := V_len_le hx.lim lx
    have : zs.length ≤ k := len_le_of_V ht1 (by rw [hv1]; exact Nat.lt_of_le_of_lt (Nat.div_le_self _ _) h1)
    omega
  have lr : rs.length ≤ 400000000 := by
    have h1 := V_len_le hx.lim lx
    have : rs.length ≤ k := len_le_of_V ht2 (by rw [hv2, remN_pos _ (by omega)]; exact Nat.lt_of_le_of_lt (Nat.mod_le _ _) h1)
    omega
  have rz := hr1.rd
  rw [remN_pos _ (by omega)] at hv2
  clear hr1 hr2 hb1
  obtain ⟨p1, p2, p3, _⟩ := B1.cells
  cases n with
  | false =>
    have HF : Hid ((qv false xs ys).floor = ((V zs : Nat) : Int)) := by show _ = _; rw [floor_pos y0, hv1]
    clear hv1 hv2 hx hy
    go_wp2_with fail
    refine (small_any _ _ _ _ rz).mono ?_
    rintro e u ⟨rfl, rfl⟩
    clear rz
    generalize V zs = m at HF ⊢
    by_cases hm : m < 9223372036854775808
    · rw [smallN_lt (by omega), isSmall_lt (by omega)]
      have g1 : (m : Int) < 9223372036854775808 := by omega
      have HM : Hid (m < 9223372036854775808) := hm
      clear hm
      obtain ⟨z, hz⟩ : ∃ z : Int, (m : Int) = z := ⟨_, rfl⟩
      rw [hz] at g1 ⊢
      have HZ : Hid ((m : Int) = z) := hz
      clear hz
      go_wp2
      go_ret2
      exact ⟨ret_two (by rw [HF.out, flN_pos, if_pos HM.out, ← HZ.out]; exact back_pos HM.out) (by rw [HF.out, flB_pos]; simp [HM.out]), hbW⟩
    · by_cases hm2 : m < 18446744073709551616
      · rw [smallN_lt hm2, isSmall_lt hm2]
        have g1 : (9223372036854775808 : Int) ≤ (m : Int) := by omega
        go_wp2
        go_ret2
        exact ⟨ret_two (by rw [HF.out, flN_pos, if_neg hm]) (by rw [HF.out, flB_pos]; simp [hm]), hbW⟩
      · rw [smallN_ge hm2, isSmall_ge hm2]
        go_wp2
        go_ret2
        exact ⟨ret_two (by rw [HF.out, flN_pos, if_neg hm]) (by rw [HF.out, flB_pos]; simp [hm]), hbW⟩
  | true =>
    by_cases hrs : rs.length = 0
    · have hr0 : V rs = 0 := by rw [List.length_eq_zero_iff.1 hrs]; rfl
      have HF : Hid ((qv true xs ys).floor = -((V zs : Nat) : Int)) := by show _ = _; rw [floor_neg y0, hv1, ← hv2, hr0]; simp
      clear hv1 hv2 hx hy hr0
      have g0 : ¬ (0 : Int) < (rs.length : Int) := by omega
      clear hrs
      go_wp2_with fail
      refine (small_any _ _ _ _ rz).mono ?_
      rintro e u ⟨rfl, rfl⟩
      clear rz
      generalize V zs = m at HF ⊢
      by_cases hm : m ≤ 9223372036854775808
      · rw [smallN_lt (by omega), isSmall_lt (by omega)]
        have g1 : ¬ (9223372036854775808 : Int) < (m : Int) := by omega
        go_wp2
        go_ret2
        exact ⟨ret_two (by rw [HF.out, flN_neg, if_pos hm]; exact back_neg hm) (by rw [HF.out, flB_neg]; simp [hm]), hbW⟩
      · by_cases hm2 : m < 18446744073709551616
        · rw [smallN_lt hm2, isSmall_lt hm2]
          have g1 : (9223372036854775808 : Int) < (m : Int) := by omega
          go_wp2
          go_ret2
          exact ⟨ret_two (by rw [HF.out, flN_neg, if_neg hm]) (by rw [HF.out, flB_neg]; simp [hm]), hbW⟩
        · rw [smallN_ge hm2, isSmall_ge hm2]
          go_wp2
          go_ret2
          exact ⟨ret_two (by rw [HF.out, flN_neg, if_neg hm]) (by rw [HF.out, flB_neg]; simp [hm]), hbW⟩
    · have hr0 : 0 < V rs := by
        have := V_ne_of ht2 fun h => hrs (by rw [h]; rfl)
        omega
      have g0 : (0 : Int) < (rs.length : Int) := by omega
      go_wp2_with fail
      refine (of_any 1 _ (by decide)).mono ?_
      rintro e u2 ⟨a3, c3, os, rfl, hv3, ht3, hr3, hb3⟩
      have ro := hr3.rd
      replace rz := rz.below hb3
      replace hbW : Below w.heap.size w u2 := hbW.trans (hb3.mono hbW.size)
      have lo : os.length ≤ 2 := len_two ht3 (by omega)
      clear hr3 hb3 p1 p2 p3
      go_wp2_with fail
      refine (add_any _ _ _ _ _ _ _ rz ro (by omega) (by omega)).mono ?_
      rintro e u3 ⟨a4, c4, ws, rfl, hv4, ht4, hr4, hb4⟩
      have rw4 := hr4.rd
      replace hbW : Below w.heap.size w u3 := hbW.trans (hb4.mono hbW.size)
      have HF : Hid ((qv true xs ys).floor = -((V ws : Nat) : Int)) := by show _ = _; rw [floor_neg y0, hv4, hv1, hv3, ← hv2, if_pos hr0]
      clear hv1 hv2 hx hy hr0 hr4 hb4 rz ro hv4 hv3
      go_wp2_with fail
      refine (small_any _ _ _ _ rw4).mono ?_
      rintro e u ⟨rfl, rfl⟩
      clear rw4
      generalize V ws = m at HF ⊢
      by_cases hm : m ≤ 9223372036854775808
      · rw [smallN_lt (by omega), isSmall_lt (by omega)]
        have g1 : ¬ (9223372036854775808 : Int) < (m : Int) := by omega
        go_wp2
        go_ret2
        exact ⟨ret_two (by rw [HF.out, flN_neg, if_pos hm]; exact back_neg hm) (by rw [HF.out, flB_neg]; simp [hm]), hbW⟩
      · by_cases hm2 : m < 18446744073709551616
        · rw [smallN_lt hm2, isSmall_lt hm2]
          have g1 : (9223372036854775808 : Int) < (m : Int) := by omega
          go_wp2
          go_ret2
          exact ⟨ret_two (by rw [HF.out, flN_neg, if_neg hm]) (by rw [HF.out, flB_neg]; simp [hm]), hbW⟩
        · rw [smallN_ge hm2, isSmall_ge hm2]
          go_wp2
          go_ret2
          exact ⟨ret_two (by rw [HF.out, flN_neg, if_neg hm]) (by rw [HF.out, flB_neg]; simp [hm]), hbW⟩

theorem lo_half {w : World} {a a' : Option Addr} {c c' : Nat} {xs ys : List Nat} (hx : Rd w a c xs) (hy : Rd w a' c' ys) (tx : Tr xs) (ty : Tr ys) (vx : V xs = 1) (vy : V ys = 2) :
    Lo w (.agg #[.bool false, .slice a xs.length c, .slice a' ys.length c']) 2 (1 / 2) := by
  refine ⟨_, _, _, ⟨_, _, _, _, rfl, hx, hy⟩, tx, ty, by omega, len_two tx (by omega), len_two ty (by omega), ?_⟩
  unfold qv
  rw [vx, vy, Rat.mkRat_eq_div]
  rfl

set_option maxHeartbeats 2000000 in
set_option maxRecDepth 100000 in
theorem qround_any (k : Nat) (q : Rat) (v : Value) (w : World) (h : Ct w v k q) (hk : k ≤ 100000000) (hk2 : 2 ≤ k) :
    Calls Tryz.prog 71 #[v] w fun e w' => e = .returned (.tuple #[.int .i64 (flN (q + 1 / 2).floor), .bool (flB (q + 1 / 2).floor)]) ∧ Below w.heap.size w w' := by
  have hX := h
  obtain ⟨n, xs, ys, ⟨a, c, a', c', rfl, hx, hy⟩, lx, ly, hq⟩ := h
  clear hq hx hy lx ly
  go_enter Tryz.func71, Tryz.ntmps71
  go_wp2_with fail
  refine (of_any 1 _ (by decide)).mono ?_
  rintro e u1 ⟨a1, c1, os, rfl, hv1, ht1, hr1, hb1⟩
  obtain ⟨B1, hbW⟩ := after1 hb1
  replace hX := (hX.below (al1 _)).below hb1
  have ro := hr1.rd
  clear hr1 hb1
  go_wp2_with fail
  refine (of_any 2 _ (by decide)).mono ?_
  rintro e u2 ⟨a2, c2, ts, rfl, hv2, ht2, hr2, hb2⟩
  replace B1 := B1.below hb2
  replace hX := hX.below hb2
  replace ro := ro.below hb2
  replace hbW : Below w.heap.size w u2 := hbW.trans (hb2.mono hbW.size)
  have rt := hr2.rd
  clear hr2 hb2
  go_wp2_with fail
  obtain ⟨W, hW, B2, hW2⟩ : ∃ W, W = u2.alloc (Obj.cells #[Value.bool false, Value.slice a1 os.length c1, Value.slice a2 ts.length c2] 119) ∧ Box 119 W u2.heap.size (.bool false) (.slice a1 os.length c1) (.slice a2 ts.length c2) ∧ Below u2.heap.size u2 W := ⟨_, rfl, Box.new _ _ _ _ _, al1 _⟩
  rw [← hW]
  clear hW
  replace B1 := B1.below hW2
  replace hX := hX.below hW2
  have hH : Lo W (.agg #[.bool false, .slice a1 os.length c1, .slice a2 ts.length c2]) 2 (1 / 2) := (lo_half ro rt ht1 ht2 hv1 hv2).below hW2
  replace hbW : Below w.heap.size w W := hbW.trans (hW2.mono hbW.size)
  clear hW2 ro rt
  generalize u2.heap.size = bh at B2 ⊢
  obtain ⟨p1, p2, p3, _⟩ := B1.cells
  obtain ⟨p4, p5, p6, _⟩ := B2.cells
  go_region_held3 (fun u => u.cell? ⟨w.heap.size, 0, none⟩ = some (.bool n) ∧ u.cell? ⟨w.heap.size, 1, none⟩ = some (.slice a xs.length c) ∧ u.cell? ⟨w.heap.size, 2, none⟩ = some (.slice a' ys.length c') ∧ u.cell? ⟨bh, 0, none⟩ = some (.bool false) ∧ u.cell? ⟨bh, 1, none⟩ = some (.slice a1 os.length c1) ∧ u.cell? ⟨bh, 2, none⟩ = some (.slice a2 ts.length c2)) (go_keep)
    (first
      | (go_at_call 83
         refine (counted_any k q _ _ (hX.below Below.drew1) ?_ ?_).mono ?_
         · omega
         · omega
         rintro e u3 ⟨v3, rfl, hF3, hb3⟩
         replace hb3 : Below W.heap.size W u3 := Below.drew1.trans hb3
         replace hH := hH.below hb3
         replace B1 := B1.below hb3
         replace B2 := B2.below hb3
         replace hbW : Below w.heap.size w u3 := hbW.trans (hb3.mono hbW.size)
         clear hb3 hX p1 p2 p3 p4 p5 p6
         obtain ⟨p1, p2, p3, _⟩ := B1.cells
         obtain ⟨p4, p5, p6, _⟩ := B2.cells)
      | (go_at_call 82
         refine (plus_any k 2 q (1 / 2) _ _ _ hF3.lo hH ?_ ?_).mono ?_
         · omega
         · omega
         rintro e u4 ⟨v4, rfl, hL, hb4⟩
         replace B1 := B1.below hb4
         replace B2 := B2.below hb4
         replace hbW : Below w.heap.size w u4 := hbW.trans (hb4.mono hbW.size)
         clear hb4 hF3 hH p1 p2 p3 p4 p5 p6
         obtain ⟨p1, p2, p3, _⟩ := B1.cells
         obtain ⟨p4, p5, p6, _⟩ := B2.cells)
      | (go_at_call 81
         refine (floor_any (k + 2 + 1) _ _ _ hL ?_).mono ?_
         · omega
         rintro e u5 ⟨rfl, hb5⟩
         replace B1 := B1.below hb5
         replace B2 := B2.below hb5
         replace hbW : Below w.heap.size w u5 := hbW.trans (hb5.mono hbW.size)
         clear hb5 hL p1 p2 p3 p4 p5 p6
         obtain ⟨p1, p2, p3, _⟩ := B1.cells
         obtain ⟨p4, p5, p6, _⟩ := B2.cells))
  go_wp2
  go_ret2
  exact ⟨rfl, hbW⟩

end Go.Proofs.YtkbbdkecillnpaaGreat

namespace Go.Proofs.YtkbbdkecillnpaaGreat
open Go.RowKit
set_option linter.unusedSimpArgs false
set_option linter.unusedVariables false

/-- A fraction lies in block b of U; all else is as it was in u. -/
def Sto (t : TypeId) (u U : World) (b : Nat) (x y z : Value) : Prop :=
  Box t U b x y z ∧ (∀ B w, Below B w u → B ≤ b → Below B w U) ∧ (∀ a c xs, Rd u a c xs → Rd U a c xs) ∧ (∀ t' k x y z, k ≠ b → Box t' u k x y z → Box t' U k x y z)
theorem sto_set {t : TypeId} {u : World} {b : Nat} {n : Bool} {a a' : Option Addr} {l c l' c' : Nat} (B : Box t u b (.bool n) (.slice a l c) (.slice a' l' c')) (x' y' z' : Value) :
    Sto t u (((u.setCell ⟨b, 0, none⟩ x').setCell ⟨b, 1, none⟩ y').setCell ⟨b, 2, none⟩ z') b x' y' z' := by
  obtain ⟨U, rfl, h1, h2, h3, h4⟩ := set3_world B x' y' z'
  exact ⟨h1, h2, h3, fun _ _ _ _ _ hk hB => hB.other h4 hk⟩
theorem sto_new (t : TypeId) (u : World) (x y z : Value) : Sto t u (u.alloc (.cells #[x, y, z] t)) u.heap.size x y z :=
  ⟨Box.new _ _ _ _ _, fun _ _ h hb => h.alloc hb _, fun _ _ _ h => h.below (al1 _), fun _ _ _ _ _ _ hB => hB.alloc _⟩
theorem Ct.sto {t : TypeId} {u U : World} {b : Nat} {x y z v : Value} {k : Nat} {q : Rat} (h : Ct u v k q) (s : Sto t u U b x y z) : Ct U v k q := by
  obtain ⟨n0, x0, y0, ⟨e1, e2, e3, e4, e5, e6, e7⟩, e8⟩ := h
  exact ⟨n0, x0, y0, ⟨e1, e2, e3, e4, e5, s.2.2.1 _ _ _ e6, s.2.2.1 _ _ _ e7⟩, e8⟩
theorem after1d {t : TypeId} {w u : World} {x y z : Value} (hb : Below (w.alloc (.cells #[x, y, z] t)).drew.heap.size (w.alloc (.cells #[x, y, z] t)).drew u) :
    Box t u w.heap.size x y z ∧ Below w.heap.size w u := after1 (Below.drew1.trans hb)
theorem al1d {w : World} (o : Obj) : Below w.heap.size w (w.alloc o).drew := (al1 o).drew
theorem al2d {w : World} (o o' : Obj) : Below w.heap.size w ((w.alloc o).alloc o').drew := (al2 o o').drew

/-- How far a statement has come (a mark for the walk). -/
def Stg (n : Nat) : Prop := n = n

theorem awake_round : ((5 : Rat) / 2 + 1 / 2).floor = 3 := by decide +kernel
end Go.Proofs.YtkbbdkecillnpaaGreat

namespace Go.Proofs.YtkbbdkecillnpaaGreat
open Go.RowKit
set_option linter.unusedSimpArgs false
set_option linter.unusedVariables false

/-- Whether a number is a coordinate. -/
def crd (z : Int) : Bool := decide (-16384 ≤ z ∧ z ≤ 16384)
/-- A number, brought to the coordinates. -/
def c14 (z : Int) : Int := if z < -16384 then -16384 else if 16384 < z then 16384 else z
/-- A fraction's coordinate. -/
def to14 (q : Rat) : Int := c14 (q * 16384 + 1 / 2).floor
/-- A number that is a field; else 0. -/
def fldN (z : Int) : Int := if -32768 ≤ z ∧ z ≤ 32767 then z else 0
/-- The error of a number that isn't. -/
def fldE (z : Int) : Int := if -32768 ≤ z ∧ z ≤ 32767 then 0 else 4
/-- Brought to least first, then to most. -/
def clp (n a b : Int) : Int := if b < (if n < a then a else n) then b else (if n < a then a else n)

theorem ret_two2 {a b c d : Int} (h : a = b) (k : c = d) : Ending.returned (.tuple #[.int .i64 a, .int .i64 c]) = .returned (.tuple #[.int .i64 b, .int .i64 d]) := by rw [h, k]
theorem ret_num {a b : Int} (h : a = b) : Ending.returned (.int .i64 a) = .returned (.int .i64 b) := by rw [h]

theorem wrap_i16 (z : Int) : IntKind.i16.wrap z = if 32768 ≤ z % 65536 then z % 65536 - 65536 else z % 65536 := by
  simp [IntKind.wrap, IntKind.bits, IntKind.signed]

set_option maxHeartbeats 400000 in
set_option maxRecDepth 100000 in
theorem coord_any (z : Int) (w : World) : Calls Tryz.prog 136 #[.int .i64 z] w fun e w' => e = .returned (.bool (crd z)) ∧ w = w' := by
  by_cases h1 : -16384 ≤ z
  · go_enter Tryz.func136, Tryz.ntmps136
    go_wp2
    go_ret
    exact ⟨ret_bool (by simp [crd, h1]), rfl⟩
  · go_enter Tryz.func136, Tryz.ntmps136
    go_wp2
    go_ret
    exact ⟨ret_bool (by simp [crd]; omega), rfl⟩

theorem coordB_any (z : Int) (w : World) : Calls Tryz.prog 136 #[.int .i64 z] w fun e w' => e = .returned (.bool (crd z)) ∧ Below w.heap.size w w' :=
  (coord_any z w).mono fun e w' h => ⟨h.1, h.2 ▸ Below.refl _ _⟩
set_option maxHeartbeats 1000000 in
set_option maxRecDepth 100000 in
theorem field_any (k : Nat) (q : Rat) (v : Value) (w : World) (h : Ct w v k q) (hk : k ≤ 100000000) (hk2 : 2 ≤ k) :
    Calls Tryz.prog 63 #[v] w fun e w' => e = .returned (.tuple #[.int .i64 (fldN (q + 1 / 2).floor), .int .i64 (fldE (q + 1 / 2).floor)]) ∧ Below w.heap.size w w' := by
  have hX := h
  obtain ⟨n, xs, ys, ⟨a, c, a', c', rfl, _, _⟩, hz1⟩ := h
  clear hz1
  obtain ⟨z, hz⟩ : ∃ z, (q + 1 / 2).floor = z := ⟨_, rfl⟩
  rw [hz]
  have HZ : Hid ((q + 1 / 2).floor = z) := hz
  clear hz
  have e34 : (-32768 ≤ z ∧ z ≤ 32767 ∧ fldN z = z ∧ fldE z = 0 ∧ flB z = true ∧ flN z = z) ∨ (¬ (-32768 ≤ z ∧ z ≤ 32767) ∧ fldN z = 0 ∧ fldE z = 4) := by
    by_cases h1 : -32768 ≤ z ∧ z ≤ 32767
    · have e1 : flB z = true := by unfold flB; exact decide_eq_true (by omega)
      exact .inl ⟨h1.1, h1.2, by unfold fldN; rw [if_pos h1], by unfold fldE; rw [if_pos h1], e1, by unfold flN; rw [if_pos e1]⟩
    · exact .inr ⟨h1, by unfold fldN; rw [if_neg h1], by unfold fldE; rw [if_neg h1]⟩
  rcases e34 with ⟨h1, h2, e3, e4, e1, e2⟩ | ⟨h1, e3, e4⟩
  · rw [e3, e4]
    have E1 : Hid (flB z = true ∧ flN z = z) := ⟨e1, e2⟩
    clear e1 e2 e3 e4
    go_enter Tryz.func63, Tryz.ntmps63
    go_wp2_with fail
    refine (qround_any k q _ _ (hX.below (al1 _)) hk hk2).mono ?_
    rintro e u1 ⟨rfl, hb1⟩
    obtain ⟨B1, hbW⟩ := after1 hb1
    clear hb1 hX
    rw [HZ.out, E1.out.1, E1.out.2]
    go_wp2
    go_ret2
    exact ⟨rfl, hbW⟩
  rw [e3, e4]
  clear e3 e4
  have h3 : z < -32768 ∨ 32767 < z := by omega
  clear h1
  by_cases h2 : flB z = true
  · have e2 : flN z = z := by unfold flN; rw [if_pos h2]
    have e5 : -9223372036854775808 ≤ z ∧ z < 9223372036854775808 := by unfold flB at h2; simpa using h2
    have E1 : Hid (flB z = true ∧ flN z = z) := ⟨h2, e2⟩
    have g1 : (wrap64 (IntKind.i16.wrap z) != z) = true := by
      rw [wrap_i16 z]
      simp
      unfold wrap64
      split <;> omega
    clear h2 e2
    go_enter Tryz.func63, Tryz.ntmps63
    go_wp2_with fail
    refine (qround_any k q _ _ (hX.below (al1 _)) hk hk2).mono ?_
    rintro e u1 ⟨rfl, hb1⟩
    obtain ⟨B1, hbW⟩ := after1 hb1
    clear hb1 hX
    rw [HZ.out, E1.out.1, E1.out.2]
    go_wp2
    go_ret2
    exact ⟨rfl, hbW⟩
  · have e1 : flB z = false := by simpa using h2
    have E1 : Hid (flB z = false) := e1
    clear h2 e1
    go_enter Tryz.func63, Tryz.ntmps63
    go_wp2_with fail
    refine (qround_any k q _ _ (hX.below (al1 _)) hk hk2).mono ?_
    rintro e u1 ⟨rfl, hb1⟩
    obtain ⟨B1, hbW⟩ := after1 hb1
    clear hb1 hX
    rw [HZ.out, E1.out]
    generalize flN z = y
    go_wp2
    go_ret2
    exact ⟨rfl, hbW⟩

end Go.Proofs.YtkbbdkecillnpaaGreat
