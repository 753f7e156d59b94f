/-
  ratio.Quo: the walk.
  ratio.floor, Floor, Round: the walks.
  ratio.Text: the walk.
  foundryref01.Same, foundryref02.Same, foundrylaw02.plain, same, few, awake: the walks.
  For foundrylaw02.RatioOnce: two sums in two new blocks; texts tell numbers apart.
-/
import Derived.Test.YtefdkajjdaplbaaGreatDoorQA
import Derived.Deep.RegionHeld3
import Derived.Test.YtefdkajjdaplbaaGreatDoorText
import Derived.Deep.QuietTactic
import Derived.BigQuiet
import Derived.Outline
namespace Go.Proofs.YtefdkajjdaplbaaGreatDoor
open Go.RowKit Classical
set_option linter.unusedSimpArgs false
set_option linter.unusedVariables false

theorem Box.other {t : TypeId} {u U : World} {b k : Nat} {x y z : Value} (h : Box t u k x y z) (hU : ∀ j, j ≠ b → U.heap[j]? = u.heap[j]?) (hk : k ≠ b) : Box t U k x y z := (hU k hk).trans h

/-- A fraction is stored into a block that holds one. -/
theorem set3_world {t : TypeId} {u : World} {b : Nat} {n : Bool} {a a' : Option Addr} {l c l' c' : Nat} (B : Box t u b (.bool n) (.slice a l c) (.slice a' l' c')) (x' y' z' : Value) :
    ∃ U, U = (((u.setCell ⟨b, 0, none⟩ x').setCell ⟨b, 1, none⟩ y').setCell ⟨b, 2, none⟩ z') ∧ Box t U b x' y' z' ∧ (∀ B w, Below B w u → B ≤ b → Below B w U) ∧ (∀ a c xs, Rd u a c xs → Rd U a c xs) ∧ (∀ j, j ≠ b → U.heap[j]? = u.heap[j]?) :=
  ⟨_, rfl, B.set3 x' y' z', fun _ _ h hb => below_set3 h hb x' y' z', fun _ _ _ h => Rd.apart B (by simp [World.setCell]) (set3_other u b x' y' z') h, set3_other u b x' y' z'⟩
/-- Its two parts are put anew. -/
theorem set2_world {t : TypeId} {u : World} {b : Nat} {n : Bool} {a a' : Option Addr} {l c l' c' : Nat} (B : Box t u b (.bool n) (.slice a l c) (.slice a' l' c')) (y' z' : Value) :
    ∃ U, U = ((u.setCell ⟨b, 1, none⟩ y').setCell ⟨b, 2, none⟩ z') ∧ Box t U b (.bool n) y' z' ∧ (∀ B w, Below B w u → B ≤ b → Below B w U) ∧ (∀ a c xs, Rd u a c xs → Rd U a c xs) ∧ (∀ j, j ≠ b → U.heap[j]? = u.heap[j]?) := by
  have ho : ∀ j, j ≠ b → ((u.setCell ⟨b, 1, none⟩ y').setCell ⟨b, 2, none⟩ z').heap[j]? = u.heap[j]? := by
    intro j hj
    rw [Below.heap_setCell _ ⟨b, 2, none⟩ z' j hj, Below.heap_setCell _ ⟨b, 1, none⟩ y' j hj]
  refine ⟨_, rfl, ?_, fun _ _ h hb => (h.setCell (p := ⟨b, 1, none⟩) hb y').setCell (p := ⟨b, 2, none⟩) hb z', fun _ _ _ h => Rd.apart B (by simp [World.setCell]) ho h, ho⟩
  have h1 := heap_setCell_same u b 1 _ t y' B
  have h2 := heap_setCell_same _ b 2 _ t z' h1
  exact h2

theorem sgnQ_zero {q : Rat} : sgnQ q = 0 ↔ q = 0 := by
  unfold sgnQ
  refine ⟨fun h => ?_, fun h => by rw [if_pos h]⟩
  by_cases h0 : q = 0
  · exact h0
  · rw [if_neg h0] at h; split at h <;> cases h

theorem qv_inv (n : Bool) (xs ys : List Nat) (hx : V xs ≠ 0) : qv n ys xs = (qv n xs ys)⁻¹ := by
  unfold qv
  rw [← Rat.divInt_ofNat, ← Rat.divInt_ofNat, Rat.inv_divInt]
  by_cases hy : V ys = 0
  · rw [hy, sg_zero]
    simp [Rat.zero_divInt]
  · have h1 : sg n (V xs) ≠ 0 := by intro h; have := congrArg Int.natAbs h; rw [sg_natAbs] at this; exact hx this
    rw [Rat.divInt_eq_divInt_iff (by omega) h1]
    cases n <;> simp [sg] <;> grind

theorem Fr.zero_iff {w : World} {n : Bool} {xs ys : List Nat} (h : Fmd n xs ys) : qv n xs ys = 0 ↔ xs = [] := by
  rw [← Rat.num_eq_zero, h.parts.1]
  refine ⟨fun h0 => ?_, fun h0 => by rw [h0]; exact sg_zero n⟩
  have := congrArg Int.natAbs h0
  rw [sg_natAbs] at this
  exact eq_nil_of_V h.1 this

set_option maxHeartbeats 2000000 in
theorem qquo_any (k l : Nat) (q r : Rat) (v v' : Value) (w : World) (h : Ct w v k q) (h' : Ct w v' l r) (hk : k ≤ 100000000) (hl : l ≤ 100000000) (hk2 : 2 ≤ k) (hl2 : 2 ≤ l) :
    Calls Tryz.prog 8 #[v, v'] w fun e w' => ∃ v', e = .returned (.tuple #[v', .bool (decide (r ≠ 0))]) ∧ Fr w' v' (k + l) (q / r) ∧ Below w.heap.size w w' := by
  have hX := h
  have hY := h'
  obtain ⟨n, xs, ys, ⟨a, c, a', c', rfl, hx, hy⟩, lx, ly, hq⟩ := h
  obtain ⟨m, ps, qs, ⟨b, d, b', d', rfl, hp, hqs⟩, lp, lq, hr⟩ := h'
  clear hq hr hx hy hp hqs lx ly lp lq
  go_enter Tryz.func8, Tryz.ntmps8
  go_wp2_with fail
  refine (counted_any l r _ _ (hY.below (al3 _ _ _)) (by omega) hl2).mono ?_
  rintro e u1 ⟨v1, rfl, hF1, hb1⟩
  replace hX := (hX.below (al3 _ _ _)).below hb1
  obtain ⟨B1, B2, B3, hbW⟩ := after3 hb1
  clear hb1 hY
  obtain ⟨p4, p5, p6, p7, p8, p9⟩ := B2.cells
  have hs2 := B2.lt
  obtain ⟨n1, x1, y1, ⟨b1, d1, b2, d2, rfl, hx', hy'⟩, hf1, l1, l2, he⟩ := hF1
  go_wp2_with fail
  obtain ⟨U, hU, B2', hbU, hK, ho⟩ := set3_world B2 (.bool n1) (.slice b1 x1.length d1) (.slice b2 y1.length d2)
  rw [← hU]
  clear hU p4 p5 p6 p7 p8 p9 hs2
  replace B1 := B1.other ho (by omega)
  replace B3 := B3.other ho (by omega)
  replace hbW := hbU _ _ hbW (by omega)
  have hX' : Ct U (.agg #[.bool n, .slice a xs.length c, .slice a' ys.length c']) k q := by
    obtain ⟨n0, x0, y0, ⟨e1, e2, e3, e4, e5, e6, e7⟩, e8⟩ := hX
    exact ⟨n0, x0, y0, ⟨e1, e2, e3, e4, e5, hK _ _ _ e6, hK _ _ _ e7⟩, e8⟩
  clear hX
  replace hx' := hK _ _ _ hx'
  replace hy' := hK _ _ _ hy'
  clear B2 hbU hK ho
  have hF1 : Fr U (.agg #[.bool n1, .slice b1 x1.length d1, .slice b2 y1.length d2]) l r := ⟨_, _, _, ⟨_, _, _, _, rfl, hx', hy'⟩, hf1, l1, l2, he⟩
  refine (sign_any l r _ _ hF1.lo (by omega)).mono ?_
  rintro e u2 ⟨rfl, hb2⟩
  replace B1 := B1.below hb2
  replace B2' := B2'.below hb2
  replace B3 := B3.below hb2
  replace hX' := hX'.below hb2
  replace hx' := hx'.below hb2
  replace hy' := hy'.below hb2
  replace hbW : Below w.heap.size w u2 := hbW.trans (hb2.mono hbW.size)
  clear hb2 hF1
  obtain ⟨p4, p5, p6, p7, p8, p9⟩ := B2'.cells
  have hs2 := B2'.lt
  by_cases hr0 : r = 0
  · have e0 : sgnQ r = 0 := sgnQ_zero.2 hr0
    rw [e0]
    go_wp2_with fail
    refine (whole_any 0 _ (by decide) (by decide)).mono ?_
    rintro e u3 ⟨v3, rfl, hF, hb3⟩
    replace B3 := B3.below hb3
    replace hbW : Below w.heap.size w u3 := hbW.trans (hb3.mono hbW.size)
    obtain ⟨q1, q2, q3, q4, q5, q6⟩ := B3.cells
    have hs' := B3.lt
    obtain ⟨n', xs', ys', ⟨c1, f1, c2, f2, rfl, hx'', hy''⟩, hf', lx', ly', he'⟩ := hF
    clear hb3 p4 p5 p6 p7 p8 p9
    go_wp2
    refine ret3 (v := .tuple #[.agg #[.bool n', .slice c1 xs'.length f1, .slice c2 ys'.length f2], .bool false]) B3 rfl (fun U hU => by obtain ⟨r1, r2, r3, _⟩ := hU.cells; simp [results, Tryz.results8, go_sem, r1, r2, r3]) (fun U hU hK => ⟨_, by simp [hr0], ⟨_, _, _, ⟨_, _, _, _, rfl, hK _ _ _ hx'', hK _ _ _ hy''⟩, hf', by omega, by omega, by rw [he', hr0]; simp [Rat.div_def]⟩, hU _ _ hbW (by omega)⟩)
  · have e0 : (sgnQ r == 0) = false := beq_eq_false_iff_ne.2 fun h => hr0 (sgnQ_zero.1 h)
    have hv1 : V x1 ≠ 0 := V_ne_of hf1.1 fun h => hr0 (by rw [← he]; exact (Fr.zero_iff (w := w) hf1).2 h)
    generalize sgnQ r = sq at e0 ⊢
    go_wp2_with fail
    obtain ⟨U2, hU2, B2, hbU, hK, ho⟩ := set2_world B2' (.slice b2 y1.length d2) (.slice b1 x1.length d1)
    rw [← hU2]
    clear hU2 p4 p5 p6 p7 p8 p9 hs2
    replace B1 := B1.other ho (by omega)
    replace B3 := B3.other ho (by omega)
    replace hbW := hbU _ _ hbW (by omega)
    have hX : Ct U2 (.agg #[.bool n, .slice a xs.length c, .slice a' ys.length c']) k q := by
      obtain ⟨n0, x0, y0, ⟨e1, e2, e3, e4, e5, e6, e7⟩, e8⟩ := hX'
      exact ⟨n0, x0, y0, ⟨e1, e2, e3, e4, e5, hK _ _ _ e6, hK _ _ _ e7⟩, e8⟩
    clear hX'
    replace hx' := hK _ _ _ hx'
    replace hy' := hK _ _ _ hy'
    clear B2' hbU hK ho
    have hL2 : Lo U2 (.agg #[.bool n1, .slice b2 y1.length d2, .slice b1 x1.length d1]) l r⁻¹ := ⟨_, _, _, ⟨_, _, _, _, rfl, hy', hx'⟩, hf1.2.1, hf1.1, hv1, l2, l1, by rw [qv_inv _ _ _ hv1, he]⟩
    obtain ⟨p1, p2, p3, _⟩ := B1.cells
    obtain ⟨p4, p5, p6, _⟩ := B2.cells
    go_region_held3 (fun u => u.cell? ⟨w.heap.size, 0, none⟩ = some (.bool n) ∧ u.cell? ⟨w.heap.size, 1, none⟩ = some (.slice a xs.length c) ∧ u.cell? ⟨w.heap.size, 2, none⟩ = some (.slice a' ys.length c') ∧ u.cell? ⟨w.heap.size + 1, 0, none⟩ = some (.bool n1) ∧ u.cell? ⟨w.heap.size + 1, 1, none⟩ = some (.slice b2 y1.length d2) ∧ u.cell? ⟨w.heap.size + 1, 2, none⟩ = some (.slice b1 x1.length d1)) (first | (go_keep; done) | (refine ⟨(cell_set3 (by omega)).trans p1, (cell_set3 (by omega)).trans p2, (cell_set3 (by omega)).trans p3, (cell_set3 (by omega)).trans p4, (cell_set3 (by omega)).trans p5, (cell_set3 (by omega)).trans p6⟩))
      (first
        | (go_at_call 33
           refine (counted_any k q _ _ (hX.below Below.drew1) ?_ ?_).mono ?_
           · omega
           · omega
           rintro e u3 ⟨v3, rfl, hF3, hb3⟩
           replace hb3 : Below U2.heap.size U2 u3 := Below.drew1.trans hb3
           replace hL2 := hL2.below hb3
           replace B1 := B1.below hb3
           replace B2 := B2.below hb3
           replace B3 := B3.below hb3
           replace hbW : Below w.heap.size w u3 := hbW.trans (hb3.mono hbW.size)
           clear hb3 hX p1 p2 p3 p4 p5 p6
           obtain ⟨p1, p2, p3, _⟩ := B1.cells
           obtain ⟨p4, p5, p6, _⟩ := B2.cells)
        | (go_at_call 36
           refine (times_any k l q r⁻¹ _ _ _ hF3.lo hL2 ?_ ?_).mono ?_
           · omega
           · omega
           rintro e u4 ⟨v4, rfl, hL, hb4⟩
           replace B1 := B1.below hb4
           replace B2 := B2.below hb4
           replace B3 := B3.below hb4
           replace hbW : Below w.heap.size w u4 := hbW.trans (hb4.mono hbW.size)
           clear hb4 hF3 hL2 p1 p2 p3 p4 p5 p6
           obtain ⟨p1, p2, p3, _⟩ := B1.cells
           obtain ⟨p4, p5, p6, _⟩ := B2.cells)
        | (go_at_call 35
           refine (reduced_any (k + l) _ _ _ hL ?_).mono ?_
           · omega
           rintro e u5 ⟨v5, rfl, hF, hb5⟩
           replace B1 := B1.below hb5
           replace B2 := B2.below hb5
           replace B3 := B3.below hb5
           replace hbW : Below w.heap.size w u5 := hbW.trans (hb5.mono hbW.size)
           clear hb5 hL p1 p2 p3 p4 p5 p6
           obtain ⟨p1, p2, p3, _⟩ := B1.cells
           obtain ⟨p4, p5, p6, _⟩ := B2.cells
           obtain ⟨q1, q2, q3, q4, q5, q6⟩ := B3.cells
           have hs := B3.lt
           obtain ⟨n2, x2, y2, ⟨f1, f2, f3, f4, rfl, hx2, hy2⟩, hF⟩ := hF))
    go_wp2
    exact ret3 (v := .tuple #[.agg #[.bool n2, .slice f1 x2.length f2, .slice f3 y2.length f4], .bool true]) B3 rfl (fun U hU => by obtain ⟨r1, r2, r3, _⟩ := hU.cells; simp [results, Tryz.results8, go_sem, r1, r2, r3]) (fun U hU hK => ⟨.agg #[.bool n2, .slice f1 x2.length f2, .slice f3 y2.length f4], by simp [hr0], ⟨_, _, _, ⟨_, _, _, _, rfl, hK _ _ _ hx2, hK _ _ _ hy2⟩, by rw [Rat.div_def]; exact hF⟩, hU _ _ hbW (by omega)⟩)

end Go.Proofs.YtefdkajjdaplbaaGreatDoor

namespace Go.Proofs.YtefdkajjdaplbaaGreatDoor
open Go.RowKit
set_option linter.unusedSimpArgs false
set_option linter.unusedVariables false

theorem floor_mk (a : Int) (b : Nat) (hb : b ≠ 0) : (mkRat a b).floor = a / (b : Int) := by
  have key : ∀ x : Int, (mkRat a b).floor < x ↔ a / (b : Int) < x := by
    intro x
    have hb' : (0 : Rat) < (b : Rat) := Rat.natCast_pos.2 (Nat.pos_of_ne_zero hb)
    rw [Rat.floor_lt_iff, Rat.mkRat_eq_div, Rat.div_lt_iff hb', Int.ediv_lt_iff_lt_mul (by omega)]
    rw [show ((b : Rat)) = (((b : Int)) : Rat) from rfl, ← Rat.intCast_mul, Rat.intCast_lt_intCast]
  have h1 := (key (a / (b : Int) + 1)).2 (by omega)
  have h2 := (key ((mkRat a b).floor + 1)).1 (by omega)
  omega
theorem neg_ediv (x y : Nat) (hy : y ≠ 0) : (-(x : Int)) / (y : Int) = -((x / y + (if 0 < x % y then 1 else 0) : Nat) : Int) := by
  have h := Nat.div_add_mod x y
  have hl := Nat.mod_lt x (Nat.pos_of_ne_zero hy)
  generalize x / y = q at *
  generalize x % y = r at *
  subst h
  have hy' : (y : Int) ≠ 0 := by omega
  split
  · have : (-((y * q + r : Nat) : Int)) = (y - r : Int) + (y : Int) * (-(q : Int) - 1) := by push_cast; grind
    rw [this, Int.add_mul_ediv_left _ _ hy', Int.ediv_eq_zero_of_lt (by omega) (by omega)]; push_cast; omega
  · have : r = 0 := by omega
    subst this
    have : (-((y * q + 0 : Nat) : Int)) = (y : Int) * (-(q : Int)) := by push_cast; grind
    rw [this, Int.mul_ediv_cancel_left _ hy']; push_cast; omega

/-- Is it an int64? -/
def flB (z : Int) : Bool := decide (-9223372036854775808 ≤ z ∧ z < 9223372036854775808)
/-- It; else 0. -/
def flN (z : Int) : Int := if flB z = true then z else 0

theorem floor_pos {xs ys : List Nat} (hy : V ys ≠ 0) : (qv false xs ys).floor = ((V xs / V ys : Nat) : Int) := by
  unfold qv; rw [floor_mk _ _ hy]; simp [sg]
theorem floor_neg {xs ys : List Nat} (hy : V ys ≠ 0) : (qv true xs ys).floor = -((V xs / V ys + (if 0 < V xs % V ys then 1 else 0) : Nat) : Int) := by
  unfold qv; rw [floor_mk _ _ hy, show sg true (V xs) = -(V xs : Int) from rfl, neg_ediv _ _ hy]

theorem flB_pos (m : Nat) : flB (m : Int) = decide (m < 9223372036854775808) := by
  unfold flB; by_cases h : m < 9223372036854775808 <;> simp [h] <;> omega
theorem flB_neg (m : Nat) : flB (-(m : Int)) = decide (m ≤ 9223372036854775808) := by
  unfold flB; by_cases h : m ≤ 9223372036854775808 <;> simp [h] <;> omega

theorem flN_pos (m : Nat) : flN (m : Int) = if m < 9223372036854775808 then (m : Int) else 0 := by unfold flN; rw [flB_pos]; simp
theorem flN_neg (m : Nat) : flN (-(m : Int)) = if m ≤ 9223372036854775808 then -(m : Int) else 0 := by unfold flN; rw [flB_neg]; simp

theorem wrap_i64 (z : Int) : IntKind.i64.wrap z = if 9223372036854775808 ≤ z % 18446744073709551616 then z % 18446744073709551616 - 18446744073709551616 else z % 18446744073709551616 := by
  unfold IntKind.wrap; simp [IntKind.bits, IntKind.signed]

theorem back_pos {m : Nat} (h : m < 9223372036854775808) : wrap64 (m : Int) = (m : Int) := by
  unfold wrap64; omega
theorem back_neg {m : Nat} (h : m ≤ 9223372036854775808) : wrap64 (IntKind.u64.wrap (-(m : Int))) = -(m : Int) := by
  rw [wrap_u64]
  unfold wrap64
  by_cases h0 : m = 0
  · subst h0; rfl
  · have e : (-(m : Int)) % 18446744073709551616 = 18446744073709551616 - (m : Int) := by omega
    rw [e]; omega

theorem ret_two {a b : Int} {c d : Bool} (h : a = b) (k : c = d) : Ending.returned (.tuple #[.int .i64 a, .bool c]) = .returned (.tuple #[.int .i64 b, .bool d]) := by rw [h, k]

set_option maxHeartbeats 2000000 in
set_option maxRecDepth 100000 in
theorem floor_any (k : Nat) (q : Rat) (v : Value) (w : World) (h : Lo w v k q) (hk : k ≤ 400000000) :
    Calls Tryz.prog 46 #[v] w fun e w' => e = .returned (.tuple #[.int .i64 (flN q.floor), .bool (flB q.floor)]) ∧ Below w.heap.size w w' := by
  obtain ⟨n, xs, ys, ⟨a, c, a', c', rfl, hx, hy⟩, tx, ty, y0, lx, ly, rfl⟩ := h
  go_enter Tryz.func46, Tryz.ntmps46
  go_wp2_with fail
  refine (div_any _ _ _ _ _ _ _ (hx.below (al1 _)) (hy.below (al1 _)) (by omega) (by omega)).mono ?_
  rintro e u1 ⟨a1, c1, zs, a2, c2, rs, rfl, hv1, hv2, ht1, ht2, hr1, hr2, hb1⟩
  obtain ⟨B1, hbW⟩ := after1 hb1
  have lz : zs.length ≤ 400000000 := by
    have h1 := V_len_le hx.lim lx
    have : zs.length ≤ k := len_le_of_V ht1 (by rw [hv1]; exact Nat.lt_of_le_of_lt (Nat.div_le_self _ _) h1)
    omega
  have lr : rs.length ≤ 400000000 := by
    have h1 := V_len_le hx.lim lx
    have : rs.length ≤ k := len_le_of_V ht2 (by rw [hv2, remN_pos _ (by omega)]; exact Nat.lt_of_le_of_lt (Nat.mod_le _ _) h1)
    omega
  have rz := hr1.rd
  rw [remN_pos _ (by omega)] at hv2
  clear hr1 hr2 hb1
  obtain ⟨p1, p2, p3, _⟩ := B1.cells
  cases n with
  | false =>
    have HF : Hid ((qv false xs ys).floor = ((V zs : Nat) : Int)) := by show _ = _; rw [floor_pos y0, hv1]
    clear hv1 hv2 hx hy
    go_wp2_with fail
    refine (small_any _ _ _ _ rz).mono ?_
    rintro e u ⟨rfl, rfl⟩
    clear rz
    generalize V zs = m at HF ⊢
    by_cases hm : m < 9223372036854775808
    · rw [smallN_lt (by omega), isSmall_lt (by omega)]
      have g1 : (m : Int) < 9223372036854775808 := by omega
      have HM : Hid (m < 9223372036854775808) := hm
      clear hm
      obtain ⟨z, hz⟩ : ∃ z : Int, (m : Int) = z := ⟨_, rfl⟩
      rw [hz] at g1 ⊢
      have HZ : Hid ((m : Int) = z) := hz
      clear hz
      go_wp2
      go_ret2
      exact ⟨ret_two (by rw [HF.out, flN_pos, if_pos HM.out, ← HZ.out]; exact back_pos HM.out) (by rw [HF.out, flB_pos]; simp [HM.out]), hbW⟩
    · by_cases hm2 : m < 18446744073709551616
      · rw [smallN_lt hm2, isSmall_lt hm2]
        have g1 : (9223372036854775808 : Int) ≤ (m : Int) := by omega
        go_wp2
        go_ret2
        exact ⟨ret_two (by rw [HF.out, flN_pos, if_neg hm]) (by rw [HF.out, flB_pos]; simp [hm]), hbW⟩
      · rw [smallN_ge hm2, isSmall_ge hm2]
        go_wp2
        go_ret2
        exact ⟨ret_two (by rw [HF.out, flN_pos, if_neg hm]) (by rw [HF.out, flB_pos]; simp [hm]), hbW⟩
  | true =>
    by_cases hrs : rs.length = 0
    · have hr0 : V rs = 0 := by rw [List.length_eq_zero_iff.1 hrs]; rfl
      have HF : Hid ((qv true xs ys).floor = -((V zs : Nat) : Int)) := by show _ = _; rw [floor_neg y0, hv1, ← hv2, hr0]; simp
      clear hv1 hv2 hx hy hr0
      have g0 : ¬ (0 : Int) < (rs.length : Int) := by omega
      clear hrs
      go_wp2_with fail
      refine (small_any _ _ _ _ rz).mono ?_
      rintro e u ⟨rfl, rfl⟩
      clear rz
      generalize V zs = m at HF ⊢
      by_cases hm : m ≤ 9223372036854775808
      · rw [smallN_lt (by omega), isSmall_lt (by omega)]
        have g1 : ¬ (9223372036854775808 : Int) < (m : Int) := by omega
        go_wp2
        go_ret2
        exact ⟨ret_two (by rw [HF.out, flN_neg, if_pos hm]; exact back_neg hm) (by rw [HF.out, flB_neg]; simp [hm]), hbW⟩
      · by_cases hm2 : m < 18446744073709551616
        · rw [smallN_lt hm2, isSmall_lt hm2]
          have g1 : (9223372036854775808 : Int) < (m : Int) := by omega
          go_wp2
          go_ret2
          exact ⟨ret_two (by rw [HF.out, flN_neg, if_neg hm]) (by rw [HF.out, flB_neg]; simp [hm]), hbW⟩
        · rw [smallN_ge hm2, isSmall_ge hm2]
          go_wp2
          go_ret2
          exact ⟨ret_two (by rw [HF.out, flN_neg, if_neg hm]) (by rw [HF.out, flB_neg]; simp [hm]), hbW⟩
    · have hr0 : 0 < V rs := by
        have := V_ne_of ht2 fun h => hrs (by rw [h]; rfl)
        omega
      have g0 : (0 : Int) < (rs.length : Int) := by omega
      go_wp2_with fail
      refine (of_any 1 _ (by decide)).mono ?_
      rintro e u2 ⟨a3, c3, os, rfl, hv3, ht3, hr3, hb3⟩
      have ro := hr3.rd
      replace rz := rz.below hb3
      replace hbW : Below w.heap.size w u2 := hbW.trans (hb3.mono hbW.size)
      have lo : os.length ≤ 2 := len_two ht3 (by omega)
      clear hr3 hb3 p1 p2 p3
      go_wp2_with fail
      refine (add_any _ _ _ _ _ _ _ rz ro (by omega) (by omega)).mono ?_
      rintro e u3 ⟨a4, c4, ws, rfl, hv4, ht4, hr4, hb4⟩
      have rw4 := hr4.rd
      replace hbW : Below w.heap.size w u3 := hbW.trans (hb4.mono hbW.size)
      have HF : Hid ((qv true xs ys).floor = -((V ws : Nat) : Int)) := by show _ = _; rw [floor_neg y0, hv4, hv1, hv3, ← hv2, if_pos hr0]
      clear hv1 hv2 hx hy hr0 hr4 hb4 rz ro hv4 hv3
      go_wp2_with fail
      refine (small_any _ _ _ _ rw4).mono ?_
      rintro e u ⟨rfl, rfl⟩
      clear rw4
      generalize V ws = m at HF ⊢
      by_cases hm : m ≤ 9223372036854775808
      · rw [smallN_lt (by omega), isSmall_lt (by omega)]
        have g1 : ¬ (9223372036854775808 : Int) < (m : Int) := by omega
        go_wp2
        go_ret2
        exact ⟨ret_two (by rw [HF.out, flN_neg, if_pos hm]; exact back_neg hm) (by rw [HF.out, flB_neg]; simp [hm]), hbW⟩
      · by_cases hm2 : m < 18446744073709551616
        · rw [smallN_lt hm2, isSmall_lt hm2]
          have g1 : (9223372036854775808 : Int) < (m : Int) := by omega
          go_wp2
          go_ret2
          exact ⟨ret_two (by rw [HF.out, flN_neg, if_neg hm]) (by rw [HF.out, flB_neg]; simp [hm]), hbW⟩
        · rw [smallN_ge hm2, isSmall_ge hm2]
          go_wp2
          go_ret2
          exact ⟨ret_two (by rw [HF.out, flN_neg, if_neg hm]) (by rw [HF.out, flB_neg]; simp [hm]), hbW⟩

set_option maxHeartbeats 1000000 in
theorem qfloor_any (k : Nat) (q : Rat) (v : Value) (w : World) (h : Ct w v k q) (hk : k ≤ 100000000) (hk2 : 2 ≤ k) :
    Calls Tryz.prog 19 #[v] w fun e w' => e = .returned (.tuple #[.int .i64 (flN q.floor), .bool (flB q.floor)]) ∧ Below w.heap.size w w' := by
  have hX := h
  obtain ⟨n, xs, ys, ⟨a, c, a', c', rfl, hx, hy⟩, lx, ly, hq⟩ := h
  clear hq hx hy lx ly
  go_enter Tryz.func19, Tryz.ntmps19
  go_wp2_with fail
  refine (counted_any k q _ _ (hX.below (al1 _)) (by omega) hk2).mono ?_
  rintro e u1 ⟨v1, rfl, hF1, hb1⟩
  obtain ⟨B1, hbW⟩ := after1 hb1
  clear hb1
  go_wp2_with fail
  refine (floor_any k q _ _ hF1.lo (by omega)).mono ?_
  rintro e u2 ⟨rfl, hb2⟩
  replace hbW : Below w.heap.size w u2 := hbW.trans (hb2.mono hbW.size)
  go_wp2
  go_ret2
  exact ⟨rfl, hbW⟩

theorem lo_half {w : World} {a a' : Option Addr} {c c' : Nat} {xs ys : List Nat} (hx : Rd w a c xs) (hy : Rd w a' c' ys) (tx : Tr xs) (ty : Tr ys) (vx : V xs = 1) (vy : V ys = 2) :
    Lo w (.agg #[.bool false, .slice a xs.length c, .slice a' ys.length c']) 2 (1 / 2) := by
  refine ⟨_, _, _, ⟨_, _, _, _, rfl, hx, hy⟩, tx, ty, by omega, len_two tx (by omega), len_two ty (by omega), ?_⟩
  unfold qv
  rw [vx, vy, Rat.mkRat_eq_div]
  rfl

set_option maxHeartbeats 2000000 in
set_option maxRecDepth 100000 in
theorem qround_any (k : Nat) (q : Rat) (v : Value) (w : World) (h : Ct w v k q) (hk : k ≤ 100000000) (hk2 : 2 ≤ k) :
    Calls Tryz.prog 21 #[v] w fun e w' => e = .returned (.tuple #[.int .i64 (flN (q + 1 / 2).floor), .bool (flB (q + 1 / 2).floor)]) ∧ Below w.heap.size w w' := by
  have hX := h
  obtain ⟨n, xs, ys, ⟨a, c, a', c', rfl, hx, hy⟩, lx, ly, hq⟩ := h
  clear hq hx hy lx ly
  go_enter Tryz.func21, Tryz.ntmps21
  go_wp2_with fail
  refine (of_any 1 _ (by decide)).mono ?_
  rintro e u1 ⟨a1, c1, os, rfl, hv1, ht1, hr1, hb1⟩
  obtain ⟨B1, hbW⟩ := after1 hb1
  replace hX := (hX.below (al1 _)).below hb1
  have ro := hr1.rd
  clear hr1 hb1
  go_wp2_with fail
  refine (of_any 2 _ (by decide)).mono ?_
  rintro e u2 ⟨a2, c2, ts, rfl, hv2, ht2, hr2, hb2⟩
  replace B1 := B1.below hb2
  replace hX := hX.below hb2
  replace ro := ro.below hb2
  replace hbW : Below w.heap.size w u2 := hbW.trans (hb2.mono hbW.size)
  have rt := hr2.rd
  clear hr2 hb2
  go_wp2_with fail
  obtain ⟨W, hW, B2, hW2⟩ : ∃ W, W = u2.alloc (Obj.cells #[Value.bool false, Value.slice a1 os.length c1, Value.slice a2 ts.length c2] 25) ∧ Box 25 W u2.heap.size (.bool false) (.slice a1 os.length c1) (.slice a2 ts.length c2) ∧ Below u2.heap.size u2 W := ⟨_, rfl, Box.new _ _ _ _ _, al1 _⟩
  rw [← hW]
  clear hW
  replace B1 := B1.below hW2
  replace hX := hX.below hW2
  have hH : Lo W (.agg #[.bool false, .slice a1 os.length c1, .slice a2 ts.length c2]) 2 (1 / 2) := (lo_half ro rt ht1 ht2 hv1 hv2).below hW2
  replace hbW : Below w.heap.size w W := hbW.trans (hW2.mono hbW.size)
  clear hW2 ro rt
  generalize u2.heap.size = bh at B2 ⊢
  obtain ⟨p1, p2, p3, _⟩ := B1.cells
  obtain ⟨p4, p5, p6, _⟩ := B2.cells
  go_region_held3 (fun u => u.cell? ⟨w.heap.size, 0, none⟩ = some (.bool n) ∧ u.cell? ⟨w.heap.size, 1, none⟩ = some (.slice a xs.length c) ∧ u.cell? ⟨w.heap.size, 2, none⟩ = some (.slice a' ys.length c') ∧ u.cell? ⟨bh, 0, none⟩ = some (.bool false) ∧ u.cell? ⟨bh, 1, none⟩ = some (.slice a1 os.length c1) ∧ u.cell? ⟨bh, 2, none⟩ = some (.slice a2 ts.length c2)) (go_keep)
    (first
      | (go_at_call 33
         refine (counted_any k q _ _ (hX.below Below.drew1) ?_ ?_).mono ?_
         · omega
         · omega
         rintro e u3 ⟨v3, rfl, hF3, hb3⟩
         replace hb3 : Below W.heap.size W u3 := Below.drew1.trans hb3
         replace hH := hH.below hb3
         replace B1 := B1.below hb3
         replace B2 := B2.below hb3
         replace hbW : Below w.heap.size w u3 := hbW.trans (hb3.mono hbW.size)
         clear hb3 hX p1 p2 p3 p4 p5 p6
         obtain ⟨p1, p2, p3, _⟩ := B1.cells
         obtain ⟨p4, p5, p6, _⟩ := B2.cells)
      | (go_at_call 42
         refine (plus_any k 2 q (1 / 2) _ _ _ hF3.lo hH ?_ ?_).mono ?_
         · omega
         · omega
         rintro e u4 ⟨v4, rfl, hL, hb4⟩
         replace B1 := B1.below hb4
         replace B2 := B2.below hb4
         replace hbW : Below w.heap.size w u4 := hbW.trans (hb4.mono hbW.size)
         clear hb4 hF3 hH p1 p2 p3 p4 p5 p6
         obtain ⟨p1, p2, p3, _⟩ := B1.cells
         obtain ⟨p4, p5, p6, _⟩ := B2.cells)
      | (go_at_call 46
         refine (floor_any (k + 2 + 1) _ _ _ hL ?_).mono ?_
         · omega
         rintro e u5 ⟨rfl, hb5⟩
         replace B1 := B1.below hb5
         replace B2 := B2.below hb5
         replace hbW : Below w.heap.size w u5 := hbW.trans (hb5.mono hbW.size)
         clear hb5 hL p1 p2 p3 p4 p5 p6
         obtain ⟨p1, p2, p3, _⟩ := B1.cells
         obtain ⟨p4, p5, p6, _⟩ := B2.cells))
  go_wp2
  go_ret2
  exact ⟨rfl, hbW⟩

end Go.Proofs.YtefdkajjdaplbaaGreatDoor

namespace Go.Proofs.YtefdkajjdaplbaaGreatDoor
open Go.RowKit Go.Lib Classical
set_option linter.unusedSimpArgs false
set_option linter.unusedVariables false

/-- The chapter's text of a number. -/
def txt (q : Rat) : List UInt8 := (if q < 0 then [45] else []) ++ (decDigits q.num.natAbs ++ (if q.den = 1 then [] else 47 :: decDigits q.den))

theorem Fmd.lt_zero {n : Bool} {xs ys : List Nat} (h : Fmd n xs ys) : qv n xs ys < 0 ↔ n = true := by
  have key : 0 ≤ qv n xs ys ↔ 0 ≤ sg n (V xs) := by rw [← Rat.num_nonneg, h.parts.1]
  rw [← Rat.not_le, key]
  cases n with
  | false => simp [sg]
  | true =>
    have := h.neg rfl
    simp [sg]; omega

theorem txt_of {n : Bool} {xs ys : List Nat} (h : Fmd n xs ys) (ly : Lim ys) : txt (qv n xs ys) = (if n = true then [45] else []) ++ (decDigits (V xs) ++ (if ys = [1] then [] else 47 :: decDigits (V ys))) := by
  unfold txt
  rw [h.parts.1, h.parts.2, sg_natAbs]
  have e1 : (qv n xs ys < 0) = (n = true) := propext h.lt_zero
  have e2 : (V ys = 1) = (ys = [1]) := propext (V_eq_one ly h.2.1)
  simp only [e1, e2]

theorem digits_le : ∀ (k v : Nat), v < 2 ^ k → nDigits v ≤ k + 1 := by
  intro k
  induction k with
  | zero => intro v h; rw [nDigits_small (by omega)]; omega
  | succ k ih =>
    intro v h
    by_cases h1 : v < 10
    · rw [nDigits_small h1]; omega
    · rw [nDigits_big h1]
      have := ih (v / 10) (by rw [Nat.pow_succ] at h; omega)
      omega

/-- The digits of a natural, as a string of a size that is known. -/
theorem dec_str {xs : List Nat} (l : Lim xs) (h : xs.length ≤ 10000000) : ∃ s : ByteArray, (⟨(decDigits (V xs)).toArray⟩ : ByteArray) = s ∧ s.size ≤ 320000001 ∧ s.data.toList = decDigits (V xs) := by
  refine ⟨_, rfl, ?_, by simp⟩
  have h1 := V_lt l
  have e : 4294967296 ^ xs.length = 2 ^ (32 * xs.length) := by rw [Nat.pow_mul]
  rw [e] at h1
  have := digits_le _ _ h1
  rw [Lib.size_eq]
  simp [decDigits_length]
  omega

theorem ret_str {s : ByteArray} {l : List UInt8} (h : s.data.toList = l) : Ending.returned (.string s) = .returned (.string ⟨l.toArray⟩) := by
  subst h
  simp

set_option maxHeartbeats 2000000 in
set_option maxRecDepth 100000 in
theorem qtext_any (k : Nat) (q : Rat) (v : Value) (w : World) (h : Ct w v k q) (hk : k ≤ 10000000) (hk2 : 2 ≤ k) (htab : Pow w) :
    Calls Tryz.prog 27 #[v] w fun e w' => e = .returned (.string ⟨(txt q).toArray⟩) ∧ Below w.heap.size w w' := by
  have hX := h
  obtain ⟨n, xs, ys, ⟨a, c, a', c', rfl, hx, hy⟩, lx, ly, hq⟩ := h
  clear hq hx hy lx ly
  go_enter Tryz.func27, Tryz.ntmps27
  go_wp2_with fail
  refine (counted_any k q _ _ (hX.below (al1 _)) (by omega) hk2).mono ?_
  rintro e u1 ⟨v1, rfl, hF1, hb1⟩
  obtain ⟨B1, hbW⟩ := after1 hb1
  clear hb1 hX
  obtain ⟨p4, p5, p6, p7, p8, p9⟩ := B1.cells
  have hs2 := B1.lt
  obtain ⟨n1, x1, y1, ⟨b1, d1, b2, d2, rfl, hx', hy'⟩, hf1, l1, l2, he⟩ := hF1
  have HT : Hid (txt q = (if n1 = true then [45] else []) ++ (decDigits (V x1) ++ (if y1 = [1] then [] else 47 :: decDigits (V y1)))) := by
    show _ = _; rw [← he]; exact txt_of hf1 hy'.lim
  go_wp2_with fail
  obtain ⟨U, hU, B2, hbU, hK, ho⟩ := set3_world B1 (.bool n1) (.slice b1 x1.length d1) (.slice b2 y1.length d2)
  rw [← hU]
  clear hU p4 p5 p6 p7 p8 p9 hs2
  replace hbW := hbU _ _ hbW (by omega)
  replace hx' := hK _ _ _ hx'
  replace hy' := hK _ _ _ hy'
  clear B1 hbU hK ho
  refine (text_any _ _ _ _ hx' (by omega) (htab.below hbW)).mono ?_
  rintro e u2 ⟨rfl, hb2⟩
  replace B2 := B2.below hb2
  replace hy' := hy'.below hb2
  replace hbW : Below w.heap.size w u2 := hbW.trans (hb2.mono hbW.size)
  have lX1 := hx'.lim
  clear hb2 hx'
  obtain ⟨s1, e1, z1, t1⟩ := dec_str lX1 (by omega)
  obtain ⟨s2, e2, z2, t2⟩ := dec_str hy'.lim (by omega)
  rw [e1]
  rw [← t1, ← t2] at HT
  clear e1 t1 t2
  obtain ⟨p4, p5, p6, _⟩ := B2.cells
  cases n1 with
  | false =>
    go_wp2_with fail
    refine (isOne_any _ _ _ _ hy').mono ?_
    rintro e u ⟨rfl, rfl⟩
    by_cases h1 : y1 = [1]
    · have e1 : decide (y1 = [1]) = true := decide_eq_true h1
      rw [e1]
      clear e1
      go_wp2
      go_ret
      exact ⟨ret_str (by rw [HT.out, if_pos h1]; simp [ByteArray.data_append]), hbW⟩
    · have e1 : decide (y1 = [1]) = false := decide_eq_false h1
      rw [e1]
      clear e1
      go_wp2_with fail
      refine (text_any _ _ _ _ hy' (by omega) (htab.below hbW)).mono ?_
      rintro e u3 ⟨rfl, hb3⟩
      rw [e2]
      replace hbW : Below w.heap.size w u3 := hbW.trans (hb3.mono hbW.size)
      clear hb3 p4 p5 p6
      go_wp2
      go_ret
      exact ⟨ret_str (by rw [HT.out, if_neg h1]; simp [ByteArray.data_append]), hbW⟩
  | true =>
    go_wp2_with fail
    refine (isOne_any _ _ _ _ hy').mono ?_
    rintro e u ⟨rfl, rfl⟩
    by_cases h1 : y1 = [1]
    · have e1 : decide (y1 = [1]) = true := decide_eq_true h1
      rw [e1]
      clear e1
      go_wp2
      go_ret
      exact ⟨ret_str (by rw [HT.out, if_pos h1]; simp [ByteArray.data_append]), hbW⟩
    · have e1 : decide (y1 = [1]) = false := decide_eq_false h1
      rw [e1]
      clear e1
      go_wp2_with fail
      refine (text_any _ _ _ _ hy' (by omega) (htab.below hbW)).mono ?_
      rintro e u3 ⟨rfl, hb3⟩
      rw [e2]
      replace hbW : Below w.heap.size w u3 := hbW.trans (hb3.mono hbW.size)
      clear hb3 p4 p5 p6
      go_wp2
      go_ret
      exact ⟨ret_str (by rw [HT.out, if_neg h1]; simp [ByteArray.data_append]), hbW⟩

end Go.Proofs.YtefdkajjdaplbaaGreatDoor

namespace Go.Proofs.YtefdkajjdaplbaaGreatDoor
open Go.RowKit
set_option linter.unusedSimpArgs false
set_option linter.unusedVariables false

/-- A fraction lies in block b of U; all else is as it was in u. -/
def Sto (t : TypeId) (u U : World) (b : Nat) (x y z : Value) : Prop :=
  Box t U b x y z ∧ (∀ B w, Below B w u → B ≤ b → Below B w U) ∧ (∀ a c xs, Rd u a c xs → Rd U a c xs) ∧ (∀ t' k x y z, k ≠ b → Box t' u k x y z → Box t' U k x y z)
theorem sto_set {t : TypeId} {u : World} {b : Nat} {n : Bool} {a a' : Option Addr} {l c l' c' : Nat} (B : Box t u b (.bool n) (.slice a l c) (.slice a' l' c')) (x' y' z' : Value) :
    Sto t u (((u.setCell ⟨b, 0, none⟩ x').setCell ⟨b, 1, none⟩ y').setCell ⟨b, 2, none⟩ z') b x' y' z' := by
  obtain ⟨U, rfl, h1, h2, h3, h4⟩ := set3_world B x' y' z'
  exact ⟨h1, h2, h3, fun _ _ _ _ _ hk hB => hB.other h4 hk⟩
theorem sto_new (t : TypeId) (u : World) (x y z : Value) : Sto t u (u.alloc (.cells #[x, y, z] t)) u.heap.size x y z :=
  ⟨Box.new _ _ _ _ _, fun _ _ h hb => h.alloc hb _, fun _ _ _ h => h.below (al1 _), fun _ _ _ _ _ _ hB => hB.alloc _⟩
theorem Ct.sto {t : TypeId} {u U : World} {b : Nat} {x y z v : Value} {k : Nat} {q : Rat} (h : Ct u v k q) (s : Sto t u U b x y z) : Ct U v k q := by
  obtain ⟨n0, x0, y0, ⟨e1, e2, e3, e4, e5, e6, e7⟩, e8⟩ := h
  exact ⟨n0, x0, y0, ⟨e1, e2, e3, e4, e5, s.2.2.1 _ _ _ e6, s.2.2.1 _ _ _ e7⟩, e8⟩
theorem after1d {t : TypeId} {w u : World} {x y z : Value} (hb : Below (w.alloc (.cells #[x, y, z] t)).drew.heap.size (w.alloc (.cells #[x, y, z] t)).drew u) :
    Box t u w.heap.size x y z ∧ Below w.heap.size w u := after1 (Below.drew1.trans hb)
theorem al1d {w : World} (o : Obj) : Below w.heap.size w (w.alloc o).drew := (al1 o).drew
theorem al2d {w : World} (o o' : Obj) : Below w.heap.size w ((w.alloc o).alloc o').drew := (al2 o o').drew

/-- How far a statement has come (a mark for the walk). -/
def Stg (n : Nat) : Prop := n = n

set_option maxHeartbeats 1000000 in
set_option maxRecDepth 100000 in
/-- foundryref01.Same, of whatever two lists. -/
theorem alike_any (a b : Option Addr) (ca cb : Nat) (xs ys : List Nat) (w : World) (ha : Rd w a ca xs) (hb : Rd w b cb ys) :
    Calls Tryz.prog 66 #[.slice a xs.length ca, .slice b ys.length cb] w fun e w' => e = .returned (.bool (decide (xs = ys))) ∧ Below w.heap.size w w' := by
  have fa := ha.fm
  have fb := hb.fm
  have k1 := ha.le
  have k2 := ha.cap
  have k3 := hb.le
  have k4 := hb.cap
  unfold maxLen at k2 k4
  by_cases hl : xs.length = ys.length
  · have HL : Hid (xs.length = ys.length) := hl
    rw [← hl]
    rw [← hl] at k3
    have fb' : ∀ (wr : World), Below w.heap.size w wr → ∀ k, k < xs.length → ∃ bb off, b = some ⟨bb, off, none⟩ ∧ bb < w.heap.size ∧ wr.cell? ⟨bb, off + k, none⟩ = some (.int .u32 (ys.getD k 0 : Nat)) := fun wr hw k hk => fb.at hw k (by omega)
    clear hl ha hb fb
    go_enter Tryz.func66, Tryz.ntmps66
    go_wp2
    go_loopw [5] (fun i wr => ∃ k : Nat, k ≤ xs.length ∧ i = .int .i64 k ∧ (∀ j, j < k → xs.getD j 0 = ys.getD j 0) ∧ Below w.heap.size w wr) (fun i _ => xs.length - (intOf i).toNat)
    case atStart => exact ⟨0, Nat.zero_le _, rfl, fun j hj => by omega, Below.refl _ _⟩
    case round =>
      obtain ⟨k, hk, rfl, hal, hnx⟩ := hrel
      have HA : Hid (∀ j, j < k → xs.getD j 0 = ys.getD j 0) := hal
      clear hal
      by_cases hkn : k < xs.length
      · obtain ⟨b1, o1, rfl, _, c1⟩ := fa.at hnx k hkn
        obtain ⟨b2, o2, rfl, _, c2⟩ := fb' _ hnx k hkn
        obtain ⟨x, hx⟩ : ∃ x, xs.getD k 0 = x := ⟨_, rfl⟩
        obtain ⟨y, hy⟩ : ∃ y, ys.getD k 0 = y := ⟨_, rfl⟩
        rw [hx] at c1
        rw [hy] at c2
        have HX : Hid (xs.getD k 0 = x) := hx
        have HY : Hid (ys.getD k 0 = y) := hy
        clear hx hy
        go_wp2_with fail
        go_quiet (fail)
        by_cases hxy : x = y
        · subst hxy
          go_wp2
          go_roundw
          case rel => exact ⟨k + 1, by omega, by go_num, fun j hj => by
            rcases Nat.lt_or_ge j k with h | h
            · exact HA.out j h
            · have : j = k := by omega
              subst this
              rw [HX.out, HY.out], below_drewN hnx _⟩
          case measure => simp [intOf]; omega
        · have hne : ((x : Int) != (y : Int)) = true := by simp; omega
          go_wp2
          go_ret
          exact ⟨ret_bool (by
            have : xs ≠ ys := by
              intro e
              have h1 := HX.out
              rw [e, HY.out] at h1
              exact hxy h1.symm
            simp [this]), below_drewN hnx _⟩
      · obtain rfl : k = xs.length := by omega
        go_wp2
        go_ret
        exact ⟨ret_bool (by
          have : xs = ys := List.ext_getElem HL.out fun j h1 h2 => by
            have := HA.out j h1
            simpa [List.getD, h1, h2] using this
          simp [this]), hnx⟩
  · have hne : ((xs.length : Int) != (ys.length : Int)) = true := by simp; omega
    have hx : xs ≠ ys := fun e => hl (by rw [e])
    clear ha hb fa fb
    go_enter Tryz.func66, Tryz.ntmps66
    go_wp2
    go_ret
    exact ⟨ret_bool (by simp [hx]), Below.refl _ _⟩

set_option maxHeartbeats 1000000 in
/-- foundryref02.Same. -/
theorem alike2_any (n m : Bool) (a a' b b' : Option Addr) (c c' d d' : Nat) (xs ys ps qs : List Nat) (w : World) (hx : Rd w a c xs) (hy : Rd w a' c' ys) (hp : Rd w b d ps) (hq : Rd w b' d' qs) :
    Calls Tryz.prog 41 #[.agg #[.bool n, .slice a xs.length c, .slice a' ys.length c'], .agg #[.bool m, .slice b ps.length d, .slice b' qs.length d']] w fun e w' => e = .returned (.bool (decide (n = m ∧ xs = ps ∧ ys = qs))) ∧ Below w.heap.size w w' := by
  by_cases hnm : n = m
  · subst hnm
    have e0 : (n == n) = true := by simp
    go_enter Tryz.func41, Tryz.ntmps41
    go_wp2_with fail
    refine (alike_any _ _ _ _ _ _ _ (hx.below (al2 _ _)) (hp.below (al2 _ _))).mono ?_
    rintro e u1 ⟨rfl, hb1⟩
    replace hy := (hy.below (al2 _ _)).below hb1
    replace hq := (hq.below (al2 _ _)).below hb1
    obtain ⟨B1, B2, hbW⟩ := after2 hb1
    obtain ⟨p1, p2, p3, _⟩ := B1.cells
    obtain ⟨p4, p5, p6, _⟩ := B2.cells
    clear hb1
    by_cases hxp : xs = ps
    · have e1 : decide (xs = ps) = true := decide_eq_true hxp
      have HX : Hid (xs = ps) := hxp
      clear hxp
      rw [e1]
      clear e1
      go_wp2_with fail
      refine (alike_any _ _ _ _ _ _ _ hy hq).mono ?_
      rintro e u2 ⟨rfl, hb2⟩
      replace hbW : Below w.heap.size w u2 := hbW.trans (hb2.mono hbW.size)
      go_wp2
      go_ret
      exact ⟨ret_bool (by simp [HX.out]), hbW⟩
    · have e1 : decide (xs = ps) = false := decide_eq_false hxp
      have HX : Hid (¬ xs = ps) := hxp
      clear hxp
      rw [e1]
      clear e1
      go_wp2
      go_ret
      exact ⟨ret_bool (by simp [HX.out]), hbW⟩
  · have e0 : (n == m) = false := by simpa using hnm
    go_enter Tryz.func41, Tryz.ntmps41
    go_wp2
    go_ret
    exact ⟨ret_bool (by simp [hnm]), al2 _ _⟩

set_option maxHeartbeats 1000000 in
/-- foundrylaw02.plain: the same value. -/
theorem plain2_any (n : Bool) (a a' : Option Addr) (c c' : Nat) (xs ys : List Nat) (w : World) (hx : Rd w a c xs) (hy : Rd w a' c' ys) :
    Calls Tryz.prog 7 #[.agg #[.bool n, .slice a xs.length c, .slice a' ys.length c']] w fun e w' => e = .returned (.agg #[.bool n, .slice a xs.length c, .slice a' ys.length c']) ∧ Below w.heap.size w w' := by
  go_enter Tryz.func7, Tryz.ntmps7
  go_wp2
  exact bodyPost_ret (v := .agg #[.bool n, .slice a xs.length c, .slice a' ys.length c']) (by simp [results, Tryz.results7, go_sem]) rfl ⟨rfl, al2 _ _⟩

set_option maxHeartbeats 1000000 in
/-- foundrylaw02.same. -/
theorem same2_any (n m : Bool) (a a' b b' : Option Addr) (c c' d d' : Nat) (xs ys ps qs : List Nat) (w : World) (hx : Rd w a c xs) (hy : Rd w a' c' ys) (hp : Rd w b d ps) (hq : Rd w b' d' qs) :
    Calls Tryz.prog 10 #[.agg #[.bool n, .slice a xs.length c, .slice a' ys.length c'], .agg #[.bool m, .slice b ps.length d, .slice b' qs.length d']] w fun e w' => e = .returned (.bool (decide (n = m ∧ xs = ps ∧ ys = qs))) ∧ Below w.heap.size w w' := by
  go_enter Tryz.func10, Tryz.ntmps10
  go_wp2_with fail
  obtain ⟨W, hW, B1, B2, hbW⟩ := boxes2 25 30 w (.bool n) (.slice a xs.length c) (.slice a' ys.length c') (.bool m) (.slice b ps.length d) (.slice b' qs.length d')
  rw [← hW]
  clear hW
  replace hx := hx.below hbW
  replace hy := hy.below hbW
  replace hp := hp.below hbW
  replace hq := hq.below hbW
  obtain ⟨p1, p2, p3, _⟩ := B1.cells
  obtain ⟨p4, p5, p6, _⟩ := B2.cells
  go_region_held3 (fun u => u.cell? ⟨w.heap.size, 0, none⟩ = some (.bool n) ∧ u.cell? ⟨w.heap.size, 1, none⟩ = some (.slice a xs.length c) ∧ u.cell? ⟨w.heap.size, 2, none⟩ = some (.slice a' ys.length c') ∧ u.cell? ⟨w.heap.size + 1, 0, none⟩ = some (.bool m) ∧ u.cell? ⟨w.heap.size + 1, 1, none⟩ = some (.slice b ps.length d) ∧ u.cell? ⟨w.heap.size + 1, 2, none⟩ = some (.slice b' qs.length d')) (go_keep)
    (first
      | (go_at_call 7
         refine (plain2_any _ _ _ _ _ _ _ _ (hx.below Below.drew1) (hy.below Below.drew1)).mono ?_
         rintro e u1 ⟨rfl, hb1⟩
         replace hb1 : Below W.heap.size W u1 := Below.drew1.trans hb1
         replace hx := hx.below hb1
         replace hy := hy.below hb1
         replace hp := hp.below hb1
         replace hq := hq.below hb1
         replace B1 := B1.below hb1
         replace B2 := B2.below hb1
         replace hbW : Below w.heap.size w u1 := hbW.trans (hb1.mono hbW.size)
         clear hb1 p1 p2 p3 p4 p5 p6
         obtain ⟨p1, p2, p3, _⟩ := B1.cells
         obtain ⟨p4, p5, p6, _⟩ := B2.cells)
      | (go_at_call 41
         refine (alike2_any _ _ _ _ _ _ _ _ _ _ _ _ _ _ _ hx hy hp hq).mono ?_
         rintro e u2 ⟨rfl, hb2⟩
         replace B1 := B1.below hb2
         replace B2 := B2.below hb2
         replace hbW : Below w.heap.size w u2 := hbW.trans (hb2.mono hbW.size)
         clear hb2 p1 p2 p3 p4 p5 p6
         obtain ⟨p1, p2, p3, _⟩ := B1.cells
         obtain ⟨p4, p5, p6, _⟩ := B2.cells))
  go_wp2
  go_ret
  exact ⟨ret_bool (by simp), hbW⟩

set_option maxHeartbeats 1000000 in
/-- foundrylaw02.few. -/
theorem few2_any (n m : Bool) (a a' b b' : Option Addr) (c c' d d' i j k l : Nat) (w : World) (hi : i ≤ 9223372036854775807) (hj : j ≤ 9223372036854775807) (hk : k ≤ 9223372036854775807) (hl : l ≤ 9223372036854775807) :
    Calls Tryz.prog 6 #[.agg #[.bool n, .slice a i c, .slice a' j c'], .agg #[.bool m, .slice b k d, .slice b' l d']] w fun e w' => e = .returned (.bool (decide (i ≤ 4 ∧ j ≤ 4 ∧ k ≤ 4 ∧ l ≤ 4))) ∧ Below w.heap.size w w' := by
  by_cases h1 : i ≤ 4
  · by_cases h2 : j ≤ 4
    · by_cases h3 : k ≤ 4
      · have g1 : (i : Int) ≤ 4 := by omega
        have g2 : (j : Int) ≤ 4 := by omega
        have g3 : (k : Int) ≤ 4 := by omega
        go_enter Tryz.func6, Tryz.ntmps6
        go_wp2
        go_ret
        exact ⟨ret_bool (by simp [h1, h2, h3]; try omega), al2 _ _⟩
      · have g1 : (i : Int) ≤ 4 := by omega
        have g2 : (j : Int) ≤ 4 := by omega
        have g3 : ¬ (k : Int) ≤ 4 := by omega
        go_enter Tryz.func6, Tryz.ntmps6
        go_wp2
        go_ret
        exact ⟨ret_bool (by simp [h1, h2, h3]; try omega), al2 _ _⟩
    · have g1 : (i : Int) ≤ 4 := by omega
      have g2 : ¬ (j : Int) ≤ 4 := by omega
      go_enter Tryz.func6, Tryz.ntmps6
      go_wp2
      go_ret
      exact ⟨ret_bool (by simp [h1, h2]; try omega), al2 _ _⟩
  · have g1 : ¬ (i : Int) ≤ 4 := by omega
    go_enter Tryz.func6, Tryz.ntmps6
    go_wp2
    go_ret
    exact ⟨ret_bool (by simp [h1]; try omega), al2 _ _⟩

theorem awake_round : ((5 : Rat) / 2 + 1 / 2).floor = 3 := by decide +kernel
theorem awake_text : txt ((6 : Rat) / ((-4 : Int) : Rat)) = [45, 51, 47, 50] := by decide +kernel
set_option maxHeartbeats 1000000 in
/-- foundrylaw02.awake. -/
theorem awake2_any (w : World) (htab : Pow w) :
    Calls Tryz.prog 5 #[] w fun e w' => e = .returned (.bool true) ∧ Below w.heap.size w w' := by
  go_enter Tryz.func5, Tryz.ntmps5
  go_wp2_with fail
  refine (make_any 5 2 _ (by decide) (by decide) (by decide) (by decide)).mono ?_
  rintro e u1 ⟨v1, rfl, hF1, hb1⟩
  go_wp2_with fail
  refine (qround_any 2 _ _ _ hF1.ct (by decide) (by decide)).mono ?_
  rintro e u2 ⟨rfl, hb2⟩
  have hbW : Below w.heap.size w u2 := hb1.trans (hb2.mono hb1.size)
  have e1 : (((5 : Int) : Rat) / ((2 : Int) : Rat) + 1 / 2).floor = 3 := awake_round
  rw [e1, show flN 3 = 3 from rfl, show flB 3 = true from rfl]
  clear hb1 hb2 hF1 e1
  go_wp2_with fail
  refine (make_any 6 (-4) _ (by decide) (by decide) (by decide) (by decide)).mono ?_
  rintro e u3 ⟨v3, rfl, hF3, hb3⟩
  replace hbW : Below w.heap.size w u3 := hbW.trans (hb3.mono hbW.size)
  clear hb3
  go_wp2_with fail
  refine (qtext_any 2 _ _ _ hF3.ct (by decide) (by decide) (htab.below hbW)).mono ?_
  rintro e u4 ⟨rfl, hb4⟩
  replace hbW : Below w.heap.size w u4 := hbW.trans (hb4.mono hbW.size)
  have e2 : txt (((6 : Int) : Rat) / ((-4 : Int) : Rat)) = [45, 51, 47, 50] := awake_text
  rw [e2]
  clear hb4 e2 hF3
  go_wp2
  go_ret
  exact ⟨rfl, hbW⟩

end Go.Proofs.YtefdkajjdaplbaaGreatDoor

namespace Go.Proofs.YtefdkajjdaplbaaGreatDoor
open Go.RowKit Go.Lib Classical
set_option linter.unusedSimpArgs false
set_option linter.unusedVariables false

theorem cell_alloc1 {u : World} {o : Obj} {k i : Nat} (hk : k < u.heap.size) : (u.alloc o).cell? ⟨k, i, none⟩ = u.cell? ⟨k, i, none⟩ :=
  World.cell?_of_block (w := u) (a := ⟨k, i, none⟩) (Below.heap_alloc _ _ _ hk)
theorem cell_alloc2 {u : World} {o o' : Obj} {k i : Nat} (hk : k < u.heap.size) : ((u.alloc o).alloc o').cell? ⟨k, i, none⟩ = u.cell? ⟨k, i, none⟩ :=
  (cell_alloc1 (by simp; omega)).trans (cell_alloc1 hk)
theorem cell_s2 {u : World} {b b' : Nat} {x y z x' y' z' : Value} {k i : Nat} (hk : k ≠ b) (hk' : k ≠ b') :
    ((((((u.setCell ⟨b, 0, none⟩ x).setCell ⟨b, 1, none⟩ y).setCell ⟨b, 2, none⟩ z).setCell ⟨b', 0, none⟩ x').setCell ⟨b', 1, none⟩ y').setCell ⟨b', 2, none⟩ z').cell? ⟨k, i, none⟩ = u.cell? ⟨k, i, none⟩ :=
  (cell_set3 hk').trans (cell_set3 hk)
theorem cell_sa {u : World} {b : Nat} {x y z : Value} {o : Obj} {k i : Nat} (hk : k ≠ b) (hk' : k < u.heap.size) :
    ((((u.setCell ⟨b, 0, none⟩ x).setCell ⟨b, 1, none⟩ y).setCell ⟨b, 2, none⟩ z).alloc o).cell? ⟨k, i, none⟩ = u.cell? ⟨k, i, none⟩ :=
  (cell_alloc1 (by simpa [World.setCell] using hk')).trans (cell_set3 hk)
theorem sto_new' (t : TypeId) (u : World) (x y z : Value) {k : Nat} (h : u.heap.size = k) : Sto t u (u.alloc (.cells #[x, y, z] t)) k x y z := h ▸ sto_new t u x y z
/-- Two blocks, one behind the other. -/
theorem Sto.two {t : TypeId} {u U V : World} {b b' : Nat} {x y z x' y' z' : Value} (s : Sto t u U b x y z) (r : Sto t U V b' x' y' z') (h : b ≠ b') :
    ∃ W, W = V ∧ Box t W b x y z ∧ Box t W b' x' y' z' ∧ (∀ B w, Below B w u → B ≤ b → B ≤ b' → Below B w W) ∧ (∀ a c xs, Rd u a c xs → Rd W a c xs) ∧ (∀ t' k x y z, k ≠ b → k ≠ b' → Box t' u k x y z → Box t' W k x y z) :=
  ⟨V, rfl, r.2.2.2 _ _ _ _ _ h s.1, r.1, fun _ _ hb h1 h2 => r.2.1 _ _ (s.2.1 _ _ hb h1) h2, fun _ _ _ hr => r.2.2.1 _ _ _ (s.2.2.1 _ _ _ hr), fun _ _ _ _ _ h1 h2 hB => r.2.2.2 _ _ _ _ _ h2 (s.2.2.2 _ _ _ _ _ h1 hB)⟩
theorem Ct.keep {u U : World} {v : Value} {k : Nat} {q : Rat} (h : Ct u v k q) (hK : ∀ a c xs, Rd u a c xs → Rd U a c xs) : Ct U v k q := by
  obtain ⟨n0, x0, y0, ⟨e1, e2, e3, e4, e5, e6, e7⟩, e8⟩ := h
  exact ⟨n0, x0, y0, ⟨e1, e2, e3, e4, e5, hK _ _ _ e6, hK _ _ _ e7⟩, e8⟩
theorem after2d {t s : TypeId} {w u : World} {x y z x' y' z' : Value} (hb : Below ((w.alloc (.cells #[x, y, z] t)).alloc (.cells #[x', y', z'] s)).drew.heap.size ((w.alloc (.cells #[x, y, z] t)).alloc (.cells #[x', y', z'] s)).drew u) :
    Box t u w.heap.size x y z ∧ Box s u (w.heap.size + 1) x' y' z' ∧ Below w.heap.size w u := after2 (Below.drew1.trans hb)

theorem formedF_any (k : Nat) (q : Rat) (v : Value) (w : World) (h : Fr w v k q) (hk : k ≤ 400000000) :
    Calls Tryz.prog 23 #[v] w fun e w' => e = .returned (.bool true) ∧ Below w.heap.size w w' := by
  obtain ⟨n, xs, ys, ⟨a, c, a', c', rfl, hx, hy⟩, hf, lx, ly, _⟩ := h
  refine (formed_any _ _ _ _ _ _ _ _ hx hy (by omega) (by omega)).mono ?_
  rintro e u ⟨rfl, hb⟩
  exact ⟨ret_bool (decide_eq_true hf), hb⟩

/-- Two formed writings of one number. -/
def Two (w : World) (n : Bool) (a : Option Addr) (c : Nat) (xs : List Nat) (a' : Option Addr) (c' : Nat) (ys : List Nat) (m : Bool) (b : Option Addr) (d : Nat) (ps : List Nat) (b' : Option Addr) (d' : Nat) (qs : List Nat) (q : Rat) : Prop :=
  Rd w a c xs ∧ Rd w a' c' ys ∧ Rd w b d ps ∧ Rd w b' d' qs ∧ Fmd n xs ys ∧ xs.length ≤ 9 ∧ ys.length ≤ 9 ∧ qv n xs ys = q ∧ Fmd m ps qs ∧ ps.length ≤ 9 ∧ qs.length ≤ 9 ∧ qv m ps qs = q

end Go.Proofs.YtefdkajjdaplbaaGreatDoor
