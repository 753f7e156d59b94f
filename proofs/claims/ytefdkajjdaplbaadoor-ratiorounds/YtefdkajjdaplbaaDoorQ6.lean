/-
  ratio.Quo: the walk.
-/
import Derived.Test.YtefdkajjdaplbaaDoorQ5
import Derived.Deep.RegionHeld3
namespace Go.Proofs.YtefdkajjdaplbaaDoor
open Go.RowKit Classical
set_option linter.unusedSimpArgs false
set_option linter.unusedVariables false

theorem Box.other {t : TypeId} {u U : World} {b k : Nat} {x y z : Value} (h : Box t u k x y z) (hU : ∀ j, j ≠ b → U.heap[j]? = u.heap[j]?) (hk : k ≠ b) : Box t U k x y z := (hU k hk).trans h

/-- A fraction is stored into a block that holds one. -/
theorem set3_world {t : TypeId} {u : World} {b : Nat} {n : Bool} {a a' : Option Addr} {l c l' c' : Nat} (B : Box t u b (.bool n) (.slice a l c) (.slice a' l' c')) (x' y' z' : Value) :
    ∃ U, U = (((u.setCell ⟨b, 0, none⟩ x').setCell ⟨b, 1, none⟩ y').setCell ⟨b, 2, none⟩ z') ∧ Box t U b x' y' z' ∧ (∀ B w, Below B w u → B ≤ b → Below B w U) ∧ (∀ a c xs, Rd u a c xs → Rd U a c xs) ∧ (∀ j, j ≠ b → U.heap[j]? = u.heap[j]?) :=
  ⟨_, rfl, B.set3 x' y' z', fun _ _ h hb => below_set3 h hb x' y' z', fun _ _ _ h => Rd.apart B (by simp [World.setCell]) (set3_other u b x' y' z') h, set3_other u b x' y' z'⟩
/-- Its two parts are put anew. -/
theorem set2_world {t : TypeId} {u : World} {b : Nat} {n : Bool} {a a' : Option Addr} {l c l' c' : Nat} (B : Box t u b (.bool n) (.slice a l c) (.slice a' l' c')) (y' z' : Value) :
    ∃ U, U = ((u.setCell ⟨b, 1, none⟩ y').setCell ⟨b, 2, none⟩ z') ∧ Box t U b (.bool n) y' z' ∧ (∀ B w, Below B w u → B ≤ b → Below B w U) ∧ (∀ a c xs, Rd u a c xs → Rd U a c xs) ∧ (∀ j, j ≠ b → U.heap[j]? = u.heap[j]?) := by
  have ho : ∀ j, j ≠ b → ((u.setCell ⟨b, 1, none⟩ y').setCell ⟨b, 2, none⟩ z').heap[j]? = u.heap[j]? := by
    intro j hj
    rw [Below.heap_setCell _ ⟨b, 2, none⟩ z' j hj, Below.heap_setCell _ ⟨b, 1, none⟩ y' j hj]
  refine ⟨_, rfl, ?_, fun _ _ h hb => (h.setCell (p := ⟨b, 1, none⟩) hb y').setCell (p := ⟨b, 2, none⟩) hb z', fun _ _ _ h => Rd.apart B (by simp [World.setCell]) ho h, ho⟩
  have h1 := heap_setCell_same u b 1 _ t y' B
  have h2 := heap_setCell_same _ b 2 _ t z' h1
  exact h2

theorem sgnQ_zero {q : Rat} : sgnQ q = 0 ↔ q = 0 := by
  unfold sgnQ
  refine ⟨fun h => ?_, fun h => by rw [if_pos h]⟩
  by_cases h0 : q = 0
  · exact h0
  · rw [if_neg h0] at h; split at h <;> cases h

theorem qv_inv (n : Bool) (xs ys : List Nat) (hx : V xs ≠ 0) : qv n ys xs = (qv n xs ys)⁻¹ := by
  unfold qv
  rw [← Rat.divInt_ofNat, ← Rat.divInt_ofNat, Rat.inv_divInt]
  by_cases hy : V ys = 0
  · rw [hy, sg_zero]
    simp [Rat.zero_divInt]
  · have h1 : sg n (V xs) ≠ 0 := by intro h; have := congrArg Int.natAbs h; rw [sg_natAbs] at this; exact hx this
    rw [Rat.divInt_eq_divInt_iff (by omega) h1]
    cases n <;> simp [sg] <;> grind

theorem Fr.zero_iff {w : World} {n : Bool} {xs ys : List Nat} (h : Fmd n xs ys) : qv n xs ys = 0 ↔ xs = [] := by
  rw [← Rat.num_eq_zero, h.parts.1]
  refine ⟨fun h0 => ?_, fun h0 => by rw [h0]; exact sg_zero n⟩
  have := congrArg Int.natAbs h0
  rw [sg_natAbs] at this
  exact eq_nil_of_V h.1 this

set_option maxHeartbeats 2000000 in
theorem qquo_any (k l : Nat) (q r : Rat) (v v' : Value) (w : World) (h : Ct w v k q) (h' : Ct w v' l r) (hk : k ≤ 100000000) (hl : l ≤ 100000000) (hk2 : 2 ≤ k) (hl2 : 2 ≤ l) :
    Calls Tryd.prog 18 #[v, v'] w fun e w' => ∃ v', e = .returned (.tuple #[v', .bool (decide (r ≠ 0))]) ∧ Fr w' v' (k + l) (q / r) ∧ Below w.heap.size w w' := by
  have hX := h
  have hY := h'
  obtain ⟨n, xs, ys, ⟨a, c, a', c', rfl, hx, hy⟩, lx, ly, hq⟩ := h
  obtain ⟨m, ps, qs, ⟨b, d, b', d', rfl, hp, hqs⟩, lp, lq, hr⟩ := h'
  clear hq hr hx hy hp hqs lx ly lp lq
  go_enter Tryd.func18, Tryd.ntmps18
  go_wp2_with fail
  refine (counted_any l r _ _ (hY.below (al3 _ _ _)) (by omega) hl2).mono ?_
  rintro e u1 ⟨v1, rfl, hF1, hb1⟩
  replace hX := (hX.below (al3 _ _ _)).below hb1
  obtain ⟨B1, B2, B3, hbW⟩ := after3 hb1
  clear hb1 hY
  obtain ⟨p4, p5, p6, p7, p8, p9⟩ := B2.cells
  have hs2 := B2.lt
  obtain ⟨n1, x1, y1, ⟨b1, d1, b2, d2, rfl, hx', hy'⟩, hf1, l1, l2, he⟩ := hF1
  go_wp2_with fail
  obtain ⟨U, hU, B2', hbU, hK, ho⟩ := set3_world B2 (.bool n1) (.slice b1 x1.length d1) (.slice b2 y1.length d2)
  rw [← hU]
  clear hU p4 p5 p6 p7 p8 p9 hs2
  replace B1 := B1.other ho (by omega)
  replace B3 := B3.other ho (by omega)
  replace hbW := hbU _ _ hbW (by omega)
  have hX' : Ct U (.agg #[.bool n, .slice a xs.length c, .slice a' ys.length c']) k q := by
    obtain ⟨n0, x0, y0, ⟨e1, e2, e3, e4, e5, e6, e7⟩, e8⟩ := hX
    exact ⟨n0, x0, y0, ⟨e1, e2, e3, e4, e5, hK _ _ _ e6, hK _ _ _ e7⟩, e8⟩
  clear hX
  replace hx' := hK _ _ _ hx'
  replace hy' := hK _ _ _ hy'
  clear B2 hbU hK ho
  have hF1 : Fr U (.agg #[.bool n1, .slice b1 x1.length d1, .slice b2 y1.length d2]) l r := ⟨_, _, _, ⟨_, _, _, _, rfl, hx', hy'⟩, hf1, l1, l2, he⟩
  refine (sign_any l r _ _ hF1.lo (by omega)).mono ?_
  rintro e u2 ⟨rfl, hb2⟩
  replace B1 := B1.below hb2
  replace B2' := B2'.below hb2
  replace B3 := B3.below hb2
  replace hX' := hX'.below hb2
  replace hx' := hx'.below hb2
  replace hy' := hy'.below hb2
  replace hbW : Below w.heap.size w u2 := hbW.trans (hb2.mono hbW.size)
  clear hb2 hF1
  obtain ⟨p4, p5, p6, p7, p8, p9⟩ := B2'.cells
  have hs2 := B2'.lt
  by_cases hr0 : r = 0
  · have e0 : sgnQ r = 0 := sgnQ_zero.2 hr0
    rw [e0]
    go_wp2_with fail
    refine (whole_any 0 _ (by decide) (by decide)).mono ?_
    rintro e u3 ⟨v3, rfl, hF, hb3⟩
    replace B3 := B3.below hb3
    replace hbW : Below w.heap.size w u3 := hbW.trans (hb3.mono hbW.size)
    obtain ⟨q1, q2, q3, q4, q5, q6⟩ := B3.cells
    have hs' := B3.lt
    obtain ⟨n', xs', ys', ⟨c1, f1, c2, f2, rfl, hx'', hy''⟩, hf', lx', ly', he'⟩ := hF
    clear hb3 p4 p5 p6 p7 p8 p9
    go_wp2
    refine ret3 (v := .tuple #[.agg #[.bool n', .slice c1 xs'.length f1, .slice c2 ys'.length f2], .bool false]) B3 rfl (fun U hU => by obtain ⟨r1, r2, r3, _⟩ := hU.cells; simp [results, Tryd.results18, go_sem, r1, r2, r3]) (fun U hU hK => ⟨_, by simp [hr0], ⟨_, _, _, ⟨_, _, _, _, rfl, hK _ _ _ hx'', hK _ _ _ hy''⟩, hf', by omega, by omega, by rw [he', hr0]; simp [Rat.div_def]⟩, hU _ _ hbW (by omega)⟩)
  · have e0 : (sgnQ r == 0) = false := beq_eq_false_iff_ne.2 fun h => hr0 (sgnQ_zero.1 h)
    have hv1 : V x1 ≠ 0 := V_ne_of hf1.1 fun h => hr0 (by rw [← he]; exact (Fr.zero_iff (w := w) hf1).2 h)
    generalize sgnQ r = sq at e0 ⊢
    go_wp2_with fail
    obtain ⟨U2, hU2, B2, hbU, hK, ho⟩ := set2_world B2' (.slice b2 y1.length d2) (.slice b1 x1.length d1)
    rw [← hU2]
    clear hU2 p4 p5 p6 p7 p8 p9 hs2
    replace B1 := B1.other ho (by omega)
    replace B3 := B3.other ho (by omega)
    replace hbW := hbU _ _ hbW (by omega)
    have hX : Ct U2 (.agg #[.bool n, .slice a xs.length c, .slice a' ys.length c']) k q := by
      obtain ⟨n0, x0, y0, ⟨e1, e2, e3, e4, e5, e6, e7⟩, e8⟩ := hX'
      exact ⟨n0, x0, y0, ⟨e1, e2, e3, e4, e5, hK _ _ _ e6, hK _ _ _ e7⟩, e8⟩
    clear hX'
    replace hx' := hK _ _ _ hx'
    replace hy' := hK _ _ _ hy'
    clear B2' hbU hK ho
    have hL2 : Lo U2 (.agg #[.bool n1, .slice b2 y1.length d2, .slice b1 x1.length d1]) l r⁻¹ := ⟨_, _, _, ⟨_, _, _, _, rfl, hy', hx'⟩, hf1.2.1, hf1.1, hv1, l2, l1, by rw [qv_inv _ _ _ hv1, he]⟩
    obtain ⟨p1, p2, p3, _⟩ := B1.cells
    obtain ⟨p4, p5, p6, _⟩ := B2.cells
    go_region_held3 (fun u => u.cell? ⟨w.heap.size, 0, none⟩ = some (.bool n) ∧ u.cell? ⟨w.heap.size, 1, none⟩ = some (.slice a xs.length c) ∧ u.cell? ⟨w.heap.size, 2, none⟩ = some (.slice a' ys.length c') ∧ u.cell? ⟨w.heap.size + 1, 0, none⟩ = some (.bool n1) ∧ u.cell? ⟨w.heap.size + 1, 1, none⟩ = some (.slice b2 y1.length d2) ∧ u.cell? ⟨w.heap.size + 1, 2, none⟩ = some (.slice b1 x1.length d1)) (first | (go_keep; done) | (refine ⟨(cell_set3 (by omega)).trans p1, (cell_set3 (by omega)).trans p2, (cell_set3 (by omega)).trans p3, (cell_set3 (by omega)).trans p4, (cell_set3 (by omega)).trans p5, (cell_set3 (by omega)).trans p6⟩))
      (first
        | (go_at_call 43
           refine (counted_any k q _ _ (hX.below Below.drew1) ?_ ?_).mono ?_
           · omega
           · omega
           rintro e u3 ⟨v3, rfl, hF3, hb3⟩
           replace hb3 : Below U2.heap.size U2 u3 := Below.drew1.trans hb3
           replace hL2 := hL2.below hb3
           replace B1 := B1.below hb3
           replace B2 := B2.below hb3
           replace B3 := B3.below hb3
           replace hbW : Below w.heap.size w u3 := hbW.trans (hb3.mono hbW.size)
           clear hb3 hX p1 p2 p3 p4 p5 p6
           obtain ⟨p1, p2, p3, _⟩ := B1.cells
           obtain ⟨p4, p5, p6, _⟩ := B2.cells)
        | (go_at_call 46
           refine (times_any k l q r⁻¹ _ _ _ hF3.lo hL2 ?_ ?_).mono ?_
           · omega
           · omega
           rintro e u4 ⟨v4, rfl, hL, hb4⟩
           replace B1 := B1.below hb4
           replace B2 := B2.below hb4
           replace B3 := B3.below hb4
           replace hbW : Below w.heap.size w u4 := hbW.trans (hb4.mono hbW.size)
           clear hb4 hF3 hL2 p1 p2 p3 p4 p5 p6
           obtain ⟨p1, p2, p3, _⟩ := B1.cells
           obtain ⟨p4, p5, p6, _⟩ := B2.cells)
        | (go_at_call 44
           refine (reduced_any (k + l) _ _ _ hL ?_).mono ?_
           · omega
           rintro e u5 ⟨v5, rfl, hF, hb5⟩
           replace B1 := B1.below hb5
           replace B2 := B2.below hb5
           replace B3 := B3.below hb5
           replace hbW : Below w.heap.size w u5 := hbW.trans (hb5.mono hbW.size)
           clear hb5 hL p1 p2 p3 p4 p5 p6
           obtain ⟨p1, p2, p3, _⟩ := B1.cells
           obtain ⟨p4, p5, p6, _⟩ := B2.cells
           obtain ⟨q1, q2, q3, q4, q5, q6⟩ := B3.cells
           have hs := B3.lt
           obtain ⟨n2, x2, y2, ⟨f1, f2, f3, f4, rfl, hx2, hy2⟩, hF⟩ := hF))
    go_wp2
    exact ret3 (v := .tuple #[.agg #[.bool n2, .slice f1 x2.length f2, .slice f3 y2.length f4], .bool true]) B3 rfl (fun U hU => by obtain ⟨r1, r2, r3, _⟩ := hU.cells; simp [results, Tryd.results18, go_sem, r1, r2, r3]) (fun U hU hK => ⟨.agg #[.bool n2, .slice f1 x2.length f2, .slice f3 y2.length f4], by simp [hr0], ⟨_, _, _, ⟨_, _, _, _, rfl, hK _ _ _ hx2, hK _ _ _ hy2⟩, by rw [Rat.div_def]; exact hF⟩, hU _ _ hbW (by omega)⟩)

end Go.Proofs.YtefdkajjdaplbaaDoor
