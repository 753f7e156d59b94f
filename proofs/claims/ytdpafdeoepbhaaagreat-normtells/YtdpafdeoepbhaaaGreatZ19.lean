/-
  axes.alone, axes.side, axes.Plain: the walks.
  fixed.To14, near: the walks.
  For foundrylaw02.RatioOnce: two sums in two new blocks; texts tell numbers apart.
  fixed.Between: the walk.
  foundryref01.Trim, Same; foundrylaw01.same: the walks.
-/
import Derived.Test.YtdpafdeoepbhaaaGreatZ17
import Derived.Test.YtdpafdeoepbhaaaGreatZ15
import Derived.Test.YtdpafdeoepbhaaaGreatZ7
import Derived.Test.YtdpafdeoepbhaaaGreatZ13
import Derived.Test.YtdpafdeoepbhaaaGreatZ8
import Derived.Deep.RegionHeld3
import Derived.Test.YtdpafdeoepbhaaaGreatZ2
namespace Go.Proofs.YtdpafdeoepbhaaaGreat
open Go.RowKit Go.Maps
set_option linter.unusedSimpArgs false
set_option linter.unusedVariables false

/-- An axis alone. -/
theorem frA_one (t : Ax) : frA [t] = onA t := by simp [frA]
theorem as_one (w : World) (t : Ax) (ht : Axw t) : As (w.alloc (.cells (axC t) 47)) (some ⟨w.heap.size, 0, none⟩) 1 [t] := by
  refine ⟨Nat.le_refl _, by simp [maxLen], fun s hs => by rw [List.mem_singleton.1 hs]; exact ht, fun i hi => ?_⟩
  have : i = 0 := by simp at hi; omega
  subst this
  have hn : (w.alloc (.cells (axC t) 47)).heap[w.heap.size]? = some (.cells (axC t) 47 (0, 0)) := heap_alloc_new w _
  exact ⟨w.heap.size, 0, rfl, by simp, cell_of_row _ _ 0 _ _ (0, 0) hn, cell_of_row _ _ 1 _ _ (0, 0) hn, cell_of_row _ _ 2 _ _ (0, 0) hn, cell_of_row _ _ 3 _ _ (0, 0) hn⟩

set_option maxHeartbeats 400000 in
set_option maxRecDepth 100000 in
theorem alone_any (t : Ax) (w : World) (ht : Axw t) :
    Calls Tryz.prog 43 #[.agg (axC t)] w fun e w' => e = .returned (.bool (onA t)) ∧ Below w.heap.size w w' := by
  have hB := bl2 (w := w) (.cells (axC t) 47) (.cells (axC t) 47)
  have hF := cformed_any _ _ _ _ (as_one (w.alloc (.cells (axC t) 47)) t ht)
  rw [frA_one] at hF
  have hsz : (w.alloc (.cells (axC t) 47)).heap.size = w.heap.size + 1 := by simp
  simp only [List.length_cons, List.length_nil, Nat.zero_add, hsz] at hF
  generalize onA t = q at *
  obtain ⟨tx, lo, us, hi⟩ := t
  unfold axC at *
  dsimp only at *
  go_enter Tryz.func43, Tryz.ntmps43
  go_wp2_with fail
  refine hF.mono ?_
  rintro e u ⟨rfl, hb⟩
  have hB1 := hB.trans (hb.mono hB.size)
  clear hF hb hB
  go_wp2
  go_ret
  exact ⟨rfl, hB1⟩

/-- How wide a side is. -/
def sdN (t : Ax) (b : Bool) : Int := if b then t.us - t.lo else t.hi - t.us
theorem sdN_bd {t : Ax} (b : Bool) (k1 : -2147483648 ≤ t.lo) (k2 : t.lo ≤ t.us) (k3 : t.us ≤ t.hi) (k4 : t.hi ≤ 2147483647) : 0 ≤ sdN t b ∧ sdN t b ≤ 4294967295 := by
  unfold sdN
  split <;> omega
set_option maxHeartbeats 400000 in
set_option maxRecDepth 100000 in
theorem side_any (t : Ax) (b : Bool) (w : World) (k1 : -2147483648 ≤ t.lo) (k2 : t.lo ≤ t.us) (k3 : t.us ≤ t.hi) (k4 : t.hi ≤ 2147483647) :
    Calls Tryz.prog 44 #[.agg (axC t), .bool b] w fun e w' => e = .returned (.int .i64 (sdN t b)) ∧ Below w.heap.size w w' := by
  obtain ⟨tx, lo, us, hi⟩ := t
  unfold axC sdN
  dsimp only at *
  have hB := bl1 (w := w) (.cells #[.string tx, .int .i64 lo, .int .i64 us, .int .i64 hi] 47)
  cases b
  · go_enter Tryz.func44, Tryz.ntmps44
    go_wp2
    go_ret
    exact ⟨rt_int (by simp), hB⟩
  · go_enter Tryz.func44, Tryz.ntmps44
    go_wp2
    go_ret
    exact ⟨rt_int (by simp), hB⟩
theorem plQ_sdN {t : Ax} {u : Int} (h : onA t = true) : plQ t u = ((clp u t.lo t.hi - t.us : Int) : Rat) / ((sdN t (decide (clp u t.lo t.hi - t.us < 0)) : Int) : Rat) := by
  rw [plQ, if_pos h, sdQ, sdN]
  by_cases hc : clp u t.lo t.hi < t.us
  · rw [if_pos hc, decide_eq_true (by omega), if_pos rfl]
  · rw [if_neg hc, decide_eq_false (by omega)]
    rfl

set_option maxHeartbeats 2000000 in
set_option maxRecDepth 100000 in
theorem cplain_any (t : Ax) (u : Int) (w : World) (ht : Axw t) (hu : I64 u) :
    Calls Tryz.prog 19 #[.agg (axC t), .int .i64 u] w fun e w' => ∃ v', e = .returned v' ∧ Fr w' v' 2 (plQ t u) ∧ Below w.heap.size w w' := by
  have hal := fun W => alone_any t W ht
  cases h1 : onA t with
  | false =>
    have HQ : Hid (plQ t u = 0) := by show plQ t u = 0; simp [plQ, h1]
    rw [h1] at hal
    obtain ⟨tx, lo, us, hi⟩ := t
    unfold axC at hal ⊢
    dsimp only at hal ⊢
    obtain ⟨W, hW, X1, B2, hbW⟩ : ∃ W, W = (w.alloc (.cells #[.string tx, .int .i64 lo, .int .i64 us, .int .i64 hi] 47)).alloc (.cells #[.bool false, .slice none 0 0, .slice none 0 0] 42) ∧ BxA W w.heap.size (.string tx) (.int .i64 lo) (.int .i64 us) (.int .i64 hi) ∧ Box 42 W (w.heap.size + 1) (.bool false) (.slice none 0 0) (.slice none 0 0) ∧ Below w.heap.size w W := ⟨_, rfl, (BxA.new w _ _ _ _).below (bl1 _), Box.new1 _ w _ _ _ _, bl2 _ _⟩
    go_enter Tryz.func19, Tryz.ntmps19
    go_wp2_with fail
    rw [← hW]
    clear hW
    obtain ⟨p00, p01, p02, p03, _⟩ := X1.cells
    obtain ⟨p10, p11, p12, _⟩ := B2.cells
    refine (hal _).mono ?_
    rintro e u1 ⟨rfl, hb1⟩
    replace X1 := X1.below hb1
    replace B2 := B2.below hb1
    replace hbW : Below w.heap.size w u1 := hbW.trans (hb1.mono hbW.size)
    clear hb1
    clear p00 p01 p02 p03 p10 p11 p12
    obtain ⟨p00, p01, p02, p03, _⟩ := X1.cells
    obtain ⟨p10, p11, p12, _⟩ := B2.cells
    go_wp2_with fail
    refine (whole_any 0 _ (by decide) (by decide)).mono ?_
    rintro e u2 ⟨v2, rfl, hF2, hb2⟩
    replace X1 := X1.below hb2
    replace B2 := B2.below hb2
    replace hbW : Below w.heap.size w u2 := hbW.trans (hb2.mono hbW.size)
    clear hb2
    clear p00 p01 p02 p03 p10 p11 p12
    obtain ⟨p00, p01, p02, p03, _⟩ := X1.cells
    obtain ⟨p10, p11, p12, _⟩ := B2.cells
    replace hF2 := hF2.eq (r := plQ ⟨tx, lo, us, hi⟩ u) (by rw [HQ.out]; rfl)
    clear p00 p01 p02 p03 p10 p11 p12
    obtain ⟨n', xs', ys', ⟨e1, f1, e2, f2, rfl, hx', hy'⟩, hF⟩ := hF2
    have hs := B2.lt
    obtain ⟨q1, q2, q3, q4, q5, q6⟩ := B2.cells
    go_wp2
    refine ret3 (v := .agg #[.bool n', .slice e1 xs'.length f1, .slice e2 ys'.length f2]) B2 rfl (fun U hU => by obtain ⟨r1, r2, r3, _⟩ := hU.cells; simp [results, Tryz.results19, go_sem, r1, r2, r3]) (fun U hU hK => ⟨_, rfl, ⟨_, _, _, ⟨_, _, _, _, rfl, hK _ _ _ hx', hK _ _ _ hy'⟩, hF⟩, hU _ _ hbW (by omega)⟩)
  | true =>
    obtain ⟨_, k1, k2, k3, k4⟩ := onA_iff.1 h1
    have hcl := clp_in (u := u) (Int.le_trans k2 k3)
    have HQ : Hid (plQ t u = ((clp u t.lo t.hi - t.us : Int) : Rat) / ((sdN t (decide (clp u t.lo t.hi - t.us < 0)) : Int) : Rat)) := plQ_sdN h1
    rw [h1] at hal
    clear h1 ht
    obtain ⟨tx, lo, us, hi⟩ := t
    unfold axC at hal ⊢
    dsimp only at hal HQ hcl k1 k2 k3 k4 ⊢
    have hsd := fun b W => side_any ⟨tx, lo, us, hi⟩ b W k1 k2 k3 k4
    have hsb := fun b => sdN_bd (t := ⟨tx, lo, us, hi⟩) b k1 k2 k3 k4
    unfold axC at hsd
    dsimp only at hsd
    obtain ⟨c, hc⟩ : ∃ c, clp u lo hi = c := ⟨_, rfl⟩
    rw [hc] at hcl HQ
    have HC : Hid (clp u lo hi = c) := hc
    obtain ⟨hc1, hc2⟩ := hcl
    clear hc
    obtain ⟨W, hW, X1, B2, hbW⟩ : ∃ W, W = (w.alloc (.cells #[.string tx, .int .i64 lo, .int .i64 us, .int .i64 hi] 47)).alloc (.cells #[.bool false, .slice none 0 0, .slice none 0 0] 42) ∧ BxA W w.heap.size (.string tx) (.int .i64 lo) (.int .i64 us) (.int .i64 hi) ∧ Box 42 W (w.heap.size + 1) (.bool false) (.slice none 0 0) (.slice none 0 0) ∧ Below w.heap.size w W := ⟨_, rfl, (BxA.new w _ _ _ _).below (bl1 _), Box.new1 _ w _ _ _ _, bl2 _ _⟩
    go_enter Tryz.func19, Tryz.ntmps19
    go_wp2_with fail
    rw [← hW]
    clear hW
    obtain ⟨p00, p01, p02, p03, _⟩ := X1.cells
    obtain ⟨p10, p11, p12, _⟩ := B2.cells
    refine (hal _).mono ?_
    rintro e u1 ⟨rfl, hb1⟩
    replace X1 := X1.below hb1
    replace B2 := B2.below hb1
    replace hbW : Below w.heap.size w u1 := hbW.trans (hb1.mono hbW.size)
    clear hb1
    clear p00 p01 p02 p03 p10 p11 p12
    obtain ⟨p00, p01, p02, p03, _⟩ := X1.cells
    obtain ⟨p10, p11, p12, _⟩ := B2.cells
    go_wp2_with fail
    have hwr : IntKind.i64.wrap (c - us) = c - us := wrapi64 (by omega) (by omega)
    refine wp_region_held_drew (S := (fun u => u.cell? ⟨w.heap.size, 0, none⟩ = some (.string tx) ∧ u.cell? ⟨w.heap.size, 1, none⟩ = some (.int .i64 lo) ∧ u.cell? ⟨w.heap.size, 2, none⟩ = some (.int .i64 us) ∧ u.cell? ⟨w.heap.size, 3, none⟩ = some (.int .i64 hi) ∧ u.cell? ⟨(w.heap.size + 1), 0, none⟩ = some (.bool false) ∧ u.cell? ⟨(w.heap.size + 1), 1, none⟩ = some (.slice none 0 0) ∧ u.cell? ⟨(w.heap.size + 1), 2, none⟩ = some (.slice none 0 0))) (by kernel_rfl) ?_ (fun hHeld => ?_)
    · (try dsimp only)
      go_keep
    have hdr : Below u1.heap.size u1 u1.drew := Below.drew1
    generalize u1.drew = ud48 at hdr hHeld ⊢
    replace X1 := X1.below hdr
    replace B2 := B2.below hdr
    replace hbW : Below w.heap.size w ud48 := hbW.trans (hdr.mono hbW.size)
    clear hdr
    clear p00 p01 p02 p03 p10 p11 p12
    obtain ⟨p00, p01, p02, p03, _⟩ := X1.cells
    obtain ⟨p10, p11, p12, _⟩ := B2.cells
    refine hT 0 hHeld ?_
    refine hT 1 hHeld ?_
    refine hT 2 hHeld ?_
    refine hT 3 hHeld ?_
    refine hT 4 hHeld ?_
    refine hT 6 hHeld ?_
    refine hT 7 hHeld ?_
    refine hCall (i := 5) rfl (by kernel_rfl) (by rfl) (fun K hK => ?_)
    go_simp
    refine (clampB_any u lo hi _).mono ?_
    rintro e u2 ⟨rfl, hb2⟩
    replace X1 := X1.below hb2
    replace B2 := B2.below hb2
    replace hbW : Below w.heap.size w u2 := hbW.trans (hb2.mono hbW.size)
    clear hb2
    rw [HC.out]
    clear p00 p01 p02 p03 p10 p11 p12
    obtain ⟨p00, p01, p02, p03, _⟩ := X1.cells
    obtain ⟨p10, p11, p12, _⟩ := B2.cells
    go_wp2_with fail
    refine hK.out _ _ ?_ (fun hHeld => ?_)
    · (try dsimp only)
      exact ⟨p00, p01, p02, p03, p10, p11, p12⟩
    clear hK K
    try simp only [Act.put, List.setIfInBounds_toArray, List.set_cons_zero, List.set_cons_succ]
    refine hT 8 hHeld ?_
    refine hT 9 hHeld ?_
    refine wpAnyH_done (by kernel_rfl) ?_ _
    obtain ⟨wy, hwy⟩ : ∃ x, c - us = x := ⟨_, rfl⟩
    have hw1 : -4294967296 ≤ wy ∧ wy ≤ 4294967296 := by omega
    have HW : Hid (c - us = wy) := hwy
    simp only [hwy] at HQ ⊢
    clear hwy hwr
    go_wp2_with fail
    refine (hsd (decide (wy < 0)) _).mono ?_
    rintro e u3 ⟨rfl, hb3⟩
    replace X1 := X1.below hb3
    replace B2 := B2.below hb3
    replace hbW : Below w.heap.size w u3 := hbW.trans (hb3.mono hbW.size)
    clear hb3
    clear p00 p01 p02 p03 p10 p11 p12
    obtain ⟨p00, p01, p02, p03, _⟩ := X1.cells
    obtain ⟨p10, p11, p12, _⟩ := B2.cells
    obtain ⟨sd, hsd2⟩ : ∃ x, sdN ⟨tx, lo, us, hi⟩ (decide (wy < 0)) = x := ⟨_, rfl⟩
    have hsb2 := hsb (decide (wy < 0))
    rw [hsd2] at HQ hsb2 ⊢
    clear hsd2 hsb hsd
    go_wp2_with fail
    refine (make_any wy sd _ (by omega) (by omega) (by omega) (by omega)).mono ?_
    rintro e u4 ⟨v2, rfl, hF2, hb4⟩
    replace X1 := X1.below hb4
    replace B2 := B2.below hb4
    replace hbW : Below w.heap.size w u4 := hbW.trans (hb4.mono hbW.size)
    clear hb4
    clear p00 p01 p02 p03 p10 p11 p12
    obtain ⟨p00, p01, p02, p03, _⟩ := X1.cells
    obtain ⟨p10, p11, p12, _⟩ := B2.cells
    rw [← HQ.out] at hF2
    clear p00 p01 p02 p03 p10 p11 p12
    obtain ⟨n', xs', ys', ⟨e1, f1, e2, f2, rfl, hx', hy'⟩, hF⟩ := hF2
    have hs := B2.lt
    obtain ⟨q1, q2, q3, q4, q5, q6⟩ := B2.cells
    go_wp2
    refine ret3 (v := .agg #[.bool n', .slice e1 xs'.length f1, .slice e2 ys'.length f2]) B2 rfl (fun U hU => by obtain ⟨r1, r2, r3, _⟩ := hU.cells; simp [results, Tryz.results19, go_sem, r1, r2, r3]) (fun U hU hK => ⟨_, rfl, ⟨_, _, _, ⟨_, _, _, _, rfl, hK _ _ _ hx', hK _ _ _ hy'⟩, hF⟩, hU _ _ hbW (by omega)⟩)

end Go.Proofs.YtdpafdeoepbhaaaGreat

namespace Go.Proofs.YtdpafdeoepbhaaaGreat
open Go.RowKit
set_option linter.unusedSimpArgs false
set_option linter.unusedVariables false

theorem c14_big {q : Rat} {z : Int} (hz : (q * 16384 + 1 / 2).floor = z) (h : flB z = false) : c14 z = 16384 * sgnQ q := by
  have h1 : ¬ (-9223372036854775808 ≤ z ∧ z < 9223372036854775808) := by unfold flB at h; simpa using h
  have f1 := Rat.floor_le (q * 16384 + 1 / 2)
  have f2 := Rat.lt_floor (x := q * 16384 + 1 / 2)
  rw [hz] at f1 f2
  by_cases h2 : z < 0
  · have h3 : z ≤ -2 := by omega
    have hq : q < 0 := by
      have h4 : ((z : Int) : Rat) ≤ ((-2 : Int) : Rat) := Rat.intCast_le_intCast.2 h3
      grind
    have h0 : q ≠ 0 := by grind
    unfold sgnQ c14
    rw [if_neg h0, if_pos hq, if_pos (by omega)]
    rfl
  · have h3 : 2 ≤ z := by omega
    have hq : ¬ q < 0 := by
      have h4 : ((2 : Int) : Rat) ≤ ((z : Int) : Rat) := Rat.intCast_le_intCast.2 h3
      grind
    have h0 : q ≠ 0 := by
      have h4 : ((2 : Int) : Rat) ≤ ((z : Int) : Rat) := Rat.intCast_le_intCast.2 h3
      grind
    unfold sgnQ c14
    rw [if_neg h0, if_neg hq, if_neg (by omega), if_pos (by omega)]
    rfl

set_option maxHeartbeats 1000000 in
set_option maxRecDepth 100000 in
theorem to14_any (k : Nat) (q : Rat) (v : Value) (w : World) (h : Ct w v k q) (hk : k ≤ 10000000) (hk2 : 2 ≤ k) :
    Calls Tryz.prog 14 #[v] w fun e w' => e = .returned (.int .i64 (to14 q)) ∧ Below w.heap.size w w' := by
  have hX := h
  obtain ⟨n, xs, ys, ⟨a, c, a', c', rfl, _, _⟩, hz1⟩ := h
  clear hz1
  obtain ⟨z, hz⟩ : ∃ z, (q * 16384 + 1 / 2).floor = z := ⟨_, rfl⟩
  unfold to14
  rw [hz]
  have HZ : Hid ((q * 16384 + 1 / 2).floor = z) := hz
  have HS : Hid (flB z = false → c14 z = 16384 * sgnQ q) := c14_big hz
  clear hz
  go_enter Tryz.func14, Tryz.ntmps14
  go_wp2_with fail
  obtain ⟨W, hW, B1, hbW⟩ : ∃ W, W = w.alloc (.cells #[.bool n, .slice a xs.length c, .slice a' ys.length c'] 42) ∧ Box 42 W w.heap.size (.bool n) (.slice a xs.length c) (.slice a' ys.length c') ∧ Below w.heap.size w W := ⟨_, rfl, Box.new _ _ _ _ _, al1 _⟩
  rw [← hW]
  clear hW
  replace hX := hX.below hbW
  obtain ⟨p1, p2, p3, _⟩ := B1.cells
  go_region_held3 (fun u => u.cell? ⟨w.heap.size, 0, none⟩ = some (.bool n) ∧ u.cell? ⟨w.heap.size, 1, none⟩ = some (.slice a xs.length c) ∧ u.cell? ⟨w.heap.size, 2, none⟩ = some (.slice a' ys.length c')) (go_keep)
    (first
      | (go_at_call 30
         refine (whole_any 16384 _ (by decide) (by decide)).mono ?_
         rintro e u1 ⟨v1, rfl, hF1, hb1⟩
         replace hb1 : Below W.heap.size W u1 := Below.drew1.trans hb1
         replace hX := hX.below hb1
         replace B1 := B1.below hb1
         replace hbW : Below w.heap.size w u1 := hbW.trans (hb1.mono hbW.size)
         clear hb1 p1 p2 p3
         obtain ⟨p1, p2, p3, _⟩ := B1.cells)
      | (go_at_call 29
         refine (qmul_any k 2 q ((16384 : Int) : Rat) _ _ _ hX hF1.ct ?_ (by decide) hk2 (by decide)).mono ?_
         · omega
         rintro e u2 ⟨v2, rfl, hF2, hb2⟩
         replace hX := hX.below hb2
         replace B1 := B1.below hb2
         replace hbW : Below w.heap.size w u2 := hbW.trans (hb2.mono hbW.size)
         clear hb2 hF1 p1 p2 p3
         obtain ⟨p1, p2, p3, _⟩ := B1.cells)
      | (go_at_call 28
         refine (qround_any (k + 2) (q * ((16384 : Int) : Rat)) _ _ hF2.ct ?_ ?_).mono ?_
         · omega
         · omega
         rintro e u3 ⟨rfl, hb3⟩
         replace hX := hX.below hb3
         replace B1 := B1.below hb3
         replace hbW : Below w.heap.size w u3 := hbW.trans (hb3.mono hbW.size)
         rw [show (q * ((16384 : Int) : Rat) + 1 / 2).floor = z from HZ.out]
         clear hb3 hF2 p1 p2 p3
         obtain ⟨p1, p2, p3, _⟩ := B1.cells))
  by_cases hf : flB z = true
  · have e2 : flN z = z := by unfold flN; rw [if_pos hf]
    rw [hf, e2]
    clear e2 hf
    go_wp2
    go_ret
    exact ⟨ret_num (by unfold c14; split <;> (try split) <;> omega), hbW⟩
  · have e1 : flB z = false := by simpa using hf
    have e2 := HS.out e1
    have e3 : sgnQ q = -1 ∨ sgnQ q = 0 ∨ sgnQ q = 1 := by unfold sgnQ; split <;> (try split) <;> simp
    have E2 : Hid (c14 z = 16384 * sgnQ q) := e2
    clear e2
    rw [e1]
    clear hf e1
    go_wp2_with fail
    refine (qsign_any k q _ _ hX (by omega) hk2).mono ?_
    rintro e u4 ⟨rfl, hb4⟩
    replace hbW : Below w.heap.size w u4 := hbW.trans (hb4.mono hbW.size)
    generalize sgnQ q = s at *
    have s1 : -1 ≤ s := by omega
    have s2 : s ≤ 1 := by omega
    go_wp2
    go_ret
    exact ⟨ret_num (by rw [E2.out]), hbW⟩

/-- A number that Between takes. -/
def nr (z : Int) : Bool := decide (-1099511627776 ≤ z ∧ z ≤ 1099511627776)

end Go.Proofs.YtdpafdeoepbhaaaGreat

namespace Go.Proofs.YtdpafdeoepbhaaaGreat
open Go.RowKit Go.Lib Classical
set_option linter.unusedSimpArgs false
set_option linter.unusedVariables false

theorem cell_alloc1 {u : World} {o : Obj} {k i : Nat} (hk : k < u.heap.size) : (u.alloc o).cell? ⟨k, i, none⟩ = u.cell? ⟨k, i, none⟩ :=
  World.cell?_of_block (w := u) (a := ⟨k, i, none⟩) (Below.heap_alloc _ _ _ hk)
theorem cell_alloc2 {u : World} {o o' : Obj} {k i : Nat} (hk : k < u.heap.size) : ((u.alloc o).alloc o').cell? ⟨k, i, none⟩ = u.cell? ⟨k, i, none⟩ :=
  (cell_alloc1 (by simp; omega)).trans (cell_alloc1 hk)
theorem cell_s2 {u : World} {b b' : Nat} {x y z x' y' z' : Value} {k i : Nat} (hk : k ≠ b) (hk' : k ≠ b') :
    ((((((u.setCell ⟨b, 0, none⟩ x).setCell ⟨b, 1, none⟩ y).setCell ⟨b, 2, none⟩ z).setCell ⟨b', 0, none⟩ x').setCell ⟨b', 1, none⟩ y').setCell ⟨b', 2, none⟩ z').cell? ⟨k, i, none⟩ = u.cell? ⟨k, i, none⟩ :=
  (cell_set3 hk').trans (cell_set3 hk)
theorem cell_sa {u : World} {b : Nat} {x y z : Value} {o : Obj} {k i : Nat} (hk : k ≠ b) (hk' : k < u.heap.size) :
    ((((u.setCell ⟨b, 0, none⟩ x).setCell ⟨b, 1, none⟩ y).setCell ⟨b, 2, none⟩ z).alloc o).cell? ⟨k, i, none⟩ = u.cell? ⟨k, i, none⟩ :=
  (cell_alloc1 (by simpa [World.setCell] using hk')).trans (cell_set3 hk)
theorem sto_new' (t : TypeId) (u : World) (x y z : Value) {k : Nat} (h : u.heap.size = k) : Sto t u (u.alloc (.cells #[x, y, z] t)) k x y z := h ▸ sto_new t u x y z
/-- Two blocks, one behind the other. -/
theorem Sto.two {t : TypeId} {u U V : World} {b b' : Nat} {x y z x' y' z' : Value} (s : Sto t u U b x y z) (r : Sto t U V b' x' y' z') (h : b ≠ b') :
    ∃ W, W = V ∧ Box t W b x y z ∧ Box t W b' x' y' z' ∧ (∀ B w, Below B w u → B ≤ b → B ≤ b' → Below B w W) ∧ (∀ a c xs, Rd u a c xs → Rd W a c xs) ∧ (∀ t' k x y z, k ≠ b → k ≠ b' → Box t' u k x y z → Box t' W k x y z) :=
  ⟨V, rfl, r.2.2.2 _ _ _ _ _ h s.1, r.1, fun _ _ hb h1 h2 => r.2.1 _ _ (s.2.1 _ _ hb h1) h2, fun _ _ _ hr => r.2.2.1 _ _ _ (s.2.2.1 _ _ _ hr), fun _ _ _ _ _ h1 h2 hB => r.2.2.2 _ _ _ _ _ h2 (s.2.2.2 _ _ _ _ _ h1 hB)⟩
theorem Ct.keep {u U : World} {v : Value} {k : Nat} {q : Rat} (h : Ct u v k q) (hK : ∀ a c xs, Rd u a c xs → Rd U a c xs) : Ct U v k q := by
  obtain ⟨n0, x0, y0, ⟨e1, e2, e3, e4, e5, e6, e7⟩, e8⟩ := h
  exact ⟨n0, x0, y0, ⟨e1, e2, e3, e4, e5, hK _ _ _ e6, hK _ _ _ e7⟩, e8⟩
theorem after2d {t s : TypeId} {w u : World} {x y z x' y' z' : Value} (hb : Below ((w.alloc (.cells #[x, y, z] t)).alloc (.cells #[x', y', z'] s)).drew.heap.size ((w.alloc (.cells #[x, y, z] t)).alloc (.cells #[x', y', z'] s)).drew u) :
    Box t u w.heap.size x y z ∧ Box s u (w.heap.size + 1) x' y' z' ∧ Below w.heap.size w u := after2 (Below.drew1.trans hb)

theorem formedF_any (k : Nat) (q : Rat) (v : Value) (w : World) (h : Fr w v k q) (hk : k ≤ 400000000) :
    Calls Tryz.prog 91 #[v] w fun e w' => e = .returned (.bool true) ∧ Below w.heap.size w w' := by
  obtain ⟨n, xs, ys, ⟨a, c, a', c', rfl, hx, hy⟩, hf, lx, ly, _⟩ := h
  refine (formed_any _ _ _ _ _ _ _ _ hx hy (by omega) (by omega)).mono ?_
  rintro e u ⟨rfl, hb⟩
  exact ⟨ret_bool (decide_eq_true hf), hb⟩

/-- Two formed writings of one number. -/
def Two (w : World) (n : Bool) (a : Option Addr) (c : Nat) (xs : List Nat) (a' : Option Addr) (c' : Nat) (ys : List Nat) (m : Bool) (b : Option Addr) (d : Nat) (ps : List Nat) (b' : Option Addr) (d' : Nat) (qs : List Nat) (q : Rat) : Prop :=
  Rd w a c xs ∧ Rd w a' c' ys ∧ Rd w b d ps ∧ Rd w b' d' qs ∧ Fmd n xs ys ∧ xs.length ≤ 9 ∧ ys.length ≤ 9 ∧ qv n xs ys = q ∧ Fmd m ps qs ∧ ps.length ≤ 9 ∧ qs.length ≤ 9 ∧ qv m ps qs = q

end Go.Proofs.YtdpafdeoepbhaaaGreat

namespace Go.Proofs.YtdpafdeoepbhaaaGreat
open Go.RowKit
set_option linter.unusedSimpArgs false
set_option linter.unusedVariables false

/-- All four are near. -/
def nr4 (a b n d : Int) : Bool := [a, b, n, d].all nr
/-- The fraction between. -/
def btw (a b n d : Int) : Rat := if nr4 a b n d = true then (a : Rat) + ((b - a : Int) : Rat) * ((n : Rat) / (d : Rat)) else 0
theorem nr4_all {a b n d : Int} (h : nr4 a b n d = true) : (-1099511627776 ≤ a ∧ a ≤ 1099511627776) ∧ (-1099511627776 ≤ b ∧ b ≤ 1099511627776) ∧ (-1099511627776 ≤ n ∧ n ≤ 1099511627776) ∧ (-1099511627776 ≤ d ∧ d ≤ 1099511627776) := by
  simp [nr4, nr] at h
  omega

end Go.Proofs.YtdpafdeoepbhaaaGreat

namespace Go.Proofs.YtdpafdeoepbhaaaGreat
open Go.RowKit
set_option linter.unusedSimpArgs false
set_option linter.unusedVariables false

set_option maxHeartbeats 800000 in
set_option maxRecDepth 100000 in
theorem rtrim_any (a : Option Addr) (cap : Nat) (xs : List Nat) (w : World) (h : Rd w a cap xs) (hl : xs.length ≤ 1000000000) :
    Calls Tryz.prog 113 #[.slice a xs.length cap] w fun e w' => ∃ a' cap', e = .returned (.slice a' (strip xs).length cap') ∧ Res 90 w.heap.size w' a' cap' (strip xs) ∧ Below w.heap.size w w' := by
  obtain ⟨i0, hi, hz0, hz1, hz2⟩ := info_parts info_limb
  have hsl := strip_length_le xs
  have hc2 : xs.length ≤ cap := h.le
  have hc3 : cap ≤ maxLen := h.cap
  unfold maxLen at hc3
  have hst := h.strip
  have lst := h.lim.strip
  have fm := h.fm
  clear h
  go_enter Tryz.func113, Tryz.ntmps113
  go_wp2
  go_loop [3] (fun n => ∃ k : Nat, k ≤ xs.length ∧ n = .int .i64 k ∧ strip (xs.take k) = strip xs) (fun n => (intOf n).toNat)
  case atStart => exact ⟨xs.length, Nat.le_refl _, rfl, by rw [List.take_length]⟩
  case round =>
    obtain ⟨k, hk, rfl, hs0⟩ := hrel
    have HS : Hid (strip (xs.take k) = strip xs) := hs0
    clear hs0
    by_cases hk0 : k = 0
    · subst hk0
      have e0 : strip xs = [] := by rw [← HS.out]; rfl
      rw [e0] at hst lst
      have E0 : Hid (strip xs = []) := e0
      clear e0 HS
      go_wp2_with (at_builtin; refine wpList_append_rd rfl _ _ 43 rfl w.heap.size 90 i0 Tryz.underlying43 hi hz0 hz1 hz2 _ 0 [] rfl (World.ownsRow_nil _ _ _ _) a cap 0 [] ?_ rfl hst (by simp) (Nat.le_refl _) ?_)
      intro v' w1 hown hgrow
      obtain ⟨a', cap', rfl, hres⟩ := Res.of (xs := []) Lim.nil hown
      go_wp2
      go_ret
      exact ⟨a', cap', by rw [E0.out]; rfl, by rw [E0.out]; exact hres, (Below.refl _ _).grown hgrow (Nat.le_refl _) (fun k hk => by simp [Value.ownBlock] at hk)⟩
    · obtain ⟨j, rfl⟩ : ∃ j, k = j + 1 := ⟨k - 1, by omega⟩
      obtain ⟨b, off, rfl, _, hcj⟩ := fm.at (Below.refl _ _) j (by omega)
      obtain ⟨x, hx⟩ : ∃ x, xs.getD j 0 = x := ⟨_, rfl⟩
      rw [hx] at hcj
      have HX : Hid (xs.getD j 0 = x) := hx
      clear hx
      by_cases hx0 : x = 0
      · subst hx0
        go_wp2
        go_round
        case rel => exact ⟨j, by omega, rfl, by rw [← HS.out, strip_take_zero xs j (by omega) HX.out]⟩
        case measure => simp [intOf]
      · have hx1 : ((x : Int) == 0) = false := by simp; omega
        have e : strip xs = xs.take (j + 1) := by rw [← HS.out]; exact strip_take_some xs j (by omega) (by rw [HX.out]; exact hx0)
        have el : j + 1 = (strip xs).length := by rw [e]; simp; omega
        have EL : Hid (j + 1 = (strip xs).length) := el
        clear e el
        go_wp2_with (at_builtin; refine wpList_append_rd rfl _ _ 43 rfl w.heap.size 90 i0 Tryz.underlying43 hi hz0 hz1 hz2 _ 0 [] rfl (World.ownsRow_nil _ _ _ _) (some ⟨b, off, none⟩) cap (j + 1) (strip xs) rfl EL.out hst (by omega) (Nat.le_refl _) ?_)
        intro v' w1 hown hgrow
        obtain ⟨a', cap', rfl, hres⟩ := Res.of lst hown
        go_wp2
        go_ret
        exact ⟨a', cap', rfl, hres, (Below.refl _ _).grown hgrow (Nat.le_refl _) (fun k hk => by simp [Value.ownBlock] at hk)⟩

set_option maxHeartbeats 800000 in
set_option maxRecDepth 100000 in
/-- Two slices that read alike are told to be the same. -/
theorem rsame_any (a b : Option Addr) (ca cb : Nat) (xs : List Nat) (w : World) (ha : Rd w a ca xs) (hb : Rd w b cb xs) :
    Calls Tryz.prog 27 #[.slice a xs.length ca, .slice b xs.length cb] w fun e w' => e = .returned (.bool true) ∧ Below w.heap.size w w' := by
  have k1 := ha.le
  have k2 := ha.cap
  unfold maxLen at k2
  have fa := ha.fm
  have fb := hb.fm
  clear ha hb
  have hne : ((xs.length : Int) != (xs.length : Int)) = false := by simp
  go_enter Tryz.func27, Tryz.ntmps27
  go_wp2
  go_loopw [5] (fun i wr => ∃ k : Nat, k ≤ xs.length ∧ i = .int .i64 k ∧ Below w.heap.size w wr) (fun i _ => xs.length - (intOf i).toNat)
  case atStart => exact ⟨0, Nat.zero_le _, rfl, Below.refl _ _⟩
  case round =>
    obtain ⟨k, hk, rfl, hnx⟩ := hrel
    by_cases hkn : k < xs.length
    · obtain ⟨b1, o1, rfl, _, c1⟩ := fa.at hnx k hkn
      obtain ⟨b2, o2, rfl, _, c2⟩ := fb.at hnx k hkn
      obtain ⟨x, hx⟩ : ∃ x, xs.getD k 0 = x := ⟨_, rfl⟩
      rw [hx] at c1 c2
      have hxx : ((x : Int) != (x : Int)) = false := by simp
      clear hx
      have i1 : (0 : Int) ≤ (k : Int) := by omega
      have i2 : (k : Int) < (xs.length : Int) := by omega
      go_wp2_with fail
      go_quiet (fail)
      go_wp2
      go_roundw
      case rel => exact ⟨k + 1, by omega, by go_num, below_drewN hnx _⟩
      case measure => simp [intOf]; omega
    · go_wp2
      go_ret
      exact ⟨rfl, hnx⟩

end Go.Proofs.YtdpafdeoepbhaaaGreat
