/-
  axes.alone, axes.side, axes.Plain: the walks.
  foundrylaw06.awake: the walk.
  foundryref06: one, Formed, Clamp, Same, SameInts: the walks.
  foundryref04.Page: put, Put8, Put16, Put32, PutBytes, PutTag, Pad, All: the walks.
  A row of axes grows by one; foundryref06: Read, Same: the walks.
-/
import Derived.Test.YtanppgmhlcifiaaDoorZ12
import Derived.Test.YtanppgmhlcifiaaDoorZ15
import Derived.Test.YtanppgmhlcifiaaDoorZ13
import Derived.Test.YtanppgmhlcifiaaDoorZ5
namespace Go.Proofs.YtanppgmhlcifiaaDoor
open Go.RowKit Go.Maps
set_option linter.unusedSimpArgs false
set_option linter.unusedVariables false

theorem wrapi64 {z : Int} (h1 : -9223372036854775808 ≤ z) (h2 : z ≤ 9223372036854775807) : IntKind.i64.wrap z = z := by
  simp only [IntKind.wrap, IntKind.bits, IntKind.signed]
  simp
  omega
/-- An axis alone. -/
theorem frA_one (t : Ax) : frA [t] = onA t := by simp [frA]
theorem as_one (w : World) (t : Ax) (ht : Axw t) : As (w.alloc (.cells (axC t) 40)) (some ⟨w.heap.size, 0, none⟩) 1 [t] := by
  refine ⟨Nat.le_refl _, by simp [maxLen], fun s hs => by rw [List.mem_singleton.1 hs]; exact ht, fun i hi => ?_⟩
  have : i = 0 := by simp at hi; omega
  subst this
  have hn : (w.alloc (.cells (axC t) 40)).heap[w.heap.size]? = some (.cells (axC t) 40 (0, 0)) := heap_alloc_new w _
  exact ⟨w.heap.size, 0, rfl, by simp, cell_of_row _ _ 0 _ _ (0, 0) hn, cell_of_row _ _ 1 _ _ (0, 0) hn, cell_of_row _ _ 2 _ _ (0, 0) hn, cell_of_row _ _ 3 _ _ (0, 0) hn⟩

set_option maxHeartbeats 400000 in
set_option maxRecDepth 100000 in
theorem alone_any (t : Ax) (w : World) (ht : Axw t) :
    Calls Tryd.prog 36 #[.agg (axC t)] w fun e w' => e = .returned (.bool (onA t)) ∧ Below w.heap.size w w' := by
  have hB := bl2 (w := w) (.cells (axC t) 40) (.cells (axC t) 40)
  have hF := cformed_any _ _ _ _ (as_one (w.alloc (.cells (axC t) 40)) t ht)
  rw [frA_one] at hF
  have hsz : (w.alloc (.cells (axC t) 40)).heap.size = w.heap.size + 1 := by simp
  simp only [List.length_cons, List.length_nil, Nat.zero_add, hsz] at hF
  generalize onA t = q at *
  obtain ⟨tx, lo, us, hi⟩ := t
  unfold axC at *
  dsimp only at *
  go_enter Tryd.func36, Tryd.ntmps36
  go_wp2_with fail
  refine hF.mono ?_
  rintro e u ⟨rfl, hb⟩
  have hB1 := hB.trans (hb.mono hB.size)
  clear hF hb hB
  go_wp2
  go_ret
  exact ⟨rfl, hB1⟩

/-- How wide a side is. -/
def sdN (t : Ax) (b : Bool) : Int := if b then t.us - t.lo else t.hi - t.us
theorem sdN_bd {t : Ax} (b : Bool) (k1 : -2147483648 ≤ t.lo) (k2 : t.lo ≤ t.us) (k3 : t.us ≤ t.hi) (k4 : t.hi ≤ 2147483647) : 0 ≤ sdN t b ∧ sdN t b ≤ 4294967295 := by
  unfold sdN
  split <;> omega
set_option maxHeartbeats 400000 in
set_option maxRecDepth 100000 in
theorem side_any (t : Ax) (b : Bool) (w : World) (k1 : -2147483648 ≤ t.lo) (k2 : t.lo ≤ t.us) (k3 : t.us ≤ t.hi) (k4 : t.hi ≤ 2147483647) :
    Calls Tryd.prog 38 #[.agg (axC t), .bool b] w fun e w' => e = .returned (.int .i64 (sdN t b)) ∧ Below w.heap.size w w' := by
  obtain ⟨tx, lo, us, hi⟩ := t
  unfold axC sdN
  dsimp only at *
  have hB := bl1 (w := w) (.cells #[.string tx, .int .i64 lo, .int .i64 us, .int .i64 hi] 40)
  cases b
  · go_enter Tryd.func38, Tryd.ntmps38
    go_wp2
    go_ret
    exact ⟨rt_int (by simp), hB⟩
  · go_enter Tryd.func38, Tryd.ntmps38
    go_wp2
    go_ret
    exact ⟨rt_int (by simp), hB⟩
theorem plQ_sdN {t : Ax} {u : Int} (h : onA t = true) : plQ t u = ((clp u t.lo t.hi - t.us : Int) : Rat) / ((sdN t (decide (clp u t.lo t.hi - t.us < 0)) : Int) : Rat) := by
  rw [plQ, if_pos h, sdQ, sdN]
  by_cases hc : clp u t.lo t.hi < t.us
  · rw [if_pos hc, decide_eq_true (by omega), if_pos rfl]
  · rw [if_neg hc, decide_eq_false (by omega)]
    rfl

set_option maxHeartbeats 2000000 in
set_option maxRecDepth 100000 in
theorem cplain_any (t : Ax) (u : Int) (w : World) (ht : Axw t) (hu : I64 u) :
    Calls Tryd.prog 19 #[.agg (axC t), .int .i64 u] w fun e w' => ∃ v', e = .returned v' ∧ Fr w' v' 2 (plQ t u) ∧ Below w.heap.size w w' := by
  have hal := fun W => alone_any t W ht
  cases h1 : onA t with
  | false =>
    have HQ : Hid (plQ t u = 0) := by show plQ t u = 0; simp [plQ, h1]
    rw [h1] at hal
    obtain ⟨tx, lo, us, hi⟩ := t
    unfold axC at hal ⊢
    dsimp only at hal ⊢
    obtain ⟨W, hW, X1, B2, hbW⟩ : ∃ W, W = (w.alloc (.cells #[.string tx, .int .i64 lo, .int .i64 us, .int .i64 hi] 40)).alloc (.cells #[.bool false, .slice none 0 0, .slice none 0 0] 44) ∧ BxA W w.heap.size (.string tx) (.int .i64 lo) (.int .i64 us) (.int .i64 hi) ∧ Box 44 W (w.heap.size + 1) (.bool false) (.slice none 0 0) (.slice none 0 0) ∧ Below w.heap.size w W := ⟨_, rfl, (BxA.new w _ _ _ _).below (bl1 _), Box.new1 _ w _ _ _ _, bl2 _ _⟩
    go_enter Tryd.func19, Tryd.ntmps19
    go_wp2_with fail
    rw [← hW]
    clear hW
    obtain ⟨p00, p01, p02, p03, _⟩ := X1.cells
    obtain ⟨p10, p11, p12, _⟩ := B2.cells
    refine (hal _).mono ?_
    rintro e u1 ⟨rfl, hb1⟩
    replace X1 := X1.below hb1
    replace B2 := B2.below hb1
    replace hbW : Below w.heap.size w u1 := hbW.trans (hb1.mono hbW.size)
    clear hb1
    clear p00 p01 p02 p03 p10 p11 p12
    obtain ⟨p00, p01, p02, p03, _⟩ := X1.cells
    obtain ⟨p10, p11, p12, _⟩ := B2.cells
    go_wp2_with fail
    refine (whole_any 0 _ (by decide) (by decide)).mono ?_
    rintro e u2 ⟨v2, rfl, hF2, hb2⟩
    replace X1 := X1.below hb2
    replace B2 := B2.below hb2
    replace hbW : Below w.heap.size w u2 := hbW.trans (hb2.mono hbW.size)
    clear hb2
    clear p00 p01 p02 p03 p10 p11 p12
    obtain ⟨p00, p01, p02, p03, _⟩ := X1.cells
    obtain ⟨p10, p11, p12, _⟩ := B2.cells
    replace hF2 := hF2.eq (r := plQ ⟨tx, lo, us, hi⟩ u) (by rw [HQ.out]; rfl)
    clear p00 p01 p02 p03 p10 p11 p12
    obtain ⟨n', xs', ys', ⟨e1, f1, e2, f2, rfl, hx', hy'⟩, hF⟩ := hF2
    have hs := B2.lt
    obtain ⟨q1, q2, q3, q4, q5, q6⟩ := B2.cells
    go_wp2
    refine ret3 (v := .agg #[.bool n', .slice e1 xs'.length f1, .slice e2 ys'.length f2]) B2 rfl (fun U hU => by obtain ⟨r1, r2, r3, _⟩ := hU.cells; simp [results, Tryd.results19, go_sem, r1, r2, r3]) (fun U hU hK => ⟨_, rfl, ⟨_, _, _, ⟨_, _, _, _, rfl, hK _ _ _ hx', hK _ _ _ hy'⟩, hF⟩, hU _ _ hbW (by omega)⟩)
  | true =>
    obtain ⟨_, k1, k2, k3, k4⟩ := onA_iff.1 h1
    have hcl := clp_in (u := u) (Int.le_trans k2 k3)
    have HQ : Hid (plQ t u = ((clp u t.lo t.hi - t.us : Int) : Rat) / ((sdN t (decide (clp u t.lo t.hi - t.us < 0)) : Int) : Rat)) := plQ_sdN h1
    rw [h1] at hal
    clear h1 ht
    obtain ⟨tx, lo, us, hi⟩ := t
    unfold axC at hal ⊢
    dsimp only at hal HQ hcl k1 k2 k3 k4 ⊢
    have hsd := fun b W => side_any ⟨tx, lo, us, hi⟩ b W k1 k2 k3 k4
    have hsb := fun b => sdN_bd (t := ⟨tx, lo, us, hi⟩) b k1 k2 k3 k4
    unfold axC at hsd
    dsimp only at hsd
    obtain ⟨c, hc⟩ : ∃ c, clp u lo hi = c := ⟨_, rfl⟩
    rw [hc] at hcl HQ
    have HC : Hid (clp u lo hi = c) := hc
    obtain ⟨hc1, hc2⟩ := hcl
    clear hc
    obtain ⟨W, hW, X1, B2, hbW⟩ : ∃ W, W = (w.alloc (.cells #[.string tx, .int .i64 lo, .int .i64 us, .int .i64 hi] 40)).alloc (.cells #[.bool false, .slice none 0 0, .slice none 0 0] 44) ∧ BxA W w.heap.size (.string tx) (.int .i64 lo) (.int .i64 us) (.int .i64 hi) ∧ Box 44 W (w.heap.size + 1) (.bool false) (.slice none 0 0) (.slice none 0 0) ∧ Below w.heap.size w W := ⟨_, rfl, (BxA.new w _ _ _ _).below (bl1 _), Box.new1 _ w _ _ _ _, bl2 _ _⟩
    go_enter Tryd.func19, Tryd.ntmps19
    go_wp2_with fail
    rw [← hW]
    clear hW
    obtain ⟨p00, p01, p02, p03, _⟩ := X1.cells
    obtain ⟨p10, p11, p12, _⟩ := B2.cells
    refine (hal _).mono ?_
    rintro e u1 ⟨rfl, hb1⟩
    replace X1 := X1.below hb1
    replace B2 := B2.below hb1
    replace hbW : Below w.heap.size w u1 := hbW.trans (hb1.mono hbW.size)
    clear hb1
    clear p00 p01 p02 p03 p10 p11 p12
    obtain ⟨p00, p01, p02, p03, _⟩ := X1.cells
    obtain ⟨p10, p11, p12, _⟩ := B2.cells
    go_wp2_with fail
    have hwr : IntKind.i64.wrap (c - us) = c - us := wrapi64 (by omega) (by omega)
    refine wp_region_held_drew (S := (fun u => u.cell? ⟨w.heap.size, 0, none⟩ = some (.string tx) ∧ u.cell? ⟨w.heap.size, 1, none⟩ = some (.int .i64 lo) ∧ u.cell? ⟨w.heap.size, 2, none⟩ = some (.int .i64 us) ∧ u.cell? ⟨w.heap.size, 3, none⟩ = some (.int .i64 hi) ∧ u.cell? ⟨(w.heap.size + 1), 0, none⟩ = some (.bool false) ∧ u.cell? ⟨(w.heap.size + 1), 1, none⟩ = some (.slice none 0 0) ∧ u.cell? ⟨(w.heap.size + 1), 2, none⟩ = some (.slice none 0 0))) (by kernel_rfl) ?_ (fun hHeld => ?_)
    · (try dsimp only)
      go_keep
    have hdr : Below u1.heap.size u1 u1.drew := Below.drew1
    generalize u1.drew = ud48 at hdr hHeld ⊢
    replace X1 := X1.below hdr
    replace B2 := B2.below hdr
    replace hbW : Below w.heap.size w ud48 := hbW.trans (hdr.mono hbW.size)
    clear hdr
    clear p00 p01 p02 p03 p10 p11 p12
    obtain ⟨p00, p01, p02, p03, _⟩ := X1.cells
    obtain ⟨p10, p11, p12, _⟩ := B2.cells
    refine hTake (i := 0) (v := ?v49) rfl (by kernel_rfl) (by kernel_rfl) (by kernel_rfl) (fun _ _ _ h => h) (Or.inl ⟨by rfl, ?y49⟩) hHeld ?r49
    case y49 =>
      intro w9 hSw
      (try dsimp only at hSw)
      go_simp
      try with_reducible rfl
    try simp only [Act.put, List.setIfInBounds_toArray, List.set_cons_zero, List.set_cons_succ]
    refine hTake (i := 1) (v := ?v50) rfl (by kernel_rfl) (by kernel_rfl) (by kernel_rfl) (fun _ _ _ h => h) (Or.inl ⟨by rfl, ?y50⟩) hHeld ?r50
    case y50 =>
      intro w9 hSw
      (try dsimp only at hSw)
      go_simp
      try with_reducible rfl
    try simp only [Act.put, List.setIfInBounds_toArray, List.set_cons_zero, List.set_cons_succ]
    refine hTake (i := 2) (v := ?v51) rfl (by kernel_rfl) (by kernel_rfl) (by kernel_rfl) (fun _ _ _ h => h) (Or.inl ⟨by rfl, ?y51⟩) hHeld ?r51
    case y51 =>
      intro w9 hSw
      (try dsimp only at hSw)
      go_simp
      try with_reducible rfl
    try simp only [Act.put, List.setIfInBounds_toArray, List.set_cons_zero, List.set_cons_succ]
    refine hTake (i := 3) (v := ?v52) rfl (by kernel_rfl) (by kernel_rfl) (by kernel_rfl) (fun _ _ _ h => h) (Or.inl ⟨by rfl, ?y52⟩) hHeld ?r52
    case y52 =>
      intro w9 hSw
      (try dsimp only at hSw)
      go_simp
      try with_reducible rfl
    try simp only [Act.put, List.setIfInBounds_toArray, List.set_cons_zero, List.set_cons_succ]
    refine hTake (i := 4) (v := ?v53) rfl (by kernel_rfl) (by kernel_rfl) (by kernel_rfl) (fun _ _ _ h => h) (Or.inl ⟨by rfl, ?y53⟩) hHeld ?r53
    case y53 =>
      intro w9 hSw
      (try dsimp only at hSw)
      go_simp
      try with_reducible rfl
    try simp only [Act.put, List.setIfInBounds_toArray, List.set_cons_zero, List.set_cons_succ]
    refine hTake (i := 6) (v := ?v54) rfl (by kernel_rfl) (by kernel_rfl) (by kernel_rfl) (fun _ _ _ h => h) (Or.inl ⟨by rfl, ?y54⟩) hHeld ?r54
    case y54 =>
      intro w9 hSw
      (try dsimp only at hSw)
      go_simp
      try with_reducible rfl
    try simp only [Act.put, List.setIfInBounds_toArray, List.set_cons_zero, List.set_cons_succ]
    refine hTake (i := 7) (v := ?v55) rfl (by kernel_rfl) (by kernel_rfl) (by kernel_rfl) (fun _ _ _ h => h) (Or.inl ⟨by rfl, ?y55⟩) hHeld ?r55
    case y55 =>
      intro w9 hSw
      (try dsimp only at hSw)
      go_simp
      try with_reducible rfl
    try simp only [Act.put, List.setIfInBounds_toArray, List.set_cons_zero, List.set_cons_succ]
    refine hCall (i := 5) rfl (by kernel_rfl) (by rfl) (fun K hK => ?_)
    go_simp
    refine (clampB_any u lo hi _).mono ?_
    rintro e u2 ⟨rfl, hb2⟩
    replace X1 := X1.below hb2
    replace B2 := B2.below hb2
    replace hbW : Below w.heap.size w u2 := hbW.trans (hb2.mono hbW.size)
    clear hb2
    rw [HC.out]
    clear p00 p01 p02 p03 p10 p11 p12
    obtain ⟨p00, p01, p02, p03, _⟩ := X1.cells
    obtain ⟨p10, p11, p12, _⟩ := B2.cells
    go_wp2_with fail
    refine hK.out _ _ ?_ (fun hHeld => ?_)
    · (try dsimp only)
      exact ⟨p00, p01, p02, p03, p10, p11, p12⟩
    clear hK K
    try simp only [Act.put, List.setIfInBounds_toArray, List.set_cons_zero, List.set_cons_succ]
    refine hTake (i := 8) (v := ?v56) rfl (by kernel_rfl) (by kernel_rfl) (by kernel_rfl) (fun _ _ _ h => h) (Or.inl ⟨by rfl, ?y56⟩) hHeld ?r56
    case y56 =>
      intro w9 hSw
      (try dsimp only at hSw)
      go_simp
      try with_reducible rfl
    try simp only [Act.put, List.setIfInBounds_toArray, List.set_cons_zero, List.set_cons_succ]
    refine hTake (i := 9) (v := ?v57) rfl (by kernel_rfl) (by kernel_rfl) (by kernel_rfl) (fun _ _ _ h => h) (Or.inl ⟨by rfl, ?y57⟩) hHeld ?r57
    case y57 =>
      intro w9 hSw
      (try dsimp only at hSw)
      go_simp
      try with_reducible rfl
    try simp only [Act.put, List.setIfInBounds_toArray, List.set_cons_zero, List.set_cons_succ]
    refine wpAnyH_done (by kernel_rfl) ?_ _
    obtain ⟨wy, hwy⟩ : ∃ x, c - us = x := ⟨_, rfl⟩
    have hw1 : -4294967296 ≤ wy ∧ wy ≤ 4294967296 := by omega
    have HW : Hid (c - us = wy) := hwy
    simp only [hwy] at HQ ⊢
    clear hwy hwr
    go_wp2_with fail
    refine (hsd (decide (wy < 0)) _).mono ?_
    rintro e u3 ⟨rfl, hb3⟩
    replace X1 := X1.below hb3
    replace B2 := B2.below hb3
    replace hbW : Below w.heap.size w u3 := hbW.trans (hb3.mono hbW.size)
    clear hb3
    clear p00 p01 p02 p03 p10 p11 p12
    obtain ⟨p00, p01, p02, p03, _⟩ := X1.cells
    obtain ⟨p10, p11, p12, _⟩ := B2.cells
    obtain ⟨sd, hsd2⟩ : ∃ x, sdN ⟨tx, lo, us, hi⟩ (decide (wy < 0)) = x := ⟨_, rfl⟩
    have hsb2 := hsb (decide (wy < 0))
    rw [hsd2] at HQ hsb2 ⊢
    clear hsd2 hsb hsd
    go_wp2_with fail
    refine (make_any wy sd _ (by omega) (by omega) (by omega) (by omega)).mono ?_
    rintro e u4 ⟨v2, rfl, hF2, hb4⟩
    replace X1 := X1.below hb4
    replace B2 := B2.below hb4
    replace hbW : Below w.heap.size w u4 := hbW.trans (hb4.mono hbW.size)
    clear hb4
    clear p00 p01 p02 p03 p10 p11 p12
    obtain ⟨p00, p01, p02, p03, _⟩ := X1.cells
    obtain ⟨p10, p11, p12, _⟩ := B2.cells
    rw [← HQ.out] at hF2
    clear p00 p01 p02 p03 p10 p11 p12
    obtain ⟨n', xs', ys', ⟨e1, f1, e2, f2, rfl, hx', hy'⟩, hF⟩ := hF2
    have hs := B2.lt
    obtain ⟨q1, q2, q3, q4, q5, q6⟩ := B2.cells
    go_wp2
    refine ret3 (v := .agg #[.bool n', .slice e1 xs'.length f1, .slice e2 ys'.length f2]) B2 rfl (fun U hU => by obtain ⟨r1, r2, r3, _⟩ := hU.cells; simp [results, Tryd.results19, go_sem, r1, r2, r3]) (fun U hU hK => ⟨_, rfl, ⟨_, _, _, ⟨_, _, _, _, rfl, hK _ _ _ hx', hK _ _ _ hy'⟩, hF⟩, hU _ _ hbW (by omega)⟩)

end Go.Proofs.YtanppgmhlcifiaaDoor

namespace Go.Proofs.YtanppgmhlcifiaaDoor
open Go.RowKit Go.Maps
set_option linter.unusedSimpArgs false
set_option linter.unusedVariables false

def wght : Ax := ⟨⟨#[119, 103, 104, 116]⟩, 100, 400, 900⟩
theorem wght_w : Axw wght := ⟨by simp [wght, maxLen, ByteArray.size], ⟨by decide, by decide⟩, ⟨by decide, by decide⟩, ⟨by decide, by decide⟩⟩
theorem wght_on : onA wght = true := by decide +kernel
theorem wght_pl : plQ wght 250 = ((-150 : Int) : Rat) / ((300 : Int) : Rat) := by
  rw [plQ_sdN wght_on]
  rfl
theorem wght_txt : txt (plQ wght 250) = [45, 49, 47, 50] := by
  rw [wght_pl]
  decide +kernel

set_option maxHeartbeats 1000000 in
set_option maxRecDepth 100000 in
theorem awake6_any (w : World) (htab : Pow w) :
    Calls Tryd.prog 7 #[] w fun e w' => e = .returned (.bool true) ∧ Below w.heap.size w w' := by
  have hp := cplain_any wght 250 w wght_w ⟨by decide, by decide⟩
  unfold axC wght at hp
  dsimp only at hp
  have HT : Hid (txt (plQ wght 250) = [45, 49, 47, 50]) := wght_txt
  unfold wght at HT
  go_enter Tryd.func7, Tryd.ntmps7
  go_wp2_with fail
  refine hp.mono ?_
  rintro e u1 ⟨v1, rfl, hF1, hb1⟩
  clear hp
  go_wp2_with fail
  refine (qtext_any 2 _ _ _ hF1.ct (by decide) (by decide) (htab.below hb1)).mono ?_
  rintro e u2 ⟨rfl, hb2⟩
  have hbW := hb1.trans (hb2.mono hb1.size)
  rw [HT.out]
  clear hb1 hb2 hF1 htab
  go_wp2
  go_ret
  exact ⟨rfl, hbW⟩

end Go.Proofs.YtanppgmhlcifiaaDoor

namespace Go.Proofs.YtanppgmhlcifiaaDoor
open Go.RowKit Go.Maps
set_option linter.unusedSimpArgs false
set_option linter.unusedVariables false

set_option maxHeartbeats 1000000 in
set_option maxRecDepth 100000 in
theorem soneA_any (t : Ax) (w : World) (ht : t.tx.size ≤ maxLen) :
    Calls Tryd.prog 27 #[.agg (axC t)] w fun e w' => e = .returned (.bool (onA t)) ∧ Below w.heap.size w w' := by
  obtain ⟨tx, lo, us, hi⟩ := t
  dsimp only at ht
  unfold axC
  dsimp only
  have HO : Hid (onA ⟨tx, lo, us, hi⟩ = (gd (sb tx) && (usr lo && (usr us && (usr hi && (decide (lo ≤ us) && decide (us ≤ hi))))))) := rfl
  have hB := bl1 (w := w) (.cells #[.string tx, .int .i64 lo, .int .i64 us, .int .i64 hi] 40)
  cases hg : gd (sb tx) with
  | false =>
    go_enter Tryd.func27, Tryd.ntmps27
    go_wp2_with fail
    refine (sgood_any tx _ ht).mono ?_
    rintro e u ⟨rfl, rfl⟩
    rw [hg]
    go_wp2
    go_ret
    exact ⟨rt_bool (by rw [HO.out, hg]; rfl), hB⟩
  | true =>
  cases h1 : usr lo with
  | false =>
    go_enter Tryd.func27, Tryd.ntmps27
    go_wp2_with fail
    refine (sgood_any tx _ ht).mono ?_
    rintro e u ⟨rfl, rfl⟩
    rw [hg]
    go_wp2_with fail
    refine (suser_any lo _).mono ?_
    rintro e u ⟨rfl, rfl⟩
    rw [h1]
    go_wp2
    go_ret
    exact ⟨rt_bool (by rw [HO.out, hg, h1]; rfl), hB⟩
  | true =>
  cases h2 : usr us with
  | false =>
    go_enter Tryd.func27, Tryd.ntmps27
    go_wp2_with fail
    refine (sgood_any tx _ ht).mono ?_
    rintro e u ⟨rfl, rfl⟩
    rw [hg]
    go_wp2_with fail
    refine (suser_any lo _).mono ?_
    rintro e u ⟨rfl, rfl⟩
    rw [h1]
    go_wp2_with fail
    refine (suser_any us _).mono ?_
    rintro e u ⟨rfl, rfl⟩
    rw [h2]
    go_wp2
    go_ret
    exact ⟨rt_bool (by rw [HO.out, hg, h1, h2]; rfl), hB⟩
  | true =>
  cases h3 : usr hi with
  | false =>
    go_enter Tryd.func27, Tryd.ntmps27
    go_wp2_with fail
    refine (sgood_any tx _ ht).mono ?_
    rintro e u ⟨rfl, rfl⟩
    rw [hg]
    go_wp2_with fail
    refine (suser_any lo _).mono ?_
    rintro e u ⟨rfl, rfl⟩
    rw [h1]
    go_wp2_with fail
    refine (suser_any us _).mono ?_
    rintro e u ⟨rfl, rfl⟩
    rw [h2]
    go_wp2_with fail
    refine (suser_any hi _).mono ?_
    rintro e u ⟨rfl, rfl⟩
    rw [h3]
    go_wp2
    go_ret
    exact ⟨rt_bool (by rw [HO.out, hg, h1, h2, h3]; rfl), hB⟩
  | true =>
  have g : (¬ lo ≤ us) ∨ (lo ≤ us ∧ ¬ us ≤ hi) ∨ (lo ≤ us ∧ us ≤ hi) := by omega
  rcases g with g1 | ⟨g1, g2⟩ | ⟨g1, g2⟩
  all_goals
    go_enter Tryd.func27, Tryd.ntmps27
    go_wp2_with fail
    refine (sgood_any tx _ ht).mono ?_
    rintro e u ⟨rfl, rfl⟩
    rw [hg]
    go_wp2_with fail
    refine (suser_any lo _).mono ?_
    rintro e u ⟨rfl, rfl⟩
    rw [h1]
    go_wp2_with fail
    refine (suser_any us _).mono ?_
    rintro e u ⟨rfl, rfl⟩
    rw [h2]
    go_wp2_with fail
    refine (suser_any hi _).mono ?_
    rintro e u ⟨rfl, rfl⟩
    rw [h3]
    go_wp2
    go_ret
    exact ⟨rt_bool (by rw [HO.out, hg, h1, h2, h3]; simp [*] <;> omega), hB⟩

set_option maxHeartbeats 2000000 in
set_option maxRecDepth 100000 in
theorem sformedA_any (a : Option Addr) (cap : Nat) (l : List Ax) (w : World) (h : As w a cap l) :
    Calls Tryd.prog 9 #[.slice a l.length cap] w fun e w' => e = .returned (.bool (frA l)) ∧ Below w.heap.size w w' := by
  have k1 := h.1
  have k2 := h.2.1
  unfold maxLen at k2
  have HF : Hid (FrA l ↔ l.length ≤ 4 ∧ ∀ j, j < l.length → onA (l.getD j Ax.none) = true ∧ ∀ i, i < j → (l.getD i Ax.none).tx ≠ (l.getD j Ax.none).tx) := FrA.iff
  by_cases hn : 4 < l.length
  · have g : (4 : Int) < (l.length : Int) := by omega
    go_enter Tryd.func9, Tryd.ntmps9
    go_wp2
    go_ret
    exact ⟨rt_bool (frA_no (fun hf => by have := (HF.out.1 hf).1; omega)).symm, Below.refl _ _⟩
  have g : ¬ (4 : Int) < (l.length : Int) := by omega
  have HH : Hid (As w a cap l) := h
  go_enter Tryd.func9, Tryd.ntmps9
  go_wp2
  go_loopw [3] (fun i wr => ∃ k : Nat, k ≤ l.length ∧ i = .int .i64 k ∧ (∀ j, j < k → onA (l.getD j Ax.none) = true ∧ ∀ i, i < j → (l.getD i Ax.none).tx ≠ (l.getD j Ax.none).tx) ∧ Below w.heap.size w wr) (fun i _ => l.length - (intOf i).toNat)
  case atStart => exact ⟨0, Nat.zero_le _, rfl, (fun j hj => by omega), Below.refl _ _⟩
  case round =>
    obtain ⟨k, hk, rfl, hok, hB⟩ := hrel
    have HOK : Hid (∀ j, j < k → onA (l.getD j Ax.none) = true ∧ ∀ i, i < j → (l.getD i Ax.none).tx ≠ (l.getD j Ax.none).tx) := hok
    clear hok
    by_cases hkn : k < l.length
    · obtain ⟨b, off, ea, hb, d1, d2, d3, d4⟩ := h.at hB k hkn
      subst ea
      have hw := h.w hkn
      have hfs := fiA_self hkn
      obtain ⟨s, hs⟩ : ∃ s, l.getD k Ax.none = s := ⟨_, rfl⟩
      have HS : Hid (l.getD k Ax.none = s) := hs
      rw [hs] at d1 d2 d3 d4 hw hfs
      have HFS : Hid (_) := hfs
      clear hs hfs h
      cases h1 : onA s with
      | false =>
        have HFN : Hid (frA l = false) := frA_no (fun hf => by
          have := ((HF.out.1 hf).2 k hkn).1
          rw [HS.out, h1] at this
          cases this)
        have hone := soneA_any s wr hw.1
        rw [h1] at hone
        obtain ⟨tx, lo, us, hi⟩ := s
        unfold axC at hone
        dsimp only at *
        go_wp2_with fail
        refine hone.mono ?_
        rintro e u ⟨rfl, hb1⟩
        go_wp2
        go_ret
        exact ⟨rt_bool HFN.out.symm, hB.trans (hb1.mono hB.size)⟩
      | true =>
        have hone := soneA_any s wr hw.1
        rw [h1] at hone
        have HSS : Hid (onA s = true) := h1
        clear h1
        obtain ⟨tx, lo, us, hi⟩ := s
        unfold axC at hone
        dsimp only at *
        by_cases hne : ∀ j, j < k → (l.getD j Ax.none).tx ≠ tx
        · have hfi := HFS.out.1 hne
          have HNE : Hid (∀ j, j < k → (l.getD j Ax.none).tx ≠ tx) := hne
          clear hne
          go_wp2_with fail
          refine hone.mono ?_
          rintro e u ⟨rfl, hb1⟩
          have hB1 := hB.trans (hb1.mono hB.size)
          have hc1 := (hb1.cell (p := ⟨b, off + k * 4, none⟩) (Nat.lt_of_lt_of_le hb hB.size)).trans d1
          clear hone hb1 d1 d2 d3 d4
          go_wp2_with fail
          refine (sfindA_any _ cap l tx _ (HH.out.below hB1)).mono ?_
          rintro e u2 ⟨rfl, rfl⟩
          rw [hfi]
          go_wp2
          go_roundw
          case rel =>
            refine ⟨k + 1, by omega, by go_num, fun j hj => ?_, hB1⟩
            rcases Nat.lt_or_ge j k with h1 | h1
            · exact HOK.out j h1
            · rw [show j = k by omega, HS.out]
              exact ⟨HSS.out, HNE.out⟩
          case measure => simp [intOf]; omega
        · obtain ⟨z1, z2⟩ := HFS.out.2 hne
          have HFN : Hid (frA l = false) := frA_no (fun hf => by
            have := ((HF.out.1 hf).2 k hkn).2
            rw [HS.out] at this
            exact hne this)
          generalize hz : fiA l tx = z at *
          have HZ : Hid (fiA l tx = z) := hz
          clear hne hz
          go_wp2_with fail
          refine hone.mono ?_
          rintro e u ⟨rfl, hb1⟩
          have hB1 := hB.trans (hb1.mono hB.size)
          have hc1 := (hb1.cell (p := ⟨b, off + k * 4, none⟩) (Nat.lt_of_lt_of_le hb hB.size)).trans d1
          clear hone hb1 d1 d2 d3 d4
          go_wp2_with fail
          refine (sfindA_any _ cap l tx _ (HH.out.below hB1)).mono ?_
          rintro e u2 ⟨rfl, rfl⟩
          rw [HZ.out]
          go_wp2
          go_ret
          exact ⟨rt_bool HFN.out.symm, hB1⟩
    · obtain rfl : k = l.length := by omega
      have hf : frA l = true := frA_iff.2 (HF.out.2 ⟨by omega, HOK.out⟩)
      go_wp2
      go_ret
      exact ⟨rt_bool hf.symm, hB⟩

end Go.Proofs.YtanppgmhlcifiaaDoor

namespace Go.Proofs.YtanppgmhlcifiaaDoor
open Go.RowKit Go.Maps
set_option linter.unusedSimpArgs false
set_option linter.unusedVariables false
theorem per1 (x : Int) : be1 (x + (255 + 1)) = be1 x := by
  simp only [be1, List.cons.injEq, and_true]
  omega
theorem per2 (x : Int) : be2 (x + (65535 + 1)) = be2 x := by
  simp only [be2, List.cons.injEq, and_true]
  omega
theorem per4 (x : Int) : be4 (x + (4294967295 + 1)) = be4 x := by
  simp only [be4, List.cons.injEq, and_true]
  omega
end Go.Proofs.YtanppgmhlcifiaaDoor

namespace Go.Proofs.YtanppgmhlcifiaaDoor
open Go.RowKit Go.Maps
set_option linter.unusedSimpArgs false
set_option linter.unusedVariables false

theorem info_ax : (Tryd.prog.info? 40).map (fun i => (i.zero, i.size, i.bytes)) = some (some (.agg #[.string ⟨#[]⟩, .int .i64 0, .int .i64 0, .int .i64 0]), 4, 40) := by kernel_rfl

/-- The cells of axes. -/
def axL : List Ax → List Value
  | [] => []
  | t :: l => [.string t.tx, .int .i64 t.lo, .int .i64 t.us, .int .i64 t.hi] ++ axL l
theorem axL_append (l m : List Ax) : axL (l ++ m) = axL l ++ axL m := by
  induction l with
  | nil => rfl
  | cons t l ih => rw [List.cons_append, axL, axL, ih, List.append_assoc]
theorem axL_len (l : List Ax) : (axL l).length = l.length * 4 := by
  induction l with
  | nil => rfl
  | cons t l ih => rw [axL, List.length_append, ih]; simp; omega
theorem axL_get : ∀ (l : List Ax) (i : Nat), i < l.length → (axL l)[i * 4]? = some (.string (l.getD i Ax.none).tx) ∧ (axL l)[i * 4 + 1]? = some (.int .i64 (l.getD i Ax.none).lo) ∧ (axL l)[i * 4 + 2]? = some (.int .i64 (l.getD i Ax.none).us) ∧ (axL l)[i * 4 + 3]? = some (.int .i64 (l.getD i Ax.none).hi) := by
  intro l
  induction l with
  | nil => intro i hi; simp at hi
  | cons t l ih =>
    intro i hi
    cases i with
    | zero => simp [axL, List.getD]
    | succ i =>
      have := ih i (by simpa using hi)
      rw [axL]
      simp only [show (i + 1) * 4 = i * 4 + 4 by omega, List.getD_cons_succ]
      simp only [List.cons_append, List.nil_append, show i * 4 + 4 + 1 = i * 4 + 1 + 4 by omega, show i * 4 + 4 + 2 = i * 4 + 2 + 4 by omega, show i * 4 + 4 + 3 = i * 4 + 3 + 4 by omega]
      simpa using this
/-- A row of axes of the call's own. -/
def Ao (base : Nat) (w : World) (v : Value) (l : List Ax) : Prop := (∀ t ∈ l, Axw t) ∧ w.ownsRow base 40 4 v l.length (axL l)
theorem Ao.nil (base : Nat) (w : World) : Ao base w (.slice none 0 0) [] := ⟨(fun t ht => by cases ht), World.ownsRow_nil w base _ 4⟩
theorem Ao.slice {base : Nat} {w : World} {v : Value} {l : List Ax} (h : Ao base w v l) : ∃ a cap, v = .slice a l.length cap ∧ As w a cap l := by
  obtain ⟨h1, h3⟩ := h
  rcases h3.2 with ⟨rfl, h0⟩ | ⟨g, cap, cur, rfl, hb, hg, hc1, hc2, hc3, ht⟩
  · have : l = [] := List.length_eq_zero_iff.1 h0
    subst this
    exact ⟨none, 0, rfl, As.nil _ _ _ (Nat.zero_le _)⟩
  · refine ⟨_, cap, rfl, hc1, hc2, h1, fun i hi => ?_⟩
    obtain ⟨k0, k1, k2, k3⟩ := axL_get l i hi
    have hadd : ∀ j, (⟨g, 0, none⟩ : Addr).add j = ⟨g, 0 + j, none⟩ := by intro j; unfold Addr.add; split <;> simp_all
    have d0 := h3.cells (g := g) rfl (i * 4) _ k0
    have d1 := h3.cells (g := g) rfl (i * 4 + 1) _ k1
    have d2 := h3.cells (g := g) rfl (i * 4 + 2) _ k2
    have d3 := h3.cells (g := g) rfl (i * 4 + 3) _ k3
    rw [hadd] at d0 d1 d2 d3
    exact ⟨g, 0, rfl, (Array.getElem?_eq_some_iff.1 hg).1, d0, d1, d2, d3⟩
theorem Ao.below {base : Nat} {w w' : World} {v : Value} {l : List Ax} (h : Ao base w v l) (hb : Below w.heap.size w w') : Ao base w' v l := by
  obtain ⟨h1, h3⟩ := h
  refine ⟨h1, h3.1, ?_⟩
  rcases h3.2 with h0 | ⟨g, cap', cur, k1, k2, k3, k4⟩
  · exact .inl h0
  · exact .inr ⟨g, cap', cur, k1, k2, (hb.block g (Array.getElem?_eq_some_iff.1 k3).1).trans k3, k4⟩
theorem Ao.lo {base : Nat} {w : World} {v : Value} {l : List Ax} (h : Ao base w v l) {g : Nat} (hg : v.ownBlock = some g) : base ≤ g := (World.ownsRow.lt h.2 g hg).1
/-- 'append(l, a)': a is laid in a block of its own first. -/
theorem wpList_append_ax {w : World} {ops : Array Oper} {rest : List Oper} {o : Oper} {a : Act} {Q : Exit → Act → World → Prop}
    (hgd : o.guard = none) (s x : Operand) (ho : o.op = .call { callee := .builtin .append, args := #[s, x], argTypes := #[22, 22] })
    (base : Nat) (v : Value) (l : List Ax) (hs : a.eval s = v) (hown : Ao base w v l) (g : Nat) (t : Ax) (hx : a.eval x = .slice (some ⟨g, 0, none⟩) 1 1)
    (c0 : w.cell? ⟨g, 0, none⟩ = some (.string t.tx)) (c1 : w.cell? ⟨g, 1, none⟩ = some (.int .i64 t.lo)) (c2 : w.cell? ⟨g, 2, none⟩ = some (.int .i64 t.us)) (c3 : w.cell? ⟨g, 3, none⟩ = some (.int .i64 t.hi))
    (ht : Axw t) (hlen : l.length + 1 ≤ 1000000) (hbase : base ≤ w.heap.size)
    (h : ∀ v' w', Ao base w' v' (l ++ [t]) → w.grownBy w' v.ownBlock → wpList Tryd.prog ops Q rest (a.put o.dst v') w') : wpList Tryd.prog ops Q (o :: rest) a w := by
  obtain ⟨i0, hi, hz0, hz1, hz2⟩ := info_parts info_ax
  refine wpList_append_own_at w hgd s x 22 ho base 40 i0 (.agg #[.string ⟨#[]⟩, .int .i64 0, .int .i64 0, .int .i64 0]) 4 40 Tryd.underlying22 hi hz0 hz1 hz2 rfl (by decide) v l.length (axL l) hs hown.2 ⟨g, 0, none⟩ 1 1 [.string t.tx, .int .i64 t.lo, .int .i64 t.us, .int .i64 t.hi] hx rfl ?_ ?_ (by unfold maxLen; omega) (by omega) hbase ?_
  · intro j u hj
    match j, hj with
    | 0, hj => simp at hj; subst hj; simpa [Addr.add] using c0
    | 1, hj => simp at hj; subst hj; simpa [Addr.add] using c1
    | 2, hj => simp at hj; subst hj; simpa [Addr.add] using c2
    | 3, hj => simp at hj; subst hj; simpa [Addr.add] using c3
  · intro u hu
    simp at hu
    rcases hu with rfl | rfl | rfl | rfl <;> rfl
  · intro v' w' k1 k2 _ _
    refine h v' w' ⟨fun s hs => ?_, ?_⟩ k2
    · rcases List.mem_append.1 hs with hs | hs
      · exact hown.1 s hs
      · rw [List.mem_singleton.1 hs]; exact ht
    · rw [axL_append, List.length_append]
      exact k1

end Go.Proofs.YtanppgmhlcifiaaDoor
