/-
  (*strokes.pen).do, by what is done: the walks.
  strokes.Formed: the walk.
  Pens: what stays within bounds while they draw (plain mathematics).
-/
import Derived.Test.YtkbbdkecillnpaaGreatZY23
import Derived.Test.YtkbbdkecillnpaaGreatZY18
import Derived.Test.YtkbbdkecillnpaaGreatZY6
namespace Go.Proofs.YtkbbdkecillnpaaGreat
open Go.RowKit Go.Maps
set_option linter.unusedSimpArgs false
set_option linter.unusedVariables false

theorem Co.lo {base : Nat} {w : World} {v : Value} {o : List (List Pn)} (h : Co base w v o) {q : Nat} (hq : v.ownBlock = some q) : base ≤ q ∧ q < w.heap.size := by
  obtain ⟨L, -, h2, -⟩ := h
  exact h2.lo hq
/-- The numbers of a step are fields. -/
def F6 (N : List Int) : Prop := ∀ k, k < 6 → -32768 ≤ N.getD k 0 ∧ N.getD k 0 ≤ 32767
/-- A contour begins. -/
theorem putL_new (o : List (List Pn)) (q : Pn) : putL (o ++ [[]]) q = o ++ [[q]] := putL_snoc o [] q
theorem last_new (o : List (List Pn)) : (o ++ [[]]).getD ((o ++ [[]]).length - 1) ([] : List Pn) = [] := by
  rw [List.length_append, List.length_singleton, Nat.add_sub_cancel]
  simp [List.getD]
theorem last_put (o : List (List Pn)) (q : Pn) (hne : o ≠ []) : ((putL o q).getD ((putL o q).length - 1) []).length = (o.getD (o.length - 1) []).length + 1 ∧ putL o q ≠ [] := by
  have h1 := List.length_pos_iff.2 hne
  constructor
  · rw [putL_len]
    unfold putL
    rw [List.getD_eq_getElem?_getD, List.getElem?_set_self (by omega), Option.getD_some, List.length_append, List.length_singleton]
  · intro e
    have := congrArg List.length e
    rw [putL_len] at this
    simp at this
    exact hne this

set_option maxHeartbeats 4000000 in
set_option maxRecDepth 100000 in
theorem do2_any (B : Nat) (d0 d1 d2 d3 : Value) (x y st : Int) (N : List Int) (v : Value) (out : List (List Pn)) (xa : Option Addr) (xc : Nat) (z : Int) (w : World) (hP : Bk 62 w B (pC d0 d1 d2 d3 x y st N v)) (hC : Co (B + 1) w v out) (hN : F6 N) (hx1 : -50000000 ≤ x) (hx2 : x ≤ 50000000) (hy1 : -50000000 ≤ y) (hy2 : y ≤ 50000000) (hne : out ≠ []) (hcl : (out.getD (out.length - 1) []).length ≤ 50000) :
    Calls Tryz.prog 43 #[.pointer (some ⟨B, 0, none⟩), .agg #[.int .i64 2, .slice xa 2 xc], .int .i64 z] w fun e w' => e = .returned (.int .i64 0) ∧ (∃ v', Bk 62 w' B (pC d0 d1 d2 d3 (x + N.getD 0 0) (y + N.getD 1 0) st N v') ∧ Co (B + 1) w' v' (putL out ⟨x + N.getD 0 0, y + N.getD 1 0, true⟩)) ∧ Below B w w' := by
  obtain ⟨W, hW, X1, hbW⟩ : ∃ W, W = w.alloc (.cells #[.int .i64 2, .slice xa 2 xc] 50) ∧ Bk 50 W w.heap.size [.int .i64 2, .slice xa 2 xc] ∧ Below w.heap.size w W := ⟨_, rfl, Bk.new _ _ _, bl1 _⟩
  obtain ⟨q0, q1, -⟩ := X1.two
  have hBw : B < w.heap.size := hP.lt
  have HCW : Hid (∀ q, v.ownBlock = some q → q < w.heap.size) := fun q hq => (hC.lo hq).2
  replace hP := hP.below hbW
  replace hC := hC.below hbW
  have hBW : Below B w W := hbW.mono (by omega)
  go_enter Tryz.func43, Tryz.ntmps43
  go_upto_region 1 with fail
  rw [← hW]
  clear hW
  obtain ⟨a9, c9, e9, h9, -⟩ := hC.slice
  have k9 := h9.lenB
  have hpos := List.length_pos_iff.2 hne
  subst e9
  have g9 : ((out.length : Int) == 0) = false := beq_eq_false_iff_ne.2 (by omega)
  have hv0 : W.cell? ⟨B, 13, none⟩ = some (.slice a9 out.length c9) := hP.cell 13 (by show 13 < 14; omega)
  clear h9
  go_wp2
  clear q0 q1 hv0 X1 hbW g9
  refine wp_loop_rounds 2 ?_
  rw [rounds_succ]
  have ha0 : W.cell? ⟨B, 7, none⟩ = some (.int .i64 (N.getD 0 0)) := hP.cell 7 (by show 7 < 14; omega)
  have hb0 : W.cell? ⟨B, 8, none⟩ = some (.int .i64 (N.getD 1 0)) := hP.cell 8 (by show 8 < 14; omega)
  have hw0 : IntKind.i64.wrap 1 = 1 := by decide
  have na0 := hN 0 (by omega)
  have nb0 := hN 1 (by omega)
  have hmv0 := fun Uq (hU : Below W.heap.size W Uq) => move_any B d0 d1 d2 d3 x y st N (.slice a9 out.length c9) out (N.getD 0 0) (N.getD 1 0) true Uq (hP.below hU) (hC.below hU) hne (by omega) (by omega) (by omega) (by omega) na0.1 na0.2 nb0.1 nb0.2 (by omega)
  go_upto_region 13 with fail
  refine wp_region_held_drew (S := fun w9 => w9.cell? ⟨B, 7, none⟩ = some (.int .i64 (N.getD 0 0)) ∧ w9.cell? ⟨B, 8, none⟩ = some (.int .i64 (N.getD 1 0))) (by kernel_rfl) ?_ (fun hHeld => ?_)
  · (try dsimp only)
    go_keep
  have hdr0 : Below W.heap.size W W.drew := Below.drew1
  have hmw0 := hmv0 _ hdr0
  replace hBW := hBW.trans (hdr0.mono (Nat.le_of_lt hP.lt))
  generalize W.drew = Z0 at hdr0 hHeld hmw0 hBW ⊢
  clear hmv0 ha0 hb0 hP hC hdr0
  refine hT 0 hHeld ?_
  refine hT 1 hHeld ?_
  refine hT 2 hHeld ?_
  refine hT 3 hHeld ?_
  refine hT 4 hHeld ?_
  refine hT 5 hHeld ?_
  refine hT 6 hHeld ?_
  refine hT 7 hHeld ?_
  refine hT 8 hHeld ?_
  refine hT 9 hHeld ?_
  refine hT 10 hHeld ?_
  refine hT 11 hHeld ?_
  refine hT 12 hHeld ?_
  refine hT 13 hHeld ?_
  refine hT 14 hHeld ?_
  refine hT 15 hHeld ?_
  refine hT 16 hHeld ?_
  refine hCall (i := 17) rfl (by kernel_rfl) (by rfl) (fun K hK => ?_)
  go_simp
  refine hmw0.mono ?_
  rintro e m1 ⟨rfl, hP, hC, hb⟩
  replace hBW := hBW.trans hb
  clear hmw0 hb
  go_wp2_with fail
  refine hK.out _ _ ?_ (fun hHeld => ?_)
  · (try dsimp only)
    exact ⟨hP.cell 7 (by show 7 < 14; omega), hP.cell 8 (by show 8 < 14; omega)⟩
  clear hK K
  try simp only [Act.put, List.setIfInBounds_toArray, List.set_cons_zero, List.set_cons_succ]
  refine wpAnyH_done (by kernel_rfl) ?_ _
  clear hHeld
  obtain ⟨hl0, hne⟩ := last_put out ⟨x + N.getD 0 0, y + N.getD 1 0, true⟩ hne
  go_wp2
  rw [rounds_succ]
  go_wp2
  go_ret
  exact ⟨rfl, ⟨_, hP, hC⟩, hBW⟩

set_option maxHeartbeats 4000000 in
set_option maxRecDepth 100000 in
theorem do3_any (B : Nat) (d0 d1 d2 d3 : Value) (x y st : Int) (N : List Int) (v : Value) (out : List (List Pn)) (xa : Option Addr) (xc : Nat) (z : Int) (w : World) (hP : Bk 62 w B (pC d0 d1 d2 d3 x y st N v)) (hC : Co (B + 1) w v out) (hN : F6 N) (hx1 : -50000000 ≤ x) (hx2 : x ≤ 50000000) (hy1 : -50000000 ≤ y) (hy2 : y ≤ 50000000) (hne : out ≠ []) (hcl : (out.getD (out.length - 1) []).length ≤ 50000) :
    Calls Tryz.prog 43 #[.pointer (some ⟨B, 0, none⟩), .agg #[.int .i64 3, .slice xa 6 xc], .int .i64 z] w fun e w' => e = .returned (.int .i64 0) ∧ (∃ v', Bk 62 w' B (pC d0 d1 d2 d3 (((x + N.getD 0 0) + N.getD 2 0) + N.getD 4 0) (((y + N.getD 1 0) + N.getD 3 0) + N.getD 5 0) st N v') ∧ Co (B + 1) w' v' (putL (putL (putL out ⟨x + N.getD 0 0, y + N.getD 1 0, false⟩) ⟨(x + N.getD 0 0) + N.getD 2 0, (y + N.getD 1 0) + N.getD 3 0, false⟩) ⟨((x + N.getD 0 0) + N.getD 2 0) + N.getD 4 0, ((y + N.getD 1 0) + N.getD 3 0) + N.getD 5 0, true⟩)) ∧ Below B w w' := by
  obtain ⟨W, hW, X1, hbW⟩ : ∃ W, W = w.alloc (.cells #[.int .i64 3, .slice xa 6 xc] 50) ∧ Bk 50 W w.heap.size [.int .i64 3, .slice xa 6 xc] ∧ Below w.heap.size w W := ⟨_, rfl, Bk.new _ _ _, bl1 _⟩
  obtain ⟨q0, q1, -⟩ := X1.two
  have hBw : B < w.heap.size := hP.lt
  have HCW : Hid (∀ q, v.ownBlock = some q → q < w.heap.size) := fun q hq => (hC.lo hq).2
  replace hP := hP.below hbW
  replace hC := hC.below hbW
  have hBW : Below B w W := hbW.mono (by omega)
  go_enter Tryz.func43, Tryz.ntmps43
  go_upto_region 1 with fail
  rw [← hW]
  clear hW
  obtain ⟨a9, c9, e9, h9, -⟩ := hC.slice
  have k9 := h9.lenB
  have hpos := List.length_pos_iff.2 hne
  subst e9
  have g9 : ((out.length : Int) == 0) = false := beq_eq_false_iff_ne.2 (by omega)
  have hv0 : W.cell? ⟨B, 13, none⟩ = some (.slice a9 out.length c9) := hP.cell 13 (by show 13 < 14; omega)
  clear h9
  go_wp2
  clear q0 q1 hv0 X1 hbW g9
  refine wp_loop_rounds 4 ?_
  rw [rounds_succ]
  have ha0 : W.cell? ⟨B, 7, none⟩ = some (.int .i64 (N.getD 0 0)) := hP.cell 7 (by show 7 < 14; omega)
  have hb0 : W.cell? ⟨B, 8, none⟩ = some (.int .i64 (N.getD 1 0)) := hP.cell 8 (by show 8 < 14; omega)
  have hw0 : IntKind.i64.wrap 1 = 1 := by decide
  have na0 := hN 0 (by omega)
  have nb0 := hN 1 (by omega)
  have hmv0 := fun Uq (hU : Below W.heap.size W Uq) => move_any B d0 d1 d2 d3 x y st N (.slice a9 out.length c9) out (N.getD 0 0) (N.getD 1 0) false Uq (hP.below hU) (hC.below hU) hne (by omega) (by omega) (by omega) (by omega) na0.1 na0.2 nb0.1 nb0.2 (by omega)
  go_upto_region 13 with fail
  refine wp_region_held_drew (S := fun w9 => w9.cell? ⟨B, 7, none⟩ = some (.int .i64 (N.getD 0 0)) ∧ w9.cell? ⟨B, 8, none⟩ = some (.int .i64 (N.getD 1 0))) (by kernel_rfl) ?_ (fun hHeld => ?_)
  · (try dsimp only)
    go_keep
  have hdr0 : Below W.heap.size W W.drew := Below.drew1
  have hmw0 := hmv0 _ hdr0
  replace hBW := hBW.trans (hdr0.mono (Nat.le_of_lt hP.lt))
  generalize W.drew = Z0 at hdr0 hHeld hmw0 hBW ⊢
  clear hmv0 ha0 hb0 hP hC hdr0
  refine hT 0 hHeld ?_
  refine hT 1 hHeld ?_
  refine hT 2 hHeld ?_
  refine hT 3 hHeld ?_
  refine hT 4 hHeld ?_
  refine hT 5 hHeld ?_
  refine hT 6 hHeld ?_
  refine hT 7 hHeld ?_
  refine hT 8 hHeld ?_
  refine hT 9 hHeld ?_
  refine hT 10 hHeld ?_
  refine hT 11 hHeld ?_
  refine hT 12 hHeld ?_
  refine hT 13 hHeld ?_
  refine hT 14 hHeld ?_
  refine hT 15 hHeld ?_
  refine hT 16 hHeld ?_
  refine hCall (i := 17) rfl (by kernel_rfl) (by rfl) (fun K hK => ?_)
  go_simp
  refine hmw0.mono ?_
  rintro e m1 ⟨rfl, hP, hC, hb⟩
  replace hBW := hBW.trans hb
  clear hmw0 hb
  go_wp2_with fail
  refine hK.out _ _ ?_ (fun hHeld => ?_)
  · (try dsimp only)
    exact ⟨hP.cell 7 (by show 7 < 14; omega), hP.cell 8 (by show 8 < 14; omega)⟩
  clear hK K
  try simp only [Act.put, List.setIfInBounds_toArray, List.set_cons_zero, List.set_cons_succ]
  refine wpAnyH_done (by kernel_rfl) ?_ _
  clear hHeld
  obtain ⟨hl0, hne⟩ := last_put out ⟨x + N.getD 0 0, y + N.getD 1 0, false⟩ hne
  go_wp2
  rw [rounds_succ]
  have ha1 : m1.cell? ⟨B, 9, none⟩ = some (.int .i64 (N.getD 2 0)) := hP.cell 9 (by show 9 < 14; omega)
  have hb1 : m1.cell? ⟨B, 10, none⟩ = some (.int .i64 (N.getD 3 0)) := hP.cell 10 (by show 10 < 14; omega)
  have hw1 : IntKind.i64.wrap 3 = 3 := by decide
  have na1 := hN 2 (by omega)
  have nb1 := hN 3 (by omega)
  have hmv1 := fun Uq (hU : Below m1.heap.size m1 Uq) => move_any B d0 d1 d2 d3 (x + N.getD 0 0) (y + N.getD 1 0) st N (.slice a9 out.length c9) (putL out ⟨x + N.getD 0 0, y + N.getD 1 0, false⟩) (N.getD 2 0) (N.getD 3 0) false Uq (hP.below hU) (hC.below hU) hne (by omega) (by omega) (by omega) (by omega) na1.1 na1.2 nb1.1 nb1.2 (by omega)
  go_upto_region 13 with fail
  refine wp_region_held_drew (S := fun w9 => w9.cell? ⟨B, 9, none⟩ = some (.int .i64 (N.getD 2 0)) ∧ w9.cell? ⟨B, 10, none⟩ = some (.int .i64 (N.getD 3 0))) (by kernel_rfl) ?_ (fun hHeld => ?_)
  · (try dsimp only)
    go_keep
  have hdr1 : Below m1.heap.size m1 m1.drew := Below.drew1
  have hmw1 := hmv1 _ hdr1
  replace hBW := hBW.trans (hdr1.mono (Nat.le_of_lt hP.lt))
  generalize m1.drew = Z1 at hdr1 hHeld hmw1 hBW ⊢
  clear hmv1 ha1 hb1 hP hC hdr1
  refine hT 0 hHeld ?_
  refine hT 1 hHeld ?_
  refine hT 2 hHeld ?_
  refine hT 3 hHeld ?_
  refine hT 4 hHeld ?_
  refine hT 5 hHeld ?_
  refine hT 6 hHeld ?_
  refine hT 7 hHeld ?_
  refine hT 8 hHeld ?_
  refine hT 9 hHeld ?_
  refine hT 10 hHeld ?_
  refine hT 11 hHeld ?_
  refine hT 12 hHeld ?_
  refine hT 13 hHeld ?_
  refine hT 14 hHeld ?_
  refine hT 15 hHeld ?_
  refine hT 16 hHeld ?_
  refine hCall (i := 17) rfl (by kernel_rfl) (by rfl) (fun K hK => ?_)
  go_simp
  refine hmw1.mono ?_
  rintro e m2 ⟨rfl, hP, hC, hb⟩
  replace hBW := hBW.trans hb
  clear hmw1 hb
  go_wp2_with fail
  refine hK.out _ _ ?_ (fun hHeld => ?_)
  · (try dsimp only)
    exact ⟨hP.cell 9 (by show 9 < 14; omega), hP.cell 10 (by show 10 < 14; omega)⟩
  clear hK K
  try simp only [Act.put, List.setIfInBounds_toArray, List.set_cons_zero, List.set_cons_succ]
  refine wpAnyH_done (by kernel_rfl) ?_ _
  clear hHeld
  obtain ⟨hl1, hne⟩ := last_put (putL out ⟨x + N.getD 0 0, y + N.getD 1 0, false⟩) ⟨(x + N.getD 0 0) + N.getD 2 0, (y + N.getD 1 0) + N.getD 3 0, false⟩ hne
  go_wp2
  rw [rounds_succ]
  have ha2 : m2.cell? ⟨B, 11, none⟩ = some (.int .i64 (N.getD 4 0)) := hP.cell 11 (by show 11 < 14; omega)
  have hb2 : m2.cell? ⟨B, 12, none⟩ = some (.int .i64 (N.getD 5 0)) := hP.cell 12 (by show 12 < 14; omega)
  have hw2 : IntKind.i64.wrap 5 = 5 := by decide
  have na2 := hN 4 (by omega)
  have nb2 := hN 5 (by omega)
  have hmv2 := fun Uq (hU : Below m2.heap.size m2 Uq) => move_any B d0 d1 d2 d3 ((x + N.getD 0 0) + N.getD 2 0) ((y + N.getD 1 0) + N.getD 3 0) st N (.slice a9 out.length c9) (putL (putL out ⟨x + N.getD 0 0, y + N.getD 1 0, false⟩) ⟨(x + N.getD 0 0) + N.getD 2 0, (y + N.getD 1 0) + N.getD 3 0, false⟩) (N.getD 4 0) (N.getD 5 0) true Uq (hP.below hU) (hC.below hU) hne (by omega) (by omega) (by omega) (by omega) na2.1 na2.2 nb2.1 nb2.2 (by omega)
  go_upto_region 13 with fail
  refine wp_region_held_drew (S := fun w9 => w9.cell? ⟨B, 11, none⟩ = some (.int .i64 (N.getD 4 0)) ∧ w9.cell? ⟨B, 12, none⟩ = some (.int .i64 (N.getD 5 0))) (by kernel_rfl) ?_ (fun hHeld => ?_)
  · (try dsimp only)
    go_keep
  have hdr2 : Below m2.heap.size m2 m2.drew := Below.drew1
  have hmw2 := hmv2 _ hdr2
  replace hBW := hBW.trans (hdr2.mono (Nat.le_of_lt hP.lt))
  generalize m2.drew = Z2 at hdr2 hHeld hmw2 hBW ⊢
  clear hmv2 ha2 hb2 hP hC hdr2
  refine hT 0 hHeld ?_
  refine hT 1 hHeld ?_
  refine hT 2 hHeld ?_
  refine hT 3 hHeld ?_
  refine hT 4 hHeld ?_
  refine hT 5 hHeld ?_
  refine hT 6 hHeld ?_
  refine hT 7 hHeld ?_
  refine hT 8 hHeld ?_
  refine hT 9 hHeld ?_
  refine hT 10 hHeld ?_
  refine hT 11 hHeld ?_
  refine hT 12 hHeld ?_
  refine hT 13 hHeld ?_
  refine hT 14 hHeld ?_
  refine hT 15 hHeld ?_
  refine hT 16 hHeld ?_
  refine hCall (i := 17) rfl (by kernel_rfl) (by rfl) (fun K hK => ?_)
  go_simp
  refine hmw2.mono ?_
  rintro e m3 ⟨rfl, hP, hC, hb⟩
  replace hBW := hBW.trans hb
  clear hmw2 hb
  go_wp2_with fail
  refine hK.out _ _ ?_ (fun hHeld => ?_)
  · (try dsimp only)
    exact ⟨hP.cell 11 (by show 11 < 14; omega), hP.cell 12 (by show 12 < 14; omega)⟩
  clear hK K
  try simp only [Act.put, List.setIfInBounds_toArray, List.set_cons_zero, List.set_cons_succ]
  refine wpAnyH_done (by kernel_rfl) ?_ _
  clear hHeld
  obtain ⟨hl2, hne⟩ := last_put (putL (putL out ⟨x + N.getD 0 0, y + N.getD 1 0, false⟩) ⟨(x + N.getD 0 0) + N.getD 2 0, (y + N.getD 1 0) + N.getD 3 0, false⟩) ⟨((x + N.getD 0 0) + N.getD 2 0) + N.getD 4 0, ((y + N.getD 1 0) + N.getD 3 0) + N.getD 5 0, true⟩ hne
  go_wp2
  rw [rounds_succ]
  go_wp2
  go_ret
  exact ⟨rfl, ⟨_, hP, hC⟩, hBW⟩

set_option maxHeartbeats 4000000 in
set_option maxRecDepth 100000 in
theorem do1_any (B : Nat) (d0 d1 d2 d3 : Value) (x y st : Int) (N : List Int) (v : Value) (out : List (List Pn)) (xa : Option Addr) (xc : Nat) (z : Int) (w : World) (hP : Bk 62 w B (pC d0 d1 d2 d3 x y st N v)) (hC : Co (B + 1) w v out) (hN : F6 N) (hx1 : -50000000 ≤ x) (hx2 : x ≤ 50000000) (hy1 : -50000000 ≤ y) (hy2 : y ≤ 50000000) (hol : out.length ≤ 1000) :
    Calls Tryz.prog 43 #[.pointer (some ⟨B, 0, none⟩), .agg #[.int .i64 1, .slice xa 2 xc], .int .i64 z] w fun e w' => e = .returned (.int .i64 0) ∧ (∃ v', Bk 62 w' B (pC d0 d1 d2 d3 (x + N.getD 0 0) (y + N.getD 1 0) st N v') ∧ Co (B + 1) w' v' (putL (out ++ [[]]) ⟨x + N.getD 0 0, y + N.getD 1 0, true⟩)) ∧ Below B w w' := by
  obtain ⟨W, hW, X1, hbW⟩ : ∃ W, W = w.alloc (.cells #[.int .i64 1, .slice xa 2 xc] 50) ∧ Bk 50 W w.heap.size [.int .i64 1, .slice xa 2 xc] ∧ Below w.heap.size w W := ⟨_, rfl, Bk.new _ _ _, bl1 _⟩
  obtain ⟨q0, q1, -⟩ := X1.two
  have hBw : B < w.heap.size := hP.lt
  have HCW : Hid (∀ q, v.ownBlock = some q → q < w.heap.size) := fun q hq => (hC.lo hq).2
  replace hP := hP.below hbW
  replace hC := hC.below hbW
  have hBW : Below B w W := hbW.mono (by omega)
  go_enter Tryz.func43, Tryz.ntmps43
  go_upto_region 1 with fail
  rw [← hW]
  clear hW
  obtain ⟨a9, c9, e9, -, -⟩ := hC.slice
  subst e9
  have hlo := fun q hq => (hC.lo (q := q) hq)
  have hv0 : W.cell? ⟨B, 13, none⟩ = some (.slice a9 out.length c9) := hP.cell 13 (by show 13 < 14; omega)
  obtain ⟨V, hV, Y9, hbv⟩ : ∃ V, V = W.alloc (.cells #[.slice none 0 0] 55) ∧ Bk 55 V W.heap.size [.slice none 0 0] ∧ Below W.heap.size W V := ⟨_, rfl, Bk.new _ _ _, bl1 _⟩
  have hws : w.heap.size < W.heap.size := X1.lt
  have hvs := hbv.size
  have y90 := Y9.cell 0 (by simp)
  have hCV := hC.below hbv
  have hPV := hP.below hbv
  have hXV := X1.below hbv
  have hBV := hBW.trans (hbv.mono (by omega))
  have hst : (Value.slice a9 out.length c9).ownBlock ≠ some w.heap.size := fun e => by
    have h1 := HCW.out w.heap.size e
    omega
  have hnb : (Value.slice a9 out.length c9).ownBlock ≠ some B := fun e => by
    have h1 := (hlo B e).1
    omega
  go_wp2_with (at_builtin; rw [← hV]; refine wpList_append_co rfl _ _ rfl (B + 1) _ out rfl hCV W.heap.size rfl Y9.lt y90 (by omega) (by omega) ?_)
  intro v9 w9 hT9 hgrow hlo9
  rw [← hV] at hgrow
  obtain ⟨va, vc, e9, -, -⟩ := hT9.slice
  subst e9
  obtain ⟨on, hon⟩ : ∃ on, out ++ [[]] = on := ⟨_, rfl⟩
  have hne : on ≠ [] := fun e => by rw [e] at hon; simp at hon
  have hcl : (on.getD (on.length - 1) []).length ≤ 50000 := by rw [← hon, last_new]; exact Nat.zero_le _
  rw [hon] at hT9 ⊢
  have HON : Hid (out ++ [[]] = on) := hon
  have hP9 := hPV.grown hgrow hnb
  have hX9 := hXV.grown hgrow hst
  have hB9 : Below B w w9 := hBV.grown hgrow (by omega) (fun q hq => by have h1 := hlo9 q hq; omega)
  have hfz := hP9.fz 13
  have hv9 : w9.cell? ⟨B, 13, none⟩ = some (.slice a9 out.length c9) := hP9.cell 13 (by show 13 < 14; omega)
  obtain ⟨U, hU, hP, hC, hXU, hBW⟩ : ∃ U, U = w9.setCell ⟨B, 13, none⟩ (.slice va on.length vc) ∧ Bk 62 U B (pC d0 d1 d2 d3 x y st N (.slice va on.length vc)) ∧ Co (B + 1) U (.slice va on.length vc) on ∧ Bk 50 U w.heap.size [.int .i64 1, .slice xa 2 xc] ∧ Below B w U := ⟨_, rfl, hP9.set 13 _, hT9.set (Nat.lt_succ_self _), hX9.other 13 _ (by omega), hB9.setCell (p := ⟨B, 13, none⟩) (Nat.le_refl _) _⟩
  clear hon hT9 hgrow hlo9 hPV hCV hXV hBV hst hnb hP9 hX9 hB9 hv0 q0 q1 hbv Y9 y90 hlo hV
  obtain ⟨q0, q1, -⟩ := hXU.two
  go_upto_region 9 with fail
  rw [← hU]
  clear hU hv9 hfz
  go_wp2
  clear q0 q1 X1 hbW hXU
  refine wp_loop_rounds 2 ?_
  rw [rounds_succ]
  have ha0 : U.cell? ⟨B, 7, none⟩ = some (.int .i64 (N.getD 0 0)) := hP.cell 7 (by show 7 < 14; omega)
  have hb0 : U.cell? ⟨B, 8, none⟩ = some (.int .i64 (N.getD 1 0)) := hP.cell 8 (by show 8 < 14; omega)
  have hw0 : IntKind.i64.wrap 1 = 1 := by decide
  have na0 := hN 0 (by omega)
  have nb0 := hN 1 (by omega)
  have hmv0 := fun Uq (hU : Below U.heap.size U Uq) => move_any B d0 d1 d2 d3 x y st N (.slice va on.length vc) on (N.getD 0 0) (N.getD 1 0) true Uq (hP.below hU) (hC.below hU) hne (by omega) (by omega) (by omega) (by omega) na0.1 na0.2 nb0.1 nb0.2 (by omega)
  go_upto_region 13 with fail
  refine wp_region_held_drew (S := fun w9 => w9.cell? ⟨B, 7, none⟩ = some (.int .i64 (N.getD 0 0)) ∧ w9.cell? ⟨B, 8, none⟩ = some (.int .i64 (N.getD 1 0))) (by kernel_rfl) ?_ (fun hHeld => ?_)
  · (try dsimp only)
    go_keep
  have hdr0 : Below U.heap.size U U.drew := Below.drew1
  have hmw0 := hmv0 _ hdr0
  replace hBW := hBW.trans (hdr0.mono (Nat.le_of_lt hP.lt))
  generalize U.drew = Z0 at hdr0 hHeld hmw0 hBW ⊢
  clear hmv0 ha0 hb0 hP hC hdr0
  refine hT 0 hHeld ?_
  refine hT 1 hHeld ?_
  refine hT 2 hHeld ?_
  refine hT 3 hHeld ?_
  refine hT 4 hHeld ?_
  refine hT 5 hHeld ?_
  refine hT 6 hHeld ?_
  refine hT 7 hHeld ?_
  refine hT 8 hHeld ?_
  refine hT 9 hHeld ?_
  refine hT 10 hHeld ?_
  refine hT 11 hHeld ?_
  refine hT 12 hHeld ?_
  refine hT 13 hHeld ?_
  refine hT 14 hHeld ?_
  refine hT 15 hHeld ?_
  refine hT 16 hHeld ?_
  refine hCall (i := 17) rfl (by kernel_rfl) (by rfl) (fun K hK => ?_)
  go_simp
  refine hmw0.mono ?_
  rintro e m1 ⟨rfl, hP, hC, hb⟩
  replace hBW := hBW.trans hb
  clear hmw0 hb
  go_wp2_with fail
  refine hK.out _ _ ?_ (fun hHeld => ?_)
  · (try dsimp only)
    exact ⟨hP.cell 7 (by show 7 < 14; omega), hP.cell 8 (by show 8 < 14; omega)⟩
  clear hK K
  try simp only [Act.put, List.setIfInBounds_toArray, List.set_cons_zero, List.set_cons_succ]
  refine wpAnyH_done (by kernel_rfl) ?_ _
  clear hHeld
  obtain ⟨hl0, hne⟩ := last_put on ⟨x + N.getD 0 0, y + N.getD 1 0, true⟩ hne
  go_wp2
  rw [rounds_succ]
  go_wp2
  go_ret
  rw [HON.out]
  exact ⟨rfl, ⟨_, hP, hC⟩, hBW⟩

set_option maxHeartbeats 1000000 in
set_option maxRecDepth 100000 in
theorem do4_deep (B : Nat) (xa : Option Addr) (xn xc : Nat) (w : World) (hB : B ≤ w.heap.size) :
    Calls Tryz.prog 43 #[.pointer (some ⟨B, 0, none⟩), .agg #[.int .i64 4, .slice xa xn xc], .int .i64 10] w fun e w' => e = .returned (.int .i64 6) ∧ Below B w w' := by
  obtain ⟨W, hW, X1, hbW⟩ : ∃ W, W = w.alloc (.cells #[.int .i64 4, .slice xa xn xc] 50) ∧ Bk 50 W w.heap.size [.int .i64 4, .slice xa xn xc] ∧ Below w.heap.size w W := ⟨_, rfl, Bk.new _ _ _, bl1 _⟩
  obtain ⟨q0, q1, -⟩ := X1.two
  go_enter Tryz.func43, Tryz.ntmps43
  go_upto_region 1 with fail
  rw [← hW]
  clear hW
  go_wp2
  go_ret
  exact ⟨rfl, hbW.mono hB⟩
set_option maxHeartbeats 1000000 in
set_option maxRecDepth 100000 in
theorem do4_any (B : Nat) (d0 d1 d2 d3 : Value) (x y st : Int) (N : List Int) (v : Value) (xa : Option Addr) (xn xc : Nat) (z : Int) (w : World) (hP : Bk 62 w B (pC d0 d1 d2 d3 x y st N v)) (hz : 0 ≤ z) (hz2 : z < 10) (T : Ending → World → Prop)
    (hc : ∀ U, Below w.heap.size w U → Calls Tryz.prog 25 #[.pointer (some ⟨B, 0, none⟩), .int .i64 (N.getD 0 0), .int .i64 (z + 1)] U (fun e w' => (∃ q, e = .returned (.int .i64 q)) ∧ T e w')) :
    Calls Tryz.prog 43 #[.pointer (some ⟨B, 0, none⟩), .agg #[.int .i64 4, .slice xa xn xc], .int .i64 z] w T := by
  obtain ⟨W, hW, X1, hbW⟩ : ∃ W, W = w.alloc (.cells #[.int .i64 4, .slice xa xn xc] 50) ∧ Bk 50 W w.heap.size [.int .i64 4, .slice xa xn xc] ∧ Below w.heap.size w W := ⟨_, rfl, Bk.new _ _ _, bl1 _⟩
  obtain ⟨q0, q1, -⟩ := X1.two
  have hcW := hc W hbW
  have hv : W.cell? ⟨B, 7, none⟩ = some (.int .i64 (N.getD 0 0)) := (hP.below hbW).cell 7 (by show 7 < 14; omega)
  generalize N.getD 0 0 = a at *
  have g1 : (z == 10) = false := beq_eq_false_iff_ne.2 (by omega)
  clear hc hP
  go_enter Tryz.func43, Tryz.ntmps43
  go_upto_region 1 with fail
  rw [← hW]
  clear hW
  go_wp2_with fail
  refine hcW.mono ?_
  rintro e u ⟨⟨q, rfl⟩, hT⟩
  clear hcW
  go_wp2
  exact hT
set_option maxHeartbeats 1000000 in
set_option maxRecDepth 100000 in
theorem do_none (B : Nat) (d0 d1 d2 d3 : Value) (x y st : Int) (N : List Int) (v : Value) (d : Int) (xa : Option Addr) (xn xc : Nat) (z : Int) (w : World) (hP : Bk 62 w B (pC d0 d1 d2 d3 x y st N v)) (hC : Co (B + 1) w v []) (hd : d = 2 ∨ d = 3) :
    Calls Tryz.prog 43 #[.pointer (some ⟨B, 0, none⟩), .agg #[.int .i64 d, .slice xa xn xc], .int .i64 z] w fun e w' => e = .returned (.int .i64 1) ∧ Below B w w' := by
  obtain ⟨W, hW, X1, hbW⟩ : ∃ W, W = w.alloc (.cells #[.int .i64 d, .slice xa xn xc] 50) ∧ Bk 50 W w.heap.size [.int .i64 d, .slice xa xn xc] ∧ Below w.heap.size w W := ⟨_, rfl, Bk.new _ _ _, bl1 _⟩
  obtain ⟨a9, c9, e9, -, -⟩ := hC.slice
  subst e9
  have hBw : B ≤ w.heap.size := Nat.le_of_lt hP.lt
  have hv : W.cell? ⟨B, 13, none⟩ = some (.slice a9 0 c9) := (hP.below hbW).cell 13 (by show 13 < 14; omega)
  clear hP hC
  rcases hd with rfl | rfl
  · obtain ⟨q0, q1, -⟩ := X1.two
    go_enter Tryz.func43, Tryz.ntmps43
    go_upto_region 1 with fail
    rw [← hW]
    clear hW
    go_wp2
    go_ret
    exact ⟨rfl, hbW.mono hBw⟩
  · obtain ⟨q0, q1, -⟩ := X1.two
    go_enter Tryz.func43, Tryz.ntmps43
    go_upto_region 1 with fail
    rw [← hW]
    clear hW
    go_wp2
    go_ret
    exact ⟨rfl, hbW.mono hBw⟩

end Go.Proofs.YtkbbdkecillnpaaGreat

namespace Go.Proofs.YtkbbdkecillnpaaGreat
open Go.RowKit Go.Maps
set_option linter.unusedSimpArgs false
set_option linter.unusedVariables false

set_option maxHeartbeats 4000000 in
set_option maxRecDepth 100000 in
theorem formD_any (S : Nat → Prop) (a : Option Addr) (ca : Nat) (l : List (List Sp)) (ga : Option Addr) (gc : Nat) (ma : Option Addr) (mc : Nat) (s : Sr) (w : World) (hl : Gr SpE.row S w a ca l) (k2 : s.rw.length ≤ 9223372036854775807) :
    Calls Tryz.prog 11 #[.slice a l.length ca, .agg #[.slice ga s.rg.length gc, .slice ma s.rw.length mc]] w fun e w' => e = .returned (.bool (foD (fiS s) l)) ∧ Below w.heap.size w w' := by
  have kl := hl.lenB
  obtain ⟨W, hW, X1, hbW⟩ : ∃ W, W = w.alloc (.cells #[.slice ga s.rg.length gc, .slice ma s.rw.length mc] 26) ∧ Bk 26 W w.heap.size [.slice ga s.rg.length gc, .slice ma s.rw.length mc] ∧ Below w.heap.size w W := ⟨_, rfl, Bk.new _ _ _, bl1 _⟩
  by_cases hn1 : 20 < l.length
  · have HF : Hid (foD (fiS s) l = false) := foD_no1 hn1
    have g2 : (20 : Int) < (l.length : Int) := by omega
    go_enter Tryz.func11, Tryz.ntmps11
    go_upto_region 1 with fail
    rw [← hW]
    clear hW
    go_wp2
    go_ret
    exact ⟨rt_bool HF.out.symm, hbW⟩
  have g2 : ¬ (20 : Int) < (l.length : Int) := by omega
  have HL : Hid (Gr SpE.row S W a ca l) := hl.below hbW
  have HX1 : Hid (Bk 26 W w.heap.size [.slice ga s.rg.length gc, .slice ma s.rw.length mc]) := X1
  have HBW : Hid (Below w.heap.size w W) := hbW
  go_enter Tryz.func11, Tryz.ntmps11
  go_upto_region 1 with fail
  rw [← hW]
  clear hW hl X1 hbW
  go_wp2
  clear g2
  go_loopw [14] (fun i wr => ∃ k : Nat, k ≤ l.length ∧ i = .int .i64 k ∧ Hid (∀ j, j < k → drF (fiS s) l.length (l.getD j []) = true) ∧ Below W.heap.size W wr) (fun i _ => l.length - (intOf i).toNat)
  case atStart => exact ⟨0, Nat.zero_le _, rfl, (fun j hj => by omega), Below.refl _ _⟩
  case round =>
    obtain ⟨k, hk, rfl, HOK, hB⟩ := hrel
    have hBw : Below w.heap.size w wr := HBW.out.trans (hB.mono HBW.out.size)
    by_cases hkn : k < l.length
    · obtain ⟨b1, off, a1, c1, ea, hb1, c0, hd, hdl, -⟩ := HL.out.rw hB k hkn
      have HBad : Hid (drF (fiS s) l.length (l.getD k []) = false → foD (fiS s) l = false) := foD_no2 hkn
      obtain ⟨d, hdd⟩ : ∃ d, l.getD k [] = d := ⟨_, rfl⟩
      have HDD : Hid (l.getD k [] = d) := hdd
      rw [hdd] at c0 hd hdl HBad
      subst ea
      clear hdd
      have i1 : (0 : Int) ≤ (k : Int) := by omega
      have i2 : (k : Int) < (l.length : Int) := by omega
      by_cases hd6 : 60 < d.length
      · have g3 : (60 : Int) < (d.length : Int) := by omega
        have HF : Hid (foD (fiS s) l = false) := HBad.out (drF_no1 hd6)
        clear HBad HOK
        go_wp2
        go_ret
        exact ⟨rt_bool HF.out.symm, hBw⟩
      have g3 : ¬ (60 : Int) < (d.length : Int) := by omega
      have HD : Hid (Gr SpE S wr a1 c1 d) := hd
      have HB : Hid (Below W.heap.size W wr) := hB
      obtain ⟨wq, hwq⟩ : ∃ u, u = wr := ⟨_, rfl⟩
      rw [← hwq] at HD HB
      rw [← hwq] at c0 ⊢
      clear hd hB hBw hwq
      go_wp2
      clear c0 g3
      go_loopw [23] (fun i wr => ∃ j : Nat, j ≤ d.length ∧ i = .int .i64 j ∧ Hid (∀ i, i < j → spF (fiS s) l.length (d.getD i Sp.none) = true) ∧ Below wq.heap.size wq wr) (fun i _ => d.length - (intOf i).toNat)
      case atStart => exact ⟨0, Nat.zero_le _, rfl, (fun j hj => by omega), Below.refl _ _⟩
      case round =>
        obtain ⟨j, hj, rfl, HOJ, hC⟩ := hrel
        have hB : Below W.heap.size W wr := HB.out.trans (hC.mono HB.out.size)
        have hBw : Below w.heap.size w wr := HBW.out.trans (hB.mono HBW.out.size)
        by_cases hjn : j < d.length
        · obtain ⟨b2, of2, a2, c2, ea2, hb2, hI, d0, d1, hsl, hsl2⟩ := HD.out.sp hC j hjn
          have HBad2 : Hid (spF (fiS s) l.length (d.getD j Sp.none) = false → foD (fiS s) l = false) := fun h => HBad.out (drF_no2 hjn h)
          obtain ⟨x, hx⟩ : ∃ x, d.getD j Sp.none = x := ⟨_, rfl⟩
          have HXX : Hid (d.getD j Sp.none = x) := hx
          rw [hx] at hI d0 d1 hsl hsl2 HBad2
          subst ea2
          clear hx
          have i3 : (0 : Int) ≤ (j : Int) := by omega
          have i4 : (j : Int) < (d.length : Int) := by omega
          obtain ⟨U, hU, XG, hbU⟩ : ∃ U, U = wr.alloc (.cells #[.int .i64 x.d, .slice a2 x.ar.length c2] 50) ∧ Bk 50 U wr.heap.size [.int .i64 x.d, .slice a2 x.ar.length c2] ∧ Below wr.heap.size wr U := ⟨_, rfl, Bk.new _ _ _, bl1 _⟩
          replace hsl := hsl.below hbU
          replace hC := hC.trans (hbU.mono hC.size)
          replace hB := hB.trans (hbU.mono hB.size)
          replace hBw := hBw.trans (hbU.mono hBw.size)
          obtain ⟨y0, y1, -⟩ := XG.two
          have hX1 := HX1.out.below hB
          obtain ⟨x0, x1, -⟩ := hX1.two
          have hst := stepFits_any S (some ⟨b1, off, none⟩) l.length ca ga gc ma mc s a2 c2 x U kl k2 hI hsl
          go_upto_region 11 with fail
          rw [← hU]
          clear hU d0 d1 hbU
          cases hf3 : spF (fiS s) l.length x with
          | false =>
            rw [hf3] at hst
            have HF : Hid (foD (fiS s) l = false) := HBad2.out hf3
            clear hf3 HBad2 HBad HOJ
            go_wp2_with fail
            refine hst.mono ?_
            rintro e u4 ⟨rfl, hb⟩
            replace hBw := hBw.trans (hb.mono hBw.size)
            clear hst hb
            go_wp2
            go_ret
            exact ⟨rt_bool HF.out.symm, hBw⟩
          | true =>
          rw [hf3] at hst
          have HOJ2 : Hid (∀ i, i < j + 1 → spF (fiS s) l.length (d.getD i Sp.none) = true) := fun i hi => by
            rcases Nat.lt_or_ge i j with h1 | h1
            · exact HOJ.out i h1
            · rw [show i = j by omega, HXX.out, hf3]
          clear hf3 HBad2 HOJ HXX
          go_wp2_with fail
          refine hst.mono ?_
          rintro e u4 ⟨rfl, hb⟩
          replace hC := hC.trans (hb.mono hC.size)
          clear hst hb y0 y1 x0 x1 hX1 XG hBw hB hsl
          go_wp2
          go_roundw
          case rel => exact ⟨j + 1, by omega, by go_num, HOJ2, hC⟩
          case measure => simp [intOf]; omega
        · have g4 : ¬ (j : Int) < (d.length : Int) := by omega
          have HOK2 : Hid (∀ i, i < k + 1 → drF (fiS s) l.length (l.getD i []) = true) := fun i hi => by
            rcases Nat.lt_or_ge i k with h1 | h1
            · exact HOK.out i h1
            · rw [show i = k by omega, HDD.out]
              exact drF_iff.2 ⟨by omega, fun i hi => HOJ.out i (by omega)⟩
          clear HOK HOJ HBad HDD hC hBw
          go_wp2
          go_roundw
          case rel => exact ⟨k + 1, by omega, by go_num, HOK2, hB⟩
          case measure => simp [intOf]; omega
    · have HF : Hid (foD (fiS s) l = true) := foD_iff.2 ⟨by omega, fun j hj => HOK.out j (by omega)⟩
      have g4 : ¬ (k : Int) < (l.length : Int) := by omega
      clear HOK
      go_wp2
      go_ret
      exact ⟨rt_bool HF.out.symm, hBw⟩

end Go.Proofs.YtkbbdkecillnpaaGreat

namespace Go.Proofs.YtkbbdkecillnpaaGreat
set_option linter.unusedSimpArgs false
set_option linter.unusedVariables false

/-- Behind n points. -/
def okP (n : Nat) (p : Pe) : Prop := (-(32768 * (n : Int)) ≤ p.x ∧ p.x ≤ 32768 * (n : Int)) ∧ (-(32768 * (n : Int)) ≤ p.y ∧ p.y ≤ 32768 * (n : Int)) ∧ ∀ c ∈ p.out, c.length ≤ n
theorem okP.mono {n m : Nat} {p : Pe} (h : okP n p) (hm : n ≤ m) : okP m p := by
  obtain ⟨⟨h1, h2⟩, ⟨h3, h4⟩, h5⟩ := h
  have : (n : Int) ≤ (m : Int) := by omega
  exact ⟨⟨by omega, by omega⟩, ⟨by omega, by omega⟩, fun c hc => Nat.le_trans (h5 c hc) hm⟩
theorem okP.last {n : Nat} {p : Pe} (h : okP n p) : (p.out.getD (p.out.length - 1) []).length ≤ n := by
  by_cases hk : p.out.length - 1 < p.out.length
  · exact h.2.2 _ (getD_memS hk)
  · rw [List.getD_eq_getElem?_getD, List.getElem?_eq_none (by omega)]
    exact Nat.zero_le _
theorem okP.to {n : Nat} {p : Pe} (h : okP n p) {dx dy : Int} {on : Bool} (hx : -32768 ≤ dx ∧ dx ≤ 32767) (hy : -32768 ≤ dy ∧ dy ≤ 32767) : okP (n + 1) (toP p dx dy on) := by
  have hl := h.last
  obtain ⟨⟨h1, h2⟩, ⟨h3, h4⟩, h5⟩ := h
  refine ⟨⟨?_, ?_⟩, ⟨?_, ?_⟩, fun c hc => ?_⟩
  · show _ ≤ p.x + dx; omega
  · show p.x + dx ≤ _; omega
  · show _ ≤ p.y + dy; omega
  · show p.y + dy ≤ _; omega
  · have hc2 : c ∈ putL p.out ⟨p.x + dx, p.y + dy, on⟩ := hc
    unfold putL at hc2
    rcases List.mem_or_eq_of_mem_set hc2 with h6 | h6
    · exact Nat.le_succ_of_le (h5 c h6)
    · rw [h6, List.length_append, List.length_singleton]
      omega
/-- A pen at rest; a pen whose step has begun. -/
structure OkP (p : Pe) : Prop where
  st : p.st ≤ 400
  ok : okP (3 * p.st) p
  ol : p.out.length ≤ p.st
  er : p.er = 0
structure OkS (p : Pe) : Prop where
  s1 : 1 ≤ p.st
  st : p.st ≤ 400
  ok : okP (3 * (p.st - 1)) p
  ol : p.out.length ≤ p.st - 1
  er : p.er = 0
theorem OkP.new : OkP Pe.new := ⟨by decide, ⟨⟨by decide, by decide⟩, ⟨by decide, by decide⟩, fun c hc => by cases hc⟩, by decide, rfl⟩
theorem OkP.begin {p : Pe} (h : OkP p) (hs : p.st < 400) : OkS { p with st := p.st + 1 } :=
  ⟨Nat.le_add_left _ _, hs, by have := h.ok; exact this, h.ol, h.er⟩
/-- A step, once its numbers are there. -/
def drT (R : Rd18) (l : List (List Sp)) (n : Nat) (sub : List Sp → Pe → Pe) (x : Sp) (p : Pe) : Pe :=
  if x.d = 4 then (if n = 0 then { p with er := 6 } else sub (l.getD ((nuL R x.ar).getD 0 0).toNat []) p)
  else if (goP x.d p).out = [] then { goP x.d p with er := 1 }
  else mvPe x.d (nuL R x.ar) (goP x.d p)
theorem drS_long {R : Rd18} {l : List (List Sp)} {n : Nat} {sub : List Sp → Pe → Pe} {x : Sp} {p : Pe} (h : 400 ≤ p.st) : drS R l n sub x p = { p with er := 3 } := by unfold drS; rw [if_pos h]
theorem drS_err {R : Rd18} {l : List (List Sp)} {n : Nat} {sub : List Sp → Pe → Pe} {x : Sp} {p : Pe} (h : ¬ 400 ≤ p.st) (he : nuE R x.ar ≠ 0) : drS R l n sub x p = { p with st := p.st + 1, er := nuE R x.ar } := by unfold drS; rw [if_neg h, if_pos he]
theorem drS_on {R : Rd18} {l : List (List Sp)} {n : Nat} {sub : List Sp → Pe → Pe} {x : Sp} {p : Pe} (h : ¬ 400 ≤ p.st) (he : nuE R x.ar = 0) : drS R l n sub x p = drT R l n sub x { p with st := p.st + 1 } := by
  unfold drS drT
  rw [if_neg h, if_neg (by rw [he]; exact fun h => h rfl)]
theorem drT_deep {R : Rd18} {l : List (List Sp)} {sub : List Sp → Pe → Pe} {x : Sp} {p : Pe} (h : x.d = 4) : drT R l 0 sub x p = { p with er := 6 } := by unfold drT; rw [if_pos h, if_pos rfl]
theorem drT_sub {R : Rd18} {l : List (List Sp)} {n : Nat} {sub : List Sp → Pe → Pe} {x : Sp} {p : Pe} (h : x.d = 4) (hn : n ≠ 0) : drT R l n sub x p = sub (l.getD ((nuL R x.ar).getD 0 0).toNat []) p := by unfold drT; rw [if_pos h, if_neg hn]
theorem drT_go {R : Rd18} {l : List (List Sp)} {n : Nat} {sub : List Sp → Pe → Pe} {x : Sp} {p : Pe} (h : x.d = 1) : drT R l n sub x p = toP { p with out := p.out ++ [[]] } ((nuL R x.ar).getD 0 0) ((nuL R x.ar).getD 1 0) true := by
  unfold drT goP mvPe
  rw [h, if_neg (by decide), if_pos rfl, if_neg (by simp), if_neg (by decide)]
theorem drT_none {R : Rd18} {l : List (List Sp)} {n : Nat} {sub : List Sp → Pe → Pe} {x : Sp} {p : Pe} (h : x.d = 2 ∨ x.d = 3) (ho : p.out = []) : drT R l n sub x p = { p with er := 1 } := by
  have h1 : ¬ x.d = 4 := by omega
  have h2 : ¬ x.d = 1 := by omega
  unfold drT goP
  rw [if_neg h1, if_neg h2, if_pos ho]
theorem drT_line {R : Rd18} {l : List (List Sp)} {n : Nat} {sub : List Sp → Pe → Pe} {x : Sp} {p : Pe} (h : x.d = 2) (ho : p.out ≠ []) : drT R l n sub x p = toP p ((nuL R x.ar).getD 0 0) ((nuL R x.ar).getD 1 0) true := by
  have e : goP x.d p = p := by unfold goP; rw [h, if_neg (by decide)]
  unfold drT
  rw [e, h, if_neg (by decide), if_neg ho]
  unfold mvPe
  rw [if_neg (by decide)]
theorem drT_curve {R : Rd18} {l : List (List Sp)} {n : Nat} {sub : List Sp → Pe → Pe} {x : Sp} {p : Pe} (h : x.d = 3) (ho : p.out ≠ []) : drT R l n sub x p = toP (toP (toP p ((nuL R x.ar).getD 0 0) ((nuL R x.ar).getD 1 0) false) ((nuL R x.ar).getD 2 0) ((nuL R x.ar).getD 3 0) false) ((nuL R x.ar).getD 4 0) ((nuL R x.ar).getD 5 0) true := by
  have e : goP x.d p = p := by unfold goP; rw [h, if_neg (by decide)]
  unfold drT
  rw [e, h, if_neg (by decide), if_neg ho]
  unfold mvPe
  rw [if_pos rfl]
theorem OkS.go {p : Pe} (h : OkS p) {a b : Int} (ha : -32768 ≤ a ∧ a ≤ 32767) (hb : -32768 ≤ b ∧ b ≤ 32767) : OkP (toP { p with out := p.out ++ [[]] } a b true) := by
  have hs1 := h.s1
  have ho := h.ol
  have h1 : okP (3 * (p.st - 1)) { p with out := p.out ++ [[]] } := ⟨h.ok.1, h.ok.2.1, fun c hc => by
    rcases List.mem_append.1 hc with h2 | h2
    · exact h.ok.2.2 c h2
    · rw [List.mem_singleton.1 h2]; exact Nat.zero_le _⟩
  refine ⟨h.st, (h1.to ha hb).mono (by show _ ≤ 3 * p.st; omega), ?_, h.er⟩
  show (putL (p.out ++ [[]]) _).length ≤ p.st
  rw [putL_len, List.length_append, List.length_singleton]
  omega
theorem OkS.line {p : Pe} (h : OkS p) {a b : Int} (ha : -32768 ≤ a ∧ a ≤ 32767) (hb : -32768 ≤ b ∧ b ≤ 32767) : OkP (toP p a b true) := by
  have hs1 := h.s1
  have ho := h.ol
  refine ⟨h.st, (h.ok.to ha hb).mono (by show _ ≤ 3 * p.st; omega), ?_, h.er⟩
  show (putL p.out _).length ≤ p.st
  rw [putL_len]
  omega
theorem OkS.curve {p : Pe} (h : OkS p) {a b c d e f : Int} (ha : -32768 ≤ a ∧ a ≤ 32767) (hb : -32768 ≤ b ∧ b ≤ 32767) (hc : -32768 ≤ c ∧ c ≤ 32767) (hd : -32768 ≤ d ∧ d ≤ 32767) (he : -32768 ≤ e ∧ e ≤ 32767) (hf : -32768 ≤ f ∧ f ≤ 32767) : OkP (toP (toP (toP p a b false) c d false) e f true) := by
  have hs1 := h.s1
  have ho := h.ol
  refine ⟨h.st, (((h.ok.to ha hb).to hc hd).to he hf).mono (by show _ ≤ 3 * p.st; omega), ?_, h.er⟩
  show (putL (putL (putL p.out _) _) _).length ≤ p.st
  rw [putL_len, putL_len, putL_len]
  omega
/-- What draws within. -/
def sbN (R : Rd18) (l : List (List Sp)) : Nat → List Sp → Pe → Pe
  | 0 => fun _ p => p
  | n + 1 => drN R l n
theorem drN_sb (R : Rd18) (l : List (List Sp)) (n : Nat) (d : List Sp) (p : Pe) : drN R l n d p = drA (drS R l n (sbN R l n)) d p := by cases n <;> rfl

end Go.Proofs.YtkbbdkecillnpaaGreat
