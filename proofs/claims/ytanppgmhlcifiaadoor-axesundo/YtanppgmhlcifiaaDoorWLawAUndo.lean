/-
  foundrylaw06.AxesUndo: the walk.
-/
import Derived.Test.YtanppgmhlcifiaaDoorZ16
import Derived.Test.YtanppgmhlcifiaaDoorZ23
import Derived.Test.YtanppgmhlcifiaaDoorZ21
namespace Go.Proofs.YtanppgmhlcifiaaDoor
open Go.RowKit Go.Maps
set_option linter.unusedSimpArgs false
set_option linter.unusedVariables false

/-- A cell with a number. -/
def C1 (w : World) (b off : Nat) (z : Int) : Prop := w.cell? ⟨b, off, none⟩ = some (.int .i64 z) ∧ b < w.heap.size
theorem C1.below {w w' : World} {b off : Nat} {z : Int} (h : C1 w b off z) (hb : Below w.heap.size w w') : C1 w' b off z := ⟨(hb.cell (p := ⟨b, off, none⟩) h.2).trans h.1, Nat.lt_of_lt_of_le h.2 hb.size⟩
theorem as_at {w : World} {t : Ax} (ht : Axw t) {g : Nat} (hn : w.heap[g]? = some (.cells (axC t) 40 (0, 0))) : As w (some ⟨g, 0, none⟩) 1 [t] := by
  refine ⟨Nat.le_refl _, by simp [maxLen], fun s hs => by rw [List.mem_singleton.1 hs]; exact ht, fun i hi => ?_⟩
  have : i = 0 := by simp at hi; omega
  subst this
  exact ⟨g, 0, rfl, (Array.getElem?_eq_some_iff.1 hn).1, cell_of_row _ _ 0 _ _ (0, 0) hn, cell_of_row _ _ 1 _ _ (0, 0) hn, cell_of_row _ _ 2 _ _ (0, 0) hn, cell_of_row _ _ 3 _ _ (0, 0) hn⟩
theorem ri_at {w : World} {z : Int} (hz : I64 z) {g : Nat} {e : TypeId} (hn : w.heap[g]? = some (.cells #[.int .i64 z] e (0, 0))) : Ri w (some ⟨g, 0, none⟩) 1 [z] := by
  refine ⟨fun s hs => by rw [List.mem_singleton.1 hs]; exact hz, Nat.le_refl _, by simp [maxLen], .inr ⟨g, 0, rfl, (Array.getElem?_eq_some_iff.1 hn).1, fun i hi => ?_⟩⟩
  have : i = 0 := by simp at hi; omega
  subst this
  exact cell_of_row _ _ 0 _ _ (0, 0) hn

theorem undo_all {t : Ax} {u : Int} (h : onA t = true) : usQ t (plQ t u) = ((clp u t.lo t.hi : Int) : Rat) := by
  obtain ⟨_, k1, k2, k3, k4⟩ := onA_iff.1 h
  have hcl := clp_in (u := u) (Int.le_trans k2 k3)
  rw [usQ, plQ, if_pos h, if_pos h]
  exact undo_sdQ hcl.1 hcl.2

set_option maxHeartbeats 4000000 in
set_option maxRecDepth 100000 in
theorem axesUndo_any (t : Ax) (u : Int) (w : World) (ht : Axw t) (hu : I64 u) (htab : Pow w) :
    Calls Tryd.prog 6 #[.agg (axC t), .int .i64 u] w fun e w' => e = .returned (.bool true) ∧ Below w.heap.size w w' := by
  obtain ⟨tx, lo, us, hi⟩ := t
  have HW : Hid (Axw ⟨tx, lo, us, hi⟩) := ht
  obtain ⟨W, hW, X1, hbW⟩ : ∃ W, W = w.alloc (.cells #[.string tx, .int .i64 lo, .int .i64 us, .int .i64 hi] 40) ∧ BxA W w.heap.size (.string tx) (.int .i64 lo) (.int .i64 us) (.int .i64 hi) ∧ Below w.heap.size w W := ⟨_, rfl, BxA.new w _ _ _ _, bl1 _⟩
  unfold axC
  dsimp only
  clear ht
  have HTAB : Hid (Pow w) := htab
  clear htab
  go_enter Tryd.func6, Tryd.ntmps6
  go_wp2_with fail
  rw [← hW]
  clear hW
  refine (awake6_any _ (HTAB.out.below hbW)).mono ?_
  rintro e u1 ⟨rfl, hb1⟩
  replace X1 := X1.below hb1
  replace hbW : Below w.heap.size w u1 := hbW.trans (hb1.mono hbW.size)
  clear hb1
  obtain ⟨p00, p01, p02, p03, _⟩ := X1.cells
  go_wp2_with fail
  have hF := cformed_any _ _ _ _ (as_one u1 ⟨tx, lo, us, hi⟩ HW.out)
  rw [frA_one] at hF
  unfold axC at hF
  dsimp only at hF
  simp only [List.length_cons, List.length_nil, Nat.zero_add] at hF
  have hba := bl1 (w := u1) (.cells #[.string tx, .int .i64 lo, .int .i64 us, .int .i64 hi] 40)
  cases hon : onA ⟨tx, lo, us, hi⟩ with
  | false =>
    rw [hon] at hF
    refine hF.mono ?_
    rintro e uf ⟨rfl, hbf⟩
    have hbX := hbW.trans ((hba.trans (hbf.mono hba.size)).mono hbW.size)
    clear hF
    go_wp2_with fail
    refine (awake6_any _ (HTAB.out.below hbX)).mono ?_
    rintro e ug ⟨rfl, hbg⟩
    go_wp2
    go_ret
    exact ⟨rfl, hbX.trans (hbg.mono hbX.size)⟩
  | true =>
  rw [hon] at hF
  refine hF.mono ?_
  rintro e uf ⟨rfl, hbf⟩
  replace hbf := hba.trans (hbf.mono hba.size)
  clear hF hba
  replace X1 := X1.below hbf
  replace hbW : Below w.heap.size w uf := hbW.trans (hbf.mono hbW.size)
  clear hbf
  clear p00 p01 p02 p03
  obtain ⟨p00, p01, p02, p03, _⟩ := X1.cells
  obtain ⟨_, k1, k2, k3, k4⟩ := onA_iff.1 hon
  have hcl := clp_in (u := u) (Int.le_trans k2 k3)
  have HU : Hid (usQ ⟨tx, lo, us, hi⟩ (plQ ⟨tx, lo, us, hi⟩ u) = ((clp u lo hi : Int) : Rat)) := undo_all hon
  obtain ⟨c, hc⟩ : ∃ c, clp u lo hi = c := ⟨_, rfl⟩
  rw [hc] at hcl HU
  have HC : Hid (clK [⟨tx, lo, us, hi⟩] [u] 1 = [c]) := by show _ = _; rw [← hc]; rfl
  obtain ⟨hc1, hc2⟩ := hcl
  clear hc hon
  go_wp2_with fail
  obtain ⟨V, hV, hV1, hV2, hbV⟩ : ∃ V, V = (uf.alloc (.cells #[.string tx, .int .i64 lo, .int .i64 us, .int .i64 hi] 40)).alloc (.cells #[.int .i64 u] 3) ∧ V.heap[uf.heap.size]? = some (.cells #[.string tx, .int .i64 lo, .int .i64 us, .int .i64 hi] 40 (0, 0)) ∧ V.heap[uf.heap.size + 1]? = some (.cells #[.int .i64 u] 3 (0, 0)) ∧ Below uf.heap.size uf V := by
    refine ⟨_, rfl, ((bl1 _).block _ (by simp)).trans (heap_alloc_new _ _), ?_, bl2 _ _⟩
    have := heap_alloc_new (uf.alloc (.cells #[.string tx, .int .i64 lo, .int .i64 us, .int .i64 hi] 40)) (.cells #[.int .i64 u] 3)
    simpa using this
  rw [← hV]
  clear hV
  have hcp := cclampA_any _ _ [⟨tx, lo, us, hi⟩] _ _ [u] V (as_at HW.out hV1) (ri_at hu hV2) (by simp) (by simp)
  simp only [List.length_cons, List.length_nil, Nat.zero_add, HC.out] at hcp
  clear hV1 hV2
  replace X1 := X1.below hbV
  replace hbW : Below w.heap.size w V := hbW.trans (hbV.mono hbW.size)
  clear hbV
  clear p00 p01 p02 p03
  obtain ⟨p00, p01, p02, p03, _⟩ := X1.cells
  refine (hcp).mono ?_
  rintro e u2 ⟨ac, cc, rfl, hrc, hb2⟩
  replace X1 := X1.below hb2
  replace hbW : Below w.heap.size w u2 := hbW.trans (hb2.mono hbW.size)
  clear hb2
  clear p00 p01 p02 p03
  obtain ⟨p00, p01, p02, p03, _⟩ := X1.cells
  clear hcp
  obtain ⟨cb, co, rfl, hcb, dc⟩ := hrc.at (Below.refl _ _) 0 (by simp)
  have hcc : 1 ≤ cc ∧ cc ≤ maxLen := ⟨hrc.2.1, hrc.2.2.1⟩
  have Y1 : C1 u2 cb co c := ⟨dc, hcb⟩
  clear hrc hcb dc
  unfold maxLen at hcc
  obtain ⟨hcc1, hcc2⟩ := hcc
  have hd1 : decide (c < lo) = false := decide_eq_false (by omega)
  have hd2 : decide (hi < c) = false := decide_eq_false (by omega)
  clear p00 p01 p02 p03
  obtain ⟨p00, p01, p02, p03, _⟩ := X1.cells
  have p10 := Y1.1
  go_wp2_with fail
  refine wp_region_held_drew (S := (fun u => u.cell? ⟨w.heap.size, 0, none⟩ = some (.string tx) ∧ u.cell? ⟨w.heap.size, 1, none⟩ = some (.int .i64 lo) ∧ u.cell? ⟨w.heap.size, 2, none⟩ = some (.int .i64 us) ∧ u.cell? ⟨w.heap.size, 3, none⟩ = some (.int .i64 hi) ∧ u.cell? ⟨cb, co, none⟩ = some (.int .i64 c))) (by kernel_rfl) ?_ (fun hHeld => ?_)
  · (try dsimp only)
    go_keep
  have hdr : Below u2.heap.size u2 u2.drew := Below.drew1
  generalize u2.drew = ud1 at hdr hHeld ⊢
  replace X1 := X1.below hdr
  replace Y1 := Y1.below hdr
  replace hbW : Below w.heap.size w ud1 := hbW.trans (hdr.mono hbW.size)
  clear hdr
  clear p00 p01 p02 p03 p10
  obtain ⟨p00, p01, p02, p03, _⟩ := X1.cells
  have p10 := Y1.1
  refine hTake (i := 0) (v := ?v2) rfl (by kernel_rfl) (by kernel_rfl) (by kernel_rfl) (fun _ _ _ h => h) (Or.inl ⟨by rfl, ?y2⟩) hHeld ?r2
  case y2 =>
    intro w9 hSw
    (try dsimp only at hSw)
    go_simp
    try with_reducible rfl
  try simp only [Act.put, List.setIfInBounds_toArray, List.set_cons_zero, List.set_cons_succ]
  refine hTake (i := 1) (v := ?v3) rfl (by kernel_rfl) (by kernel_rfl) (by kernel_rfl) (fun _ _ _ h => h) (Or.inl ⟨by rfl, ?y3⟩) hHeld ?r3
  case y3 =>
    intro w9 hSw
    (try dsimp only at hSw)
    go_simp
    try with_reducible rfl
  try simp only [Act.put, List.setIfInBounds_toArray, List.set_cons_zero, List.set_cons_succ]
  refine hTake (i := 2) (v := ?v4) rfl (by kernel_rfl) (by kernel_rfl) (by kernel_rfl) (fun _ _ _ h => h) (Or.inl ⟨by rfl, ?y4⟩) hHeld ?r4
  case y4 =>
    intro w9 hSw
    (try dsimp only at hSw)
    go_simp
    try with_reducible rfl
  try simp only [Act.put, List.setIfInBounds_toArray, List.set_cons_zero, List.set_cons_succ]
  refine hTake (i := 3) (v := ?v5) rfl (by kernel_rfl) (by kernel_rfl) (by kernel_rfl) (fun _ _ _ h => h) (Or.inl ⟨by rfl, ?y5⟩) hHeld ?r5
  case y5 =>
    intro w9 hSw
    (try dsimp only at hSw)
    go_simp
    try with_reducible rfl
  try simp only [Act.put, List.setIfInBounds_toArray, List.set_cons_zero, List.set_cons_succ]
  refine hTake (i := 4) (v := ?v6) rfl (by kernel_rfl) (by kernel_rfl) (by kernel_rfl) (fun _ _ _ h => h) (Or.inl ⟨by rfl, ?y6⟩) hHeld ?r6
  case y6 =>
    intro w9 hSw
    (try dsimp only at hSw)
    go_simp
    try with_reducible rfl
  try simp only [Act.put, List.setIfInBounds_toArray, List.set_cons_zero, List.set_cons_succ]
  refine hTake (i := 5) (v := ?v7) rfl (by kernel_rfl) (by kernel_rfl) (by kernel_rfl) (fun _ _ _ h => h) (Or.inl ⟨by rfl, ?y7⟩) hHeld ?r7
  case y7 =>
    intro w9 hSw
    (try dsimp only at hSw)
    go_simp
    try with_reducible rfl
  try simp only [Act.put, List.setIfInBounds_toArray, List.set_cons_zero, List.set_cons_succ]
  refine hTake (i := 6) (v := ?v8) rfl (by kernel_rfl) (by kernel_rfl) (by kernel_rfl) (fun _ _ _ h => h) (Or.inl ⟨by rfl, ?y8⟩) hHeld ?r8
  case y8 =>
    intro w9 hSw
    (try dsimp only at hSw)
    go_simp
    try with_reducible rfl
  try simp only [Act.put, List.setIfInBounds_toArray, List.set_cons_zero, List.set_cons_succ]
  refine hTake (i := 7) (v := ?v9) rfl (by kernel_rfl) (by kernel_rfl) (by kernel_rfl) (fun _ _ _ h => h) (Or.inl ⟨by rfl, ?y9⟩) hHeld ?r9
  case y9 =>
    intro w9 hSw
    (try dsimp only at hSw)
    go_simp
    try with_reducible rfl
  try simp only [Act.put, List.setIfInBounds_toArray, List.set_cons_zero, List.set_cons_succ]
  refine hTake (i := 8) (v := ?v10) rfl (by kernel_rfl) (by kernel_rfl) (by kernel_rfl) (fun _ _ _ h => h) (Or.inl ⟨by rfl, ?y10⟩) hHeld ?r10
  case y10 =>
    intro w9 hSw
    (try dsimp only at hSw)
    go_simp
    try with_reducible rfl
  try simp only [Act.put, List.setIfInBounds_toArray, List.set_cons_zero, List.set_cons_succ]
  refine hTake (i := 9) (v := ?v11) rfl (by kernel_rfl) (by kernel_rfl) (by kernel_rfl) (fun _ _ _ h => h) (Or.inl ⟨by rfl, ?y11⟩) hHeld ?r11
  case y11 =>
    intro w9 hSw
    (try dsimp only at hSw)
    go_simp
    try with_reducible rfl
  try simp only [Act.put, List.setIfInBounds_toArray, List.set_cons_zero, List.set_cons_succ]
  refine hTake (i := 10) (v := ?v12) rfl (by kernel_rfl) (by kernel_rfl) (by kernel_rfl) (fun _ _ _ h => h) (Or.inl ⟨by rfl, ?y12⟩) hHeld ?r12
  case y12 =>
    intro w9 hSw
    (try dsimp only at hSw)
    go_simp
    try with_reducible rfl
  try simp only [Act.put, List.setIfInBounds_toArray, List.set_cons_zero, List.set_cons_succ]
  refine hTake (i := 11) (v := ?v13) rfl (by kernel_rfl) (by kernel_rfl) (by kernel_rfl) (fun _ _ _ h => h) (Or.inl ⟨by rfl, ?y13⟩) hHeld ?r13
  case y13 =>
    intro w9 hSw
    (try dsimp only at hSw)
    go_simp
    try with_reducible rfl
  try simp only [Act.put, List.setIfInBounds_toArray, List.set_cons_zero, List.set_cons_succ]
  refine hTake (i := 12) (v := ?v14) rfl (by kernel_rfl) (by kernel_rfl) (by kernel_rfl) (fun _ _ _ h => h) (Or.inl ⟨by rfl, ?y14⟩) hHeld ?r14
  case y14 =>
    intro w9 hSw
    (try dsimp only at hSw)
    go_simp
    try with_reducible rfl
  try simp only [Act.put, List.setIfInBounds_toArray, List.set_cons_zero, List.set_cons_succ]
  refine hTake (i := 13) (v := ?v15) rfl (by kernel_rfl) (by kernel_rfl) (by kernel_rfl) (fun _ _ _ h => h) (Or.inl ⟨by rfl, ?y15⟩) hHeld ?r15
  case y15 =>
    intro w9 hSw
    (try dsimp only at hSw)
    go_simp
    try with_reducible rfl
  try simp only [Act.put, List.setIfInBounds_toArray, List.set_cons_zero, List.set_cons_succ]
  refine hTake (i := 14) (v := ?v16) rfl (by kernel_rfl) (by kernel_rfl) (by kernel_rfl) (fun _ _ _ h => h) (Or.inl ⟨by rfl, ?y16⟩) hHeld ?r16
  case y16 =>
    intro w9 hSw
    (try dsimp only at hSw)
    go_simp
    try with_reducible rfl
  try simp only [Act.put, List.setIfInBounds_toArray, List.set_cons_zero, List.set_cons_succ]
  refine hTake (i := 15) (v := ?v17) rfl (by kernel_rfl) (by kernel_rfl) (by kernel_rfl) (fun _ _ _ h => h) (Or.inl ⟨by rfl, ?y17⟩) hHeld ?r17
  case y17 =>
    intro w9 hSw
    (try dsimp only at hSw)
    go_simp
    try with_reducible rfl
  try simp only [Act.put, List.setIfInBounds_toArray, List.set_cons_zero, List.set_cons_succ]
  refine hTake (i := 16) (v := ?v18) rfl (by kernel_rfl) (by kernel_rfl) (by kernel_rfl) (fun _ _ _ h => h) (Or.inl ⟨by rfl, ?y18⟩) hHeld ?r18
  case y18 =>
    intro w9 hSw
    (try dsimp only at hSw)
    go_simp
    try with_reducible rfl
  try simp only [Act.put, List.setIfInBounds_toArray, List.set_cons_zero, List.set_cons_succ]
  refine hTake (i := 17) (v := ?v19) rfl (by kernel_rfl) (by kernel_rfl) (by kernel_rfl) (fun _ _ _ h => h) (Or.inl ⟨by rfl, ?y19⟩) hHeld ?r19
  case y19 =>
    intro w9 hSw
    (try dsimp only at hSw)
    go_simp
    try with_reducible rfl
  try simp only [Act.put, List.setIfInBounds_toArray, List.set_cons_zero, List.set_cons_succ]
  refine hTake (i := 18) (v := ?v20) rfl (by kernel_rfl) (by kernel_rfl) (by kernel_rfl) (fun _ _ _ h => h) (Or.inl ⟨by rfl, ?y20⟩) hHeld ?r20
  case y20 =>
    intro w9 hSw
    (try dsimp only at hSw)
    go_simp
    try with_reducible rfl
  try simp only [Act.put, List.setIfInBounds_toArray, List.set_cons_zero, List.set_cons_succ]
  refine wpAnyH_done (by kernel_rfl) ?_ _
  go_wp2_with fail
  clear hHeld
  have hpl := fun V => cplain_any ⟨tx, lo, us, hi⟩ u V HW.out hu
  have hus := fun k q v V h1 h2 h3 => cuserQ_any ⟨tx, lo, us, hi⟩ k q v V HW.out h1 h2 h3
  unfold axC at hpl hus
  dsimp only at hpl hus
  refine wp_region_held_drew (S := (fun u => u.cell? ⟨w.heap.size, 0, none⟩ = some (.string tx) ∧ u.cell? ⟨w.heap.size, 1, none⟩ = some (.int .i64 lo) ∧ u.cell? ⟨w.heap.size, 2, none⟩ = some (.int .i64 us) ∧ u.cell? ⟨w.heap.size, 3, none⟩ = some (.int .i64 hi) ∧ u.cell? ⟨cb, co, none⟩ = some (.int .i64 c))) (by kernel_rfl) ?_ (fun hHeld => ?_)
  · (try dsimp only)
    go_keep
  have hdr : Below ud1.heap.size ud1 ud1.drew := Below.drew1
  generalize ud1.drew = ud21 at hdr hHeld ⊢
  replace X1 := X1.below hdr
  replace Y1 := Y1.below hdr
  replace hbW : Below w.heap.size w ud21 := hbW.trans (hdr.mono hbW.size)
  clear hdr
  clear p00 p01 p02 p03 p10
  obtain ⟨p00, p01, p02, p03, _⟩ := X1.cells
  have p10 := Y1.1
  refine hTake (i := 0) (v := ?v22) rfl (by kernel_rfl) (by kernel_rfl) (by kernel_rfl) (fun _ _ _ h => h) (Or.inl ⟨by rfl, ?y22⟩) hHeld ?r22
  case y22 =>
    intro w9 hSw
    (try dsimp only at hSw)
    go_simp
    try with_reducible rfl
  try simp only [Act.put, List.setIfInBounds_toArray, List.set_cons_zero, List.set_cons_succ]
  refine hTake (i := 1) (v := ?v23) rfl (by kernel_rfl) (by kernel_rfl) (by kernel_rfl) (fun _ _ _ h => h) (Or.inl ⟨by rfl, ?y23⟩) hHeld ?r23
  case y23 =>
    intro w9 hSw
    (try dsimp only at hSw)
    go_simp
    try with_reducible rfl
  try simp only [Act.put, List.setIfInBounds_toArray, List.set_cons_zero, List.set_cons_succ]
  refine hTake (i := 2) (v := ?v24) rfl (by kernel_rfl) (by kernel_rfl) (by kernel_rfl) (fun _ _ _ h => h) (Or.inl ⟨by rfl, ?y24⟩) hHeld ?r24
  case y24 =>
    intro w9 hSw
    (try dsimp only at hSw)
    go_simp
    try with_reducible rfl
  try simp only [Act.put, List.setIfInBounds_toArray, List.set_cons_zero, List.set_cons_succ]
  refine hTake (i := 5) (v := ?v25) rfl (by kernel_rfl) (by kernel_rfl) (by kernel_rfl) (fun _ _ _ h => h) (Or.inl ⟨by rfl, ?y25⟩) hHeld ?r25
  case y25 =>
    intro w9 hSw
    (try dsimp only at hSw)
    go_simp
    try with_reducible rfl
  try simp only [Act.put, List.setIfInBounds_toArray, List.set_cons_zero, List.set_cons_succ]
  refine hTake (i := 6) (v := ?v26) rfl (by kernel_rfl) (by kernel_rfl) (by kernel_rfl) (fun _ _ _ h => h) (Or.inl ⟨by rfl, ?y26⟩) hHeld ?r26
  case y26 =>
    intro w9 hSw
    (try dsimp only at hSw)
    go_simp
    try with_reducible rfl
  try simp only [Act.put, List.setIfInBounds_toArray, List.set_cons_zero, List.set_cons_succ]
  refine hTake (i := 7) (v := ?v27) rfl (by kernel_rfl) (by kernel_rfl) (by kernel_rfl) (fun _ _ _ h => h) (Or.inl ⟨by rfl, ?y27⟩) hHeld ?r27
  case y27 =>
    intro w9 hSw
    (try dsimp only at hSw)
    go_simp
    try with_reducible rfl
  try simp only [Act.put, List.setIfInBounds_toArray, List.set_cons_zero, List.set_cons_succ]
  refine hCall (i := 3) rfl (by kernel_rfl) (by rfl) (fun K hK => ?_)
  go_simp
  refine (hpl _).mono ?_
  rintro e u3 ⟨v1, rfl, hF1, hb3⟩
  replace X1 := X1.below hb3
  replace Y1 := Y1.below hb3
  replace hbW : Below w.heap.size w u3 := hbW.trans (hb3.mono hbW.size)
  clear hb3
  clear p00 p01 p02 p03 p10
  obtain ⟨p00, p01, p02, p03, _⟩ := X1.cells
  have p10 := Y1.1
  go_wp2_with fail
  refine hK.out _ _ ?_ (fun hHeld => ?_)
  · (try dsimp only)
    exact ⟨p00, p01, p02, p03, p10⟩
  clear hK K
  try simp only [Act.put, List.setIfInBounds_toArray, List.set_cons_zero, List.set_cons_succ]
  refine hCall (i := 4) rfl (by kernel_rfl) (by rfl) (fun K hK => ?_)
  go_simp
  refine (hus 2 _ _ _ hF1.ct (by decide) (by decide)).mono ?_
  rintro e u4 ⟨v2, rfl, hF2, hb4⟩
  replace hF1 := hF1.below hb4
  replace X1 := X1.below hb4
  replace Y1 := Y1.below hb4
  replace hbW : Below w.heap.size w u4 := hbW.trans (hb4.mono hbW.size)
  clear hb4
  clear p00 p01 p02 p03 p10
  obtain ⟨p00, p01, p02, p03, _⟩ := X1.cells
  have p10 := Y1.1
  go_wp2_with fail
  refine hK.out _ _ ?_ (fun hHeld => ?_)
  · (try dsimp only)
    exact ⟨p00, p01, p02, p03, p10⟩
  clear hK K
  try simp only [Act.put, List.setIfInBounds_toArray, List.set_cons_zero, List.set_cons_succ]
  refine hCall (i := 8) rfl (by kernel_rfl) (by rfl) (fun K hK => ?_)
  go_simp
  refine (whole_any c _ (by omega) (by omega)).mono ?_
  rintro e u5 ⟨v3, rfl, hF3, hb5⟩
  replace hF1 := hF1.below hb5
  replace hF2 := hF2.below hb5
  replace X1 := X1.below hb5
  replace Y1 := Y1.below hb5
  replace hbW : Below w.heap.size w u5 := hbW.trans (hb5.mono hbW.size)
  clear hb5
  clear p00 p01 p02 p03 p10
  obtain ⟨p00, p01, p02, p03, _⟩ := X1.cells
  have p10 := Y1.1
  go_wp2_with fail
  refine hK.out _ _ ?_ (fun hHeld => ?_)
  · (try dsimp only)
    exact ⟨p00, p01, p02, p03, p10⟩
  clear hK K
  try simp only [Act.put, List.setIfInBounds_toArray, List.set_cons_zero, List.set_cons_succ]
  refine hCall (i := 9) rfl (by kernel_rfl) (by rfl) (fun K hK => ?_)
  go_simp
  refine (qcmp_any 7 2 _ _ _ _ _ hF2.ct hF3.ct (by decide) (by decide) (by decide) (by decide)).mono ?_
  rintro e u6 ⟨rfl, hb6⟩
  replace hF1 := hF1.below hb6
  replace hF2 := hF2.below hb6
  replace hF3 := hF3.below hb6
  replace X1 := X1.below hb6
  replace Y1 := Y1.below hb6
  replace hbW : Below w.heap.size w u6 := hbW.trans (hb6.mono hbW.size)
  clear hb6
  rw [sgn_eq0.2 HU.out]
  clear p00 p01 p02 p03 p10
  obtain ⟨p00, p01, p02, p03, _⟩ := X1.cells
  have p10 := Y1.1
  go_wp2_with fail
  refine hK.out _ _ ?_ (fun hHeld => ?_)
  · (try dsimp only)
    exact ⟨p00, p01, p02, p03, p10⟩
  clear hK K
  try simp only [Act.put, List.setIfInBounds_toArray, List.set_cons_zero, List.set_cons_succ]
  refine hTake (i := 10) (v := ?v28) rfl (by kernel_rfl) (by kernel_rfl) (by kernel_rfl) (fun _ _ _ h => h) (Or.inl ⟨by rfl, ?y28⟩) hHeld ?r28
  case y28 =>
    intro w9 hSw
    (try dsimp only at hSw)
    go_simp
    try with_reducible rfl
  try simp only [Act.put, List.setIfInBounds_toArray, List.set_cons_zero, List.set_cons_succ]
  refine hTake (i := 11) (v := ?v29) rfl (by kernel_rfl) (by kernel_rfl) (by kernel_rfl) (fun _ _ _ h => h) (Or.inl ⟨by rfl, ?y29⟩) hHeld ?r29
  case y29 =>
    intro w9 hSw
    (try dsimp only at hSw)
    go_simp
    try with_reducible rfl
  try simp only [Act.put, List.setIfInBounds_toArray, List.set_cons_zero, List.set_cons_succ]
  refine wpAnyH_done (by kernel_rfl) ?_ _
  go_wp2
  go_ret
  exact ⟨rfl, hbW⟩

end Go.Proofs.YtanppgmhlcifiaaDoor
