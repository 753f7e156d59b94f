/-
  foundryref04.Page: how a page of the reference lies in a world (Ps); done, Big: the walks.
-/
import Derived.Test.YtcjomppgllbfpaaOD
import Derived.Deep.OwnRows
namespace Go.Proofs.Ytcjomppgllbfpaa
open Go.RowKit Go.Maps
set_option linter.unusedSimpArgs false
set_option linter.unusedVariables false

/-- The three cells of a page of the reference. -/
def Bx3 (w : World) (B : Nat) (a b c : Value) : Prop := w.heap[B]? = some (.cells #[a, b, c] 43 (0, 0))
theorem Bx3.lt {w : World} {B : Nat} {a b c : Value} (h : Bx3 w B a b c) : B < w.heap.size := (Array.getElem?_eq_some_iff.1 h).1
theorem Bx3.cells {w : World} {B : Nat} {a b c : Value} (h : Bx3 w B a b c) :
    w.cell? ⟨B, 0, none⟩ = some a ∧ w.cell? ⟨B, 1, none⟩ = some b ∧ w.cell? ⟨B, 2, none⟩ = some c ∧ w.frozen? ⟨B, 0, none⟩ = false ∧ w.frozen? ⟨B, 1, none⟩ = false ∧ w.frozen? ⟨B, 2, none⟩ = false :=
  ⟨cell_of_row w B 0 _ _ (0, 0) h, cell_of_row w B 1 _ _ (0, 0) h, cell_of_row w B 2 _ _ (0, 0) h, frozen_of_row w B 0 _ _ h, frozen_of_row w B 1 _ _ h, frozen_of_row w B 2 _ _ h⟩
theorem Bx3.set0 {w : World} {B : Nat} {a b c : Value} (h : Bx3 w B a b c) (x : Value) : Bx3 (w.setCell ⟨B, 0, none⟩ x) B x b c := heap_setCell_same w B 0 _ _ x h
theorem Bx3.set1 {w : World} {B : Nat} {a b c : Value} (h : Bx3 w B a b c) (x : Value) : Bx3 (w.setCell ⟨B, 1, none⟩ x) B a x c := heap_setCell_same w B 1 _ _ x h
theorem Bx3.set2 {w : World} {B : Nat} {a b c : Value} (h : Bx3 w B a b c) (x : Value) : Bx3 (w.setCell ⟨B, 2, none⟩ x) B a b x := heap_setCell_same w B 2 _ _ x h
theorem Bx3.below {w w' : World} {B : Nat} {a b c : Value} (h : Bx3 w B a b c) (hb : Below w.heap.size w w') : Bx3 w' B a b c := (hb.block B h.lt).trans h

/-- A row of ints, no block of which lies in G. -/
def RowI (w : World) (G : Nat → Prop) (v : Value) (ps : List Int) : Prop := OwnI w v ps ∧ ∀ g, v.ownBlock = some g → ¬ G g
theorem RowI.stay {w w' : World} {G : Nat → Prop} {v : Value} {ps : List Int} (h : RowI w G v ps) (hb : ∀ k, k < w.heap.size → ¬ G k → w'.heap[k]? = w.heap[k]?) : RowI w' G v ps :=
  ⟨h.1.kept (fun g hg => hb g (h.1.lt hg) (h.2 g hg)), h.2⟩
theorem OwnI.ne {w : World} {v : Value} {ps : List Int} (h : OwnI w v ps) {B : Nat} {cs : Array Value} {t : TypeId} {f : Nat × Nat} (hB : w.heap[B]? = some (.cells cs t f)) (ht : t ≠ 3) : v.ownBlock ≠ some B := by
  rcases h.2 with ⟨rfl, _⟩ | ⟨g, cap, cur, rfl, h3, h4, h5⟩
  · intro e; cases e
  · intro e
    simp only [Value.ownBlock, Option.some.injEq] at e
    subst e
    rw [h4] at hB
    simp at hB
    exact ht hB.2.1.symm
theorem RowI.off {w w' : World} {G : Nat → Prop} {v : Value} {ps : List Int} (h : RowI w G v ps) {B : Nat} {cs : Array Value} {t : TypeId} {f : Nat × Nat} (hB : w.heap[B]? = some (.cells cs t f)) (ht : t ≠ 3)
    (hb : ∀ k, k < w.heap.size → k ≠ B → w'.heap[k]? = w.heap[k]?) : RowI w' G v ps :=
  ⟨h.1.kept (fun g hg => hb g (h.1.lt hg) (fun e => h.1.ne hB ht (e ▸ hg))), h.2⟩
/-- A row of bytes and a row of ints lie apart. -/
theorem Row.ne_ints {w : World} {G G' : Nat → Prop} {u v : Value} {xs : List Nat} {ps : List Int} (h : Row w G u xs) (h' : OwnI w v ps) {g : Nat} (hu : u.ownBlock = some g) : v.ownBlock ≠ some g := by
  intro hv
  rcases h'.2 with ⟨rfl, _⟩ | ⟨k, cap, cur, rfl, h3, h4, h5⟩
  · cases hv
  · simp only [Value.ownBlock, Option.some.injEq] at hv
    subst hv
    exact h.ne h4 (by decide) hu
theorem RowI.grown {w w' : World} {G G' : Nat → Prop} {u v : Value} {xs : List Nat} {ps : List Int} (h : RowI w G v ps) (hr : Row w G' u xs) (hg : w.grownBy w' u.ownBlock) : RowI w' G v ps :=
  ⟨h.1.kept (fun g hv => hg.block g (h.1.lt hv) (fun e => hr.ne_ints (G' := G') h.1 e.symm hv)), h.2⟩
theorem Row.grownI {w w' : World} {G : Nat → Prop} {u v : Value} {xs : List Nat} {ps : List Int} (h : Row w G u xs) (hr : OwnI w v ps) (hg : w.grownBy w' v.ownBlock) : Row w' G u xs := by
  refine ⟨h.1.kept hg ?_, h.2⟩
  rcases hb : u.ownBlock with _ | g
  · exact .inl rfl
  · exact .inr (fun e => h.ne_ints (G' := G) hr hb e.symm)
theorem Bx3.grown {w w' : World} {B : Nat} {a b c : Value} (h : Bx3 w B a b c) {G' : Nat → Prop} {u : Value} {xs : List Nat} (hr : Row w G' u xs) (hg : w.grownBy w' u.ownBlock) : Bx3 w' B a b c :=
  (hg.block B h.lt (Ne.symm (hr.ne h (by decide)))).trans h
theorem Bx3.grownI {w w' : World} {B : Nat} {a b c : Value} (h : Bx3 w B a b c) {v : Value} {ps : List Int} (hr : OwnI w v ps) (hg : w.grownBy w' v.ownBlock) : Bx3 w' B a b c :=
  (hg.block B h.lt (Ne.symm (hr.ne h (by decide)))).trans h

/-- Block B holds a page of the reference in the state s; no block of it lies in G. -/
def Ps (w : World) (B : Nat) (G : Nat → Prop) (s : St) : Prop :=
  (∀ k, G k → k < w.heap.size) ∧ ¬ G B ∧ Wf s ∧ ∃ vb vw, Bx3 w B vb vw (.bool s.no) ∧ Row w G vb s.bs ∧ RowI w G vw s.ws
theorem Ps.stay {w w' : World} {B : Nat} {G : Nat → Prop} {s : St} (h : Ps w B G s) (hs : w.heap.size ≤ w'.heap.size) (hb : ∀ k, k < w.heap.size → ¬ G k → w'.heap[k]? = w.heap[k]?) : Ps w' B G s := by
  obtain ⟨h1, h2, h3, vb, vw, h4, h5, h6⟩ := h
  exact ⟨fun k hk => Nat.lt_of_lt_of_le (h1 k hk) hs, h2, h3, vb, vw, (hb B h4.lt h2).trans h4, h5.stay hb, h6.stay hb⟩
theorem Ps.below {w w' : World} {B : Nat} {G : Nat → Prop} {s : St} (h : Ps w B G s) (hb : Below w.heap.size w w') : Ps w' B G s := h.stay hb.size fun k hk _ => hb.block k hk
theorem Ps.guard_new {w w' : World} {B : Nat} {G G' : Nat → Prop} {s : St} (h : Ps w B G s) (hs : w.heap.size ≤ w'.heap.size) (hb : ∀ k, k < w.heap.size → ¬ G k → w'.heap[k]? = w.heap[k]?) (hG : ∀ k, G' k → k < w'.heap.size ∧ (k < w.heap.size → G k)) : Ps w' B G' s := by
  obtain ⟨h1, h2, h3, vb, vw, h4, h5, h6⟩ := h
  exact ⟨fun k hk => (hG k hk).1, fun hB => h2 ((hG _ hB).2 h4.lt), h3, vb, vw, (hb B h4.lt h2).trans h4, ⟨(h5.stay hb).1, fun g hg hg' => h5.2 g hg ((hG _ hg').2 (h5.1.lt g hg).2)⟩, ⟨(h6.stay hb).1, fun g hg hg' => h6.2 g hg ((hG _ hg').2 (h6.1.lt hg))⟩⟩
theorem Ps.kal {w : World} {B : Nat} {G : Nat → Prop} {s : St} (h : Ps w B G s) (o : Obj) : Keep G w (w.alloc o) := Keep.of_below (bl1 o) h.1

set_option maxHeartbeats 400000 in
theorem done_any (B : Nat) (G : Nat → Prop) (s : St) (w : World) (h : Ps w B G s) (hl : s.bs.length ≤ 1048576) :
    Calls Try.prog 57 #[pg B] w fun e w' => e = .returned (.bool s.no) ∧ w = w' := by
  obtain ⟨h1, h2, h3, vb, vw, h4, h5, h6⟩ := h
  obtain ⟨a, c, rfl⟩ := h5.slice
  obtain ⟨c0, c1, c2, f0, f1, f2⟩ := h4.cells
  generalize s.no = n at *
  generalize s.bs.length = l at *
  clear h4 h3 h2 h1 h5 h6
  cases n
  · go_enter Try.func57, Try.ntmps57
    go_wp2
    go_ret
    exact ⟨rt_bool (by simp; try omega), rfl⟩
  · go_enter Try.func57, Try.ntmps57
    go_wp2
    go_ret
    exact ⟨rt_bool (by simp; try omega), rfl⟩

set_option maxHeartbeats 1000000 in
theorem big1_any (x : Int) (w : World) (hx : 0 ≤ x) (hx2 : x ≤ 9223372036854775807) :
    Calls Try.prog 58 #[.int .i64 x, .int .i64 1] w fun e w' => ∃ a cap, e = .returned (.slice a (be1 x).length cap) ∧ Rb w' a cap (be1 x) ∧ Below w.heap.size w w' := by
  have hmk : ∀ w, (Instr.makeSlice 22 (.int .i64 1) (.int .i64 1)).run Try.prog w = .ok (.slice (some ⟨w.heap.size, 0, none⟩) 1 1) (w.alloc (.cells #[.int .u8 0] 5)) := by
    intro w
    have h := run_make_row' (P := Try.prog) 22 5 (.int .u8 0) 1 Try.underlying22 info_byte rfl .i64 .i64 1 (by decide) (by decide) w
    rw [show madeCells #[Value.int IntKind.u8 0] 1 = #[.int .u8 0] by kernel_rfl] at h
    exact h
  go_enter Try.func58, Try.ntmps58
  go_wp2
  refine wp_loop_rounds 2 ?_
  rw [rounds_succ]
  go_wp2
  rw [rounds_succ]
  go_wp2
  go_ret
  refine ⟨_, _, rfl, rb_new w 5 (be1 x) _ ?_ (byt_be1 x) (by simp [be1, maxLen]), bl1 _⟩
  simp only [be1, List.map_cons, List.map_nil, Y]
  simp
  omega

set_option maxHeartbeats 1000000 in
theorem big2_any (x : Int) (w : World) (hx : 0 ≤ x) (hx2 : x ≤ 9223372036854775807) :
    Calls Try.prog 58 #[.int .i64 x, .int .i64 2] w fun e w' => ∃ a cap, e = .returned (.slice a (be2 x).length cap) ∧ Rb w' a cap (be2 x) ∧ Below w.heap.size w w' := by
  have hmk : ∀ w, (Instr.makeSlice 22 (.int .i64 2) (.int .i64 2)).run Try.prog w = .ok (.slice (some ⟨w.heap.size, 0, none⟩) 2 2) (w.alloc (.cells #[.int .u8 0, .int .u8 0] 5)) := by
    intro w
    have h := run_make_row' (P := Try.prog) 22 5 (.int .u8 0) 1 Try.underlying22 info_byte rfl .i64 .i64 2 (by decide) (by decide) w
    rw [show madeCells #[Value.int IntKind.u8 0] 2 = #[.int .u8 0, .int .u8 0] by kernel_rfl] at h
    exact h
  go_enter Try.func58, Try.ntmps58
  go_wp2
  refine wp_loop_rounds 3 ?_
  rw [rounds_succ]
  go_wp2
  rw [rounds_succ]
  go_wp2
  rw [rounds_succ]
  go_wp2
  go_ret
  refine ⟨_, _, rfl, rb_new w 5 (be2 x) _ ?_ (byt_be2 x) (by simp [be2, maxLen]), bl1 _⟩
  simp only [be2, List.map_cons, List.map_nil, Y]
  simp
  omega

set_option maxHeartbeats 1000000 in
theorem big4_any (x : Int) (w : World) (hx : 0 ≤ x) (hx2 : x ≤ 9223372036854775807) :
    Calls Try.prog 58 #[.int .i64 x, .int .i64 4] w fun e w' => ∃ a cap, e = .returned (.slice a (be4 x).length cap) ∧ Rb w' a cap (be4 x) ∧ Below w.heap.size w w' := by
  have hmk : ∀ w, (Instr.makeSlice 22 (.int .i64 4) (.int .i64 4)).run Try.prog w = .ok (.slice (some ⟨w.heap.size, 0, none⟩) 4 4) (w.alloc (.cells #[.int .u8 0, .int .u8 0, .int .u8 0, .int .u8 0] 5)) := by
    intro w
    have h := run_make_row' (P := Try.prog) 22 5 (.int .u8 0) 1 Try.underlying22 info_byte rfl .i64 .i64 4 (by decide) (by decide) w
    rw [show madeCells #[Value.int IntKind.u8 0] 4 = #[.int .u8 0, .int .u8 0, .int .u8 0, .int .u8 0] by kernel_rfl] at h
    exact h
  go_enter Try.func58, Try.ntmps58
  go_wp2
  refine wp_loop_rounds 5 ?_
  rw [rounds_succ]
  go_wp2
  rw [rounds_succ]
  go_wp2
  rw [rounds_succ]
  go_wp2
  rw [rounds_succ]
  go_wp2
  rw [rounds_succ]
  go_wp2
  go_ret
  refine ⟨_, _, rfl, rb_new w 5 (be4 x) _ ?_ (byt_be4 x) (by simp [be4, maxLen]), bl1 _⟩
  simp only [be4, List.map_cons, List.map_nil, Y]
  simp
  omega

end Go.Proofs.Ytcjomppgllbfpaa
