/-
  foundryref04.Page: how a page of the reference lies in a world (Ps); done, Big: the walks.
  What the laws of layer 11 ask of the code (CodP); foundrylaw11.awake: the walk.
  Rows of bytes of the call's own (Bo), and how they grow.
  foundryref11.Changes: the walk.
-/
import Derived.Test.YtngkckannclcmaaZ6
import Derived.Deep.OwnRows
import Derived.Test.YtngkckannclcmaaZ5
import Derived.Test.YtngkckannclcmaaZ1
import Derived.Deep.CutRange
import Derived.Deep.CutBlock
namespace Go.Proofs.Ytngkckannclcmaa
open Go.RowKit Go.Maps
set_option linter.unusedSimpArgs false
set_option linter.unusedVariables false
/-- A row of ints, no block of which lies in G. -/
def RowI (w : World) (G : Nat → Prop) (v : Value) (ps : List Int) : Prop := OwnI w v ps ∧ ∀ g, v.ownBlock = some g → ¬ G g
theorem RowI.stay {w w' : World} {G : Nat → Prop} {v : Value} {ps : List Int} (h : RowI w G v ps) (hb : ∀ k, k < w.heap.size → ¬ G k → w'.heap[k]? = w.heap[k]?) : RowI w' G v ps :=
  ⟨h.1.kept (fun g hg => hb g (h.1.lt hg) (h.2 g hg)), h.2⟩
theorem OwnI.ne {w : World} {v : Value} {ps : List Int} (h : OwnI w v ps) {B : Nat} {cs : Array Value} {t : TypeId} {f : Nat × Nat} (hB : w.heap[B]? = some (.cells cs t f)) (ht : t ≠ 3) : v.ownBlock ≠ some B := by
  rcases h.2 with ⟨rfl, _⟩ | ⟨g, cap, cur, rfl, h3, h4, h5⟩
  · intro e; cases e
  · intro e
    simp only [Value.ownBlock, Option.some.injEq] at e
    subst e
    rw [h4] at hB
    simp at hB
    exact ht hB.2.1.symm
theorem RowI.off {w w' : World} {G : Nat → Prop} {v : Value} {ps : List Int} (h : RowI w G v ps) {B : Nat} {cs : Array Value} {t : TypeId} {f : Nat × Nat} (hB : w.heap[B]? = some (.cells cs t f)) (ht : t ≠ 3)
    (hb : ∀ k, k < w.heap.size → k ≠ B → w'.heap[k]? = w.heap[k]?) : RowI w' G v ps :=
  ⟨h.1.kept (fun g hg => hb g (h.1.lt hg) (fun e => h.1.ne hB ht (e ▸ hg))), h.2⟩
/-- A row of bytes and a row of ints lie apart. -/
theorem Row.ne_ints {w : World} {G G' : Nat → Prop} {u v : Value} {xs : List Nat} {ps : List Int} (h : Row w G u xs) (h' : OwnI w v ps) {g : Nat} (hu : u.ownBlock = some g) : v.ownBlock ≠ some g := by
  intro hv
  rcases h'.2 with ⟨rfl, _⟩ | ⟨k, cap, cur, rfl, h3, h4, h5⟩
  · cases hv
  · simp only [Value.ownBlock, Option.some.injEq] at hv
    subst hv
    exact h.ne h4 (by decide) hu
theorem RowI.grown {w w' : World} {G G' : Nat → Prop} {u v : Value} {xs : List Nat} {ps : List Int} (h : RowI w G v ps) (hr : Row w G' u xs) (hg : w.grownBy w' u.ownBlock) : RowI w' G v ps :=
  ⟨h.1.kept (fun g hv => hg.block g (h.1.lt hv) (fun e => hr.ne_ints (G' := G') h.1 e.symm hv)), h.2⟩
theorem Row.grownI {w w' : World} {G : Nat → Prop} {u v : Value} {xs : List Nat} {ps : List Int} (h : Row w G u xs) (hr : OwnI w v ps) (hg : w.grownBy w' v.ownBlock) : Row w' G u xs := by
  refine ⟨h.1.kept hg ?_, h.2⟩
  rcases hb : u.ownBlock with _ | g
  · exact .inl rfl
  · exact .inr (fun e => h.ne_ints (G' := G) hr hb e.symm)
set_option maxHeartbeats 1000000 in
set_option maxRecDepth 100000 in
theorem big1_any (x : Int) (w : World) (hx : 0 ≤ x) (hx2 : x ≤ 9223372036854775807) :
    Calls Try.prog 31 #[.int .i64 x, .int .i64 1] w fun e w' => ∃ a cap, e = .returned (.slice a (be1 x).length cap) ∧ Rb w' a cap (be1 x) ∧ Below w.heap.size w w' := by
  have hmk : ∀ w, (Instr.makeSlice 23 (.int .i64 1) (.int .i64 1)).run Try.prog w = .ok (.slice (some ⟨w.heap.size, 0, none⟩) 1 1) (w.alloc (.cells #[.int .u8 0] 5)) := by
    intro w
    have h := run_make_row' (P := Try.prog) 23 5 (.int .u8 0) 1 Try.underlying23 info_byte rfl .i64 .i64 1 (by decide) (by decide) w
    rw [show madeCells #[Value.int IntKind.u8 0] 1 = #[.int .u8 0] by kernel_rfl] at h
    exact h
  go_enter Try.func31, Try.ntmps31
  go_wp2
  refine wp_loop_rounds 2 ?_
  rw [rounds_succ]
  go_wp2
  rw [rounds_succ]
  go_wp2
  go_ret
  refine ⟨_, _, rfl, rb_new w 5 (be1 x) _ ?_ (byt_be1 x) (by simp [be1, maxLen]), bl1 _⟩
  simp only [be1, List.map_cons, List.map_nil, Y]
  simp
  omega

set_option maxHeartbeats 1000000 in
set_option maxRecDepth 100000 in
theorem big2_any (x : Int) (w : World) (hx : 0 ≤ x) (hx2 : x ≤ 9223372036854775807) :
    Calls Try.prog 31 #[.int .i64 x, .int .i64 2] w fun e w' => ∃ a cap, e = .returned (.slice a (be2 x).length cap) ∧ Rb w' a cap (be2 x) ∧ Below w.heap.size w w' := by
  have hmk : ∀ w, (Instr.makeSlice 23 (.int .i64 2) (.int .i64 2)).run Try.prog w = .ok (.slice (some ⟨w.heap.size, 0, none⟩) 2 2) (w.alloc (.cells #[.int .u8 0, .int .u8 0] 5)) := by
    intro w
    have h := run_make_row' (P := Try.prog) 23 5 (.int .u8 0) 1 Try.underlying23 info_byte rfl .i64 .i64 2 (by decide) (by decide) w
    rw [show madeCells #[Value.int IntKind.u8 0] 2 = #[.int .u8 0, .int .u8 0] by kernel_rfl] at h
    exact h
  go_enter Try.func31, Try.ntmps31
  go_wp2
  refine wp_loop_rounds 3 ?_
  rw [rounds_succ]
  go_wp2
  rw [rounds_succ]
  go_wp2
  rw [rounds_succ]
  go_wp2
  go_ret
  refine ⟨_, _, rfl, rb_new w 5 (be2 x) _ ?_ (byt_be2 x) (by simp [be2, maxLen]), bl1 _⟩
  simp only [be2, List.map_cons, List.map_nil, Y]
  simp
  omega

set_option maxHeartbeats 1000000 in
set_option maxRecDepth 100000 in
theorem big4_any (x : Int) (w : World) (hx : 0 ≤ x) (hx2 : x ≤ 9223372036854775807) :
    Calls Try.prog 31 #[.int .i64 x, .int .i64 4] w fun e w' => ∃ a cap, e = .returned (.slice a (be4 x).length cap) ∧ Rb w' a cap (be4 x) ∧ Below w.heap.size w w' := by
  have hmk : ∀ w, (Instr.makeSlice 23 (.int .i64 4) (.int .i64 4)).run Try.prog w = .ok (.slice (some ⟨w.heap.size, 0, none⟩) 4 4) (w.alloc (.cells #[.int .u8 0, .int .u8 0, .int .u8 0, .int .u8 0] 5)) := by
    intro w
    have h := run_make_row' (P := Try.prog) 23 5 (.int .u8 0) 1 Try.underlying23 info_byte rfl .i64 .i64 4 (by decide) (by decide) w
    rw [show madeCells #[Value.int IntKind.u8 0] 4 = #[.int .u8 0, .int .u8 0, .int .u8 0, .int .u8 0] by kernel_rfl] at h
    exact h
  go_enter Try.func31, Try.ntmps31
  go_wp2
  refine wp_loop_rounds 5 ?_
  rw [rounds_succ]
  go_wp2
  rw [rounds_succ]
  go_wp2
  rw [rounds_succ]
  go_wp2
  rw [rounds_succ]
  go_wp2
  rw [rounds_succ]
  go_wp2
  go_ret
  refine ⟨_, _, rfl, rb_new w 5 (be4 x) _ ?_ (byt_be4 x) (by simp [be4, maxLen]), bl1 _⟩
  simp only [be4, List.map_cons, List.map_nil, Y]
  simp
  omega

end Go.Proofs.Ytngkckannclcmaa

namespace Go.Proofs.Ytngkckannclcmaa
open Go.RowKit Go.Maps
set_option linter.unusedSimpArgs false
set_option linter.unusedVariables false

/-- What is asked of the code. -/
structure CodP : Prop where
  pts : ∀ (a : Option Addr) (cap : Nat) (l : List Int) (w : World), Ri w a cap l → l.length ≤ 3000 → Calls Try.prog 9 #[.slice a l.length cap] w fun e w' => ∃ a' c', e = .returned (.tuple #[.slice a' (ppB l).length c', .int .i64 (ppE l)]) ∧ Rb w' a' c' (ppB l) ∧ Below w.heap.size w w'
  rpts : ∀ (a : Option Addr) (cap : Nat) (b : List Nat) (w : World), Rb w a cap b → b.length ≤ 10000 → Calls Try.prog 11 #[.slice a b.length cap] w fun e w' => ∃ a' c', e = .returned (.tuple #[.slice a' (rpL b).length c', .int .i64 (rpN b), .int .i64 (rpE b)]) ∧ Ri w' a' c' (rpL b) ∧ Below w.heap.size w w'
  chs : ∀ (a : Option Addr) (cap : Nat) (l : List Int) (w : World), Ri w a cap l → l.length ≤ 3000 → Calls Try.prog 15 #[.slice a l.length cap] w fun e w' => ∃ a' c', e = .returned (.tuple #[.slice a' (pcB l).length c', .int .i64 (pcE l)]) ∧ Rb w' a' c' (pcB l) ∧ Below w.heap.size w w'
  rchs : ∀ (a : Option Addr) (cap : Nat) (b : List Nat) (n : Int) (w : World), Rb w a cap b → b.length ≤ 10000 → I64 n → Calls Try.prog 17 #[.slice a b.length cap, .int .i64 n] w fun e w' => ∃ a' c', e = .returned (.tuple #[.slice a' (rcL b n).length c', .int .i64 (rcN b n), .int .i64 (rcE b n)]) ∧ Ri w' a' c' (rcL b n) ∧ Below w.heap.size w w'
/-- Ints laid in a block. -/
theorem Ri.lit (w : World) (zs : List Int) (e : TypeId) (hz : ∀ z ∈ zs, I64 z) (hl : zs.length ≤ maxLen) : Ri (w.alloc (.cells (zs.map (Value.int .i64)).toArray e)) (some ⟨w.heap.size, 0, none⟩) zs.length zs := by
  refine ⟨hz, Nat.le_refl _, hl, .inr ⟨w.heap.size, 0, rfl, by simp, fun i hi => ?_⟩⟩
  have := cell_of_row _ w.heap.size i _ _ (0, 0) (heap_alloc_new w (.cells (zs.map (Value.int .i64)).toArray e))
  rw [Nat.zero_add, this]
  simp [List.getD, hi]
theorem pp_short {l : List Int} (h : ptB l = true) : (ppB l).length ≤ 3 * l.length + 2 := by
  obtain ⟨h1, h2⟩ := ptB_steps h
  have := pk_short fitP (m := 3) (fun x _ => by show szP (kdP x) + 1 ≤ 3; unfold szP; split <;> omega) _ (stps 0 l) rfl h1
  have h3 : (cnE l.length).length ≤ 2 := by unfold cnE; split <;> simp
  rw [stps_len] at this
  rw [ppB, if_pos h, List.length_append]
  omega
theorem ppE_aw : ppE [3, 5, 300] = 0 := by rw [ppE, aw11.1]; rfl

set_option maxHeartbeats 1000000 in
set_option maxRecDepth 100000 in
theorem awake11_any (C : CodP) (w : World) :
    Calls Try.prog 8 #[] w fun e w' => e = .returned (.bool true) ∧ Below w.heap.size w w' := by
  obtain ⟨W, hW, hri, hbW⟩ : ∃ W, W = w.alloc (.cells #[.int .i64 3, .int .i64 5, .int .i64 300] 3) ∧ Ri W (some ⟨w.heap.size, 0, none⟩) 3 [3, 5, 300] ∧ Below w.heap.size w W := ⟨_, rfl, Ri.lit w [3, 5, 300] 3 (by intro z hz; simp at hz; rcases hz with rfl | rfl | rfl <;> exact ⟨by decide, by decide⟩) (by decide), bl1 _⟩
  have hP := C.pts _ _ _ _ hri (by decide)
  rw [aw11.2, ppE_aw] at hP
  simp only [List.length_cons, List.length_nil, Nat.zero_add] at hP
  go_enter Try.func8, Try.ntmps8
  go_wp2_with fail
  rw [← hW]
  clear hW
  refine hP.mono ?_
  rintro e u ⟨a1, c1, rfl, hr, hb⟩
  replace hbW : Below w.heap.size w u := hbW.trans (hb.mono hbW.size)
  clear hP hb hri
  rcases hr.2.2.2.2 with h0 | ⟨b, off, rfl, hb, hc⟩
  · cases h0
  have q0 := hc 0 (by decide)
  have q6 := hc 6 (by decide)
  simp only [Nat.add_zero, List.getD_cons_zero, List.getD_cons_succ] at q0 q6
  clear hc hr
  go_wp2
  go_ret
  exact ⟨rfl, hbW⟩

end Go.Proofs.Ytngkckannclcmaa

namespace Go.Proofs.Ytngkckannclcmaa
open Go.RowKit Go.Maps
set_option linter.unusedSimpArgs false
set_option linter.unusedVariables false

theorem info_b8 : (Try.prog.info? 5).map (fun i => (i.zero, i.size, i.bytes)) = some (some (.int .u8 0), 1, 1) := by kernel_rfl
def Bo (base : Nat) (w : World) (v : Value) (ys : List Nat) : Prop := Byt ys ∧ w.ownsRow base 5 1 v ys.length (ys.map Y)
theorem Bo.nil (base : Nat) (w : World) : Bo base w (.slice none 0 0) [] := ⟨Byt.nil, World.ownsRow_nil w base _ 1⟩
theorem Bo.slice {base : Nat} {w : World} {v : Value} {ys : List Nat} (h : Bo base w v ys) : ∃ a cap, v = .slice a ys.length cap ∧ Rb w a cap ys := by
  have h3 := h.2
  rcases h3.2 with ⟨e, h0⟩ | ⟨g, cap, cur, e, hb, hg, hc1, hc2, hc3, ht⟩
  · have : ys = [] := List.length_eq_zero_iff.1 h0
    subst this
    exact ⟨none, 0, e, Rb.nil _ _ _ (Nat.zero_le _) (fun _ => rfl)⟩
  · subst e
    exact ⟨_, _, rfl, Rw.rd (e := 5) (base := base) ⟨h.1, h3⟩⟩
theorem Bo.below {base : Nat} {w w' : World} {v : Value} {ys : List Nat} (h : Bo base w v ys) (hb : Below w.heap.size w w') : Bo base w' v ys := by
  obtain ⟨h1, h3⟩ := h
  refine ⟨h1, h3.1, ?_⟩
  rcases h3.2 with h0 | ⟨g, cap', cur, k1, k2, k3, k4⟩
  · exact .inl h0
  · exact .inr ⟨g, cap', cur, k1, k2, (hb.block g (Array.getElem?_eq_some_iff.1 k3).1).trans k3, k4⟩
theorem Bo.lo {base : Nat} {w : World} {v : Value} {ys : List Nat} (h : Bo base w v ys) {g : Nat} (hg : v.ownBlock = some g) : base ≤ g ∧ g < w.heap.size := World.ownsRow.lt h.2 g hg
/-- 'append(b, x)': x is laid in a block of its own first. -/
theorem wpList_append_b1 {w : World} {ops : Array Oper} {rest : List Oper} {o : Oper} {a : Act} {Q : Exit → Act → World → Prop}
    (hgd : o.guard = none) (s x : Operand) (ho : o.op = .call { callee := .builtin .append, args := #[s, x], argTypes := #[23, 23] })
    (base : Nat) (v : Value) (ys : List Nat) (hs : a.eval s = v) (hown : Bo base w v ys) (g : Nat) (z : Nat) (hx : a.eval x = .slice (some ⟨g, 0, none⟩) 1 1)
    (c0 : w.cell? ⟨g, 0, none⟩ = some (.int .u8 (z : Int))) (hz : z < 256) (hlen : ys.length + 1 ≤ 1000000) (hbase : base ≤ w.heap.size)
    (h : ∀ v' w', Bo base w' v' (ys ++ [z]) → w.grownBy w' v.ownBlock → wpList Try.prog ops Q rest (a.put o.dst v') w') : wpList Try.prog ops Q (o :: rest) a w := by
  obtain ⟨i0, hi, hz0, hz1, hz2⟩ := info_parts info_b8
  refine wpList_append_oneB hgd s x 23 ho base 5 i0 Try.underlying23 hi hz0 hz1 hz2 v ys.length ys hs hown.2 g z hx c0 (by omega) hbase ?_
  intro v' w' k1 k2 _
  exact h v' w' ⟨hown.1.append (fun y hy => by rw [List.mem_singleton.1 hy]; exact hz), by rw [List.length_append]; exact k1⟩ k2
/-- 'append(b, more...)'. -/
theorem wpList_append_bs {w : World} {ops : Array Oper} {rest : List Oper} {o : Oper} {a : Act} {Q : Exit → Act → World → Prop}
    (hgd : o.guard = none) (s x : Operand) (ho : o.op = .call { callee := .builtin .append, args := #[s, x], argTypes := #[23, 23] })
    (base : Nat) (v : Value) (ys : List Nat) (hs : a.eval s = v) (hown : Bo base w v ys) (ad : Option Addr) (c m : Nat) (zs : List Nat) (hm : m = zs.length) (hx : a.eval x = .slice ad m c)
    (hrd : Rb w ad c zs) (hlen : ys.length + zs.length ≤ 1000000) (hbase : base ≤ w.heap.size)
    (h : ∀ v' w', Bo base w' v' (ys ++ zs) → w.grownBy w' v.ownBlock → wpList Try.prog ops Q rest (a.put o.dst v') w') : wpList Try.prog ops Q (o :: rest) a w := by
  obtain ⟨i0, hi, hz0, hz1, hz2⟩ := info_parts info_b8
  refine wpList_append_rb hgd s x 23 ho base 5 i0 Try.underlying23 hi hz0 hz1 hz2 v ys.length ys hs hown.2 ad c m zs hx hm hrd (by omega) hbase ?_
  intro v' w' k1 k2 _
  exact h v' w' ⟨hown.1.append hrd.lim, by rw [List.length_append]; exact k1⟩ k2

end Go.Proofs.Ytngkckannclcmaa

namespace Go.Proofs.Ytngkckannclcmaa
open Go.RowKit Go.Maps
set_option linter.unusedSimpArgs false
set_option linter.unusedVariables false

theorem getD_drop (l : List Int) (i j : Nat) : (l.drop i).getD j 0 = l.getD (i + j) 0 := by simp [List.getD]
/-- The run that a loop finds. -/
theorem run_found {P : Pk} {l : List Int} {i e : Nat} (h0 : i < e) (h1 : e ≤ i + P.M) (h2 : e ≤ l.length) (h3 : ∀ j, i ≤ j → j < e → P.c (l.getD j 0) = P.c (l.getD i 0)) (h4 : e = i + P.M ∨ e = l.length ∨ P.c (l.getD e 0) ≠ P.c (l.getD i 0)) : rn P.c P.M (l.drop i) = e - i := by
  refine rn_eq (by omega) (by omega) (by rw [List.length_drop]; omega) (fun j hj => ?_) ?_
  · rw [getD_drop, getD_drop, Nat.add_zero]
    exact h3 (i + j) (by omega) (by omega)
  · rw [getD_drop, getD_drop, Nat.add_zero, show i + (e - i) = e by omega, List.length_drop]
    rcases h4 with h4 | h4 | h4
    · exact .inl (by omega)
    · exact .inr (.inl (by omega))
    · exact .inr (.inr h4)
/-- What is packed so far, a run on. -/
theorem pk_step {P : Pk} (hM : 0 < P.M) {l : List Int} {i e c0 h : Nat} {ys tot : List Nat} (hi : i < l.length) (hr : rn P.c P.M (l.drop i) = e - i) (hie : i < e) (hc : P.c (l.getD i 0) = c0) (hh : h = P.M * c0 + (e - i) - 1) (ht : ys ++ pk P (l.drop i) = tot) :
    ys ++ [h] ++ ((l.drop i).take (e - i)).flatMap (P.en c0) ++ pk P (l.drop e) = tot := by
  have hne : l.drop i ≠ [] := by intro e; have := congrArg List.length e; rw [List.length_drop] at this; simp at this; omega
  rw [← ht, pk_cons P hM hne, hr, getD_drop, Nat.add_zero, hc, ← hh, List.drop_drop, show i + (e - i) = e by omega]
  simp only [List.append_assoc]
theorem body_succ {P : Pk} {l : List Int} {i j c0 : Nat} {x : Int} (hij : i ≤ j) (hj : j < l.length) (hx : l.getD j 0 = x) : ((l.drop i).take (j + 1 - i)).flatMap (P.en c0) = ((l.drop i).take (j - i)).flatMap (P.en c0) ++ P.en c0 x := by
  have e : (l.drop i).take (j + 1 - i) = (l.drop i).take (j - i) ++ [x] := by
    rw [show j + 1 - i = (j - i) + 1 by omega, List.take_add_one, List.getElem?_drop, show i + (j - i) = j by omega, List.getElem?_eq_getElem hj, ← hx]
    simp [List.getD, hj]
  rw [e, List.flatMap_append]
  simp
theorem flat_len {f : Int → List Nat} (h : ∀ x, (f x).length ≤ 2) (m : List Int) : (m.flatMap f).length ≤ 2 * m.length := by
  induction m with
  | nil => simp
  | cons x t ih => have := h x; rw [List.flatMap_cons, List.length_append, List.length_cons]; omega
theorem enC_len (kd : Nat) (x : Int) : (enC kd x).length ≤ 2 := by unfold enC be1 be2; split <;> (try split) <;> simp
theorem tmod_nn {z m : Int} (h : 0 ≤ z) : z.tmod m = z % m := Int.tmod_eq_emod_of_nonneg h
theorem be2_65536 {x : Int} : be2 ((x + 65536) % 65536) = be2 x := by
  unfold be2
  rw [show (x + 65536) % 65536 / 256 % 256 = x / 256 % 256 by omega, show (x + 65536) % 65536 % 256 = x % 256 by omega]
theorem run_kind {P : Pk} {l : List Int} {i e c0 : Nat} (hr : rn P.c P.M (l.drop i) = e - i) (hc : P.c (l.getD i 0) = c0) {j : Nat} (h1 : i ≤ j) (h2 : j < e) : P.c (l.getD j 0) = c0 := by
  have := rn_same (c := P.c) (M := P.M) (l := l.drop i) (j := j - i) (by omega)
  rw [getD_drop, getD_drop, Nat.add_zero, show i + (j - i) = j by omega, hc] at this
  exact this

set_option maxHeartbeats 4000000 in
set_option maxRecDepth 100000 in
theorem sChanges_any (a : Option Addr) (cap : Nat) (l : List Int) (w : World) (h : Ri w a cap l) :
    Calls Try.prog 16 #[.slice a l.length cap] w fun e w' => ∃ a' c', e = .returned (.tuple #[.slice a' (pcB l).length c', .int .i64 (pcE l)]) ∧ Rb w' a' c' (pcB l) ∧ Below w.heap.size w w' := by
  have k2 := h.lenB
  have hfo := schanges_any a cap l w h
  have HH : Hid (Ri w a cap l) := h
  clear h
  cases hc : chB l with
  | false =>
    have HE : Hid (pcE l = 1 ∧ pcB l = []) := ⟨by simp [pcE, hc], by simp [pcB, hc]⟩
    rw [hc] at hfo
    clear hc
    go_enter Try.func16, Try.ntmps16
    go_wp2_with fail
    refine hfo.mono ?_
    rintro e u1 ⟨rfl, hb1⟩
    clear hfo
    go_wp2
    go_ret2
    exact ⟨none, 0, by rw [HE.out.1, HE.out.2]; rfl, by rw [HE.out.2]; exact Rb.nil _ _ _ (Nat.zero_le _) (fun _ => rfl), hb1⟩
  | true =>
    have HE : Hid (pcE l = 0 ∧ pcB l = pk PC l) := ⟨by simp [pcE, hc], by simp [pcB, hc]⟩
    have hl2 := (chB_iff.1 hc).2
    have HD : Hid (∀ j, j < l.length → -32768 ≤ l.getD j 0 ∧ l.getD j 0 ≤ 32767) := fun j hj => (chB_iff.1 hc).1 _ (by rw [List.getD_eq_getElem?_getD, List.getElem?_eq_getElem hj]; exact List.getElem_mem hj)
    have HTL : Hid ((pk PC l).length ≤ 6000) := by
      show _ ≤ _
      have := pc_short hc
      rw [pcB, if_pos hc] at this
      omega
    rw [hc] at hfo
    clear hc
    go_enter Try.func16, Try.ntmps16
    go_wp2_with fail
    refine hfo.mono ?_
    rintro e u1 ⟨rfl, hb1⟩
    clear hfo
    have HB1 : Hid (Below w.heap.size w u1) := hb1
    clear hb1
    go_wp2
    go_loopw [4, 5] (fun v ii wr => ∃ (i : Nat) (ys : List Nat), i ≤ l.length ∧ ii = .int .i64 (i : Int) ∧ ys ++ pk PC (l.drop i) = pk PC l ∧ Bo u1.heap.size wr v ys ∧ Below u1.heap.size u1 wr) (fun _ ii _ => l.length - (intOf ii).toNat)
    case atStart => exact ⟨0, [], Nat.zero_le _, rfl, by rw [List.drop_zero, List.nil_append], Bo.nil _ _, Below.refl _ _⟩
    case round =>
      obtain ⟨i, ys, hi, rfl, htot, hBo, hBu⟩ := hrel
      have HT : Hid (ys ++ pk PC (l.drop i) = pk PC l) := htot
      have hyl : ys.length + (pk PC (l.drop i)).length ≤ 6000 := by have := HTL.out; rw [← htot, List.length_append] at this; exact this
      clear htot
      by_cases hin : i < l.length
      rotate_left
      · obtain rfl : i = l.length := by omega
        have HY : Hid (ys = pk PC l) := by show _ = _; rw [← HT.out, List.drop_length]; simp [pk_nil]
        obtain ⟨a2, c2, rfl, hrb⟩ := hBo.slice
        have hbW := HB1.out.trans (hBu.mono HB1.out.size)
        have g1 : ¬ (l.length : Int) < (l.length : Int) := by omega
        go_wp2
        go_ret2
        exact ⟨a2, c2, by rw [HE.out.1, HE.out.2, ← HY.out]; rfl, by rw [HE.out.2, ← HY.out]; exact hrb, hbW⟩
      have g1 : (i : Int) < (l.length : Int) := by omega
      obtain ⟨wo, rfl⟩ : ∃ wo, wo = wr := ⟨_, rfl⟩
      have HBo : Hid (Below w.heap.size w wo) := HB1.out.trans (hBu.mono HB1.out.size)
      obtain ⟨av, cv, rfl, _⟩ := hBo.slice
      have HBo0 : Hid (Bo u1.heap.size wo (.slice av ys.length cv) ys) := hBo
      have HBu : Hid (Below u1.heap.size u1 wo) := hBu
      clear hBo hBu
      go_upto_block 2 with fail
      go_cut [6] from 12 to 86 (fun s6 wx => ∃ e : Nat, s6 = .int .i64 (e : Int) ∧ rn PC.c PC.M (l.drop i) = e - i ∧ i < e ∧ e ≤ l.length ∧ Below wo.heap.size wo wx)
      case first =>
        go_wp2_with fail
        go_loopw [6] (fun s6 wr => ∃ e : Nat, i ≤ e ∧ e ≤ i + 64 ∧ e ≤ l.length ∧ s6 = .int .i64 (e : Int) ∧ (∀ j, i ≤ j → j < e → kdC (l.getD j 0) = kdC (l.getD i 0)) ∧ Below wo.heap.size wo wr) (fun s6 _ => l.length - (intOf s6).toNat)
        case atStart => exact ⟨i, Nat.le_refl _, by omega, hi, rfl, (fun j h1 h2 => by omega), Below.refl _ _⟩
        case round =>
          obtain ⟨e, he1, he2, hle, rfl, hsm, hbR⟩ := hrel
          have HSM : Hid (∀ j, i ≤ j → j < e → kdC (l.getD j 0) = kdC (l.getD i 0)) := hsm
          have hbW := HBo.out.trans (hbR.mono HBo.out.size)
          clear hsm
          have j1 : (i : Int) < (l.length : Int) := by omega
          by_cases h1 : e < l.length
          · by_cases h2 : e < i + 64
            · obtain ⟨b, off, ea, hb, d0⟩ := HH.out.at hbW e h1
              obtain ⟨b', off', ea', _, d1⟩ := HH.out.at hbW i hin
              rw [ea] at ea'
              cases ea'
              subst ea
              have HD : Hid (kdC (l.getD e 0) ≠ kdC (l.getD i 0) → rn PC.c PC.M (l.drop i) = e - i ∧ i < e) := fun h => by
                have hie : i < e := by
                  rcases Nat.lt_or_ge i e with h1 | h1
                  · exact h1
                  · exact absurd (by rw [show e = i by omega]) h
                exact ⟨run_found (P := PC) hie (by show e ≤ i + 64; omega) (by omega) HSM.out (.inr (.inr h)), hie⟩
              obtain ⟨x, hx⟩ : ∃ x, l.getD e 0 = x := ⟨_, rfl⟩
              obtain ⟨y, hy⟩ : ∃ x, l.getD i 0 = x := ⟨_, rfl⟩
              have HK : Hid (kdC x = kdC y → ∀ j, i ≤ j → j < e + 1 → kdC (l.getD j 0) = kdC (l.getD i 0)) := fun h j hj1 hj2 => by
                rcases Nat.lt_or_ge j e with h1 | h1
                · exact HSM.out j hj1 h1
                · rw [show j = e by omega, hx, hy]; exact h
              rw [hx] at d0 HD
              rw [hy] at d1 HD
              have A0 : Cl wr b (off + e) (.int .i64 x) := ⟨World.block_lt_of_cell? wr _ d0, d0⟩
              have A1 : Cl wr b (off + i) (.int .i64 y) := ⟨World.block_lt_of_cell? wr _ d1, d1⟩
              clear d0 d1 hx hy
              have q0 := A0.2
              have q1 := A1.2
              have hw64 : IntKind.i64.wrap ((i : Int) + 64) = (i : Int) + 64 := wrapi64' (by omega) (by omega)
              have g1 : decide (e < l.length) = true := decide_eq_true h1
              have g2 : decide ((e : Int) < (i : Int) + 64) = true := decide_eq_true (by omega)
              have j2 : (e : Int) < (l.length : Int) := by omega
              have j3 : (0 : Int) ≤ (e : Int) := by omega
              have j4 : (0 : Int) ≤ (i : Int) := by omega
              have hka := fun U => (ssort_any x U).mono fun e w' (h : _ ∧ _) => (⟨h.1, h.2 ▸ Below.refl _ _⟩ : _ ∧ Below U.heap.size U w')
              have hkb := fun U => (ssort_any y U).mono fun e w' (h : _ ∧ _) => (⟨h.1, h.2 ▸ Below.refl _ _⟩ : _ ∧ Below U.heap.size U w')
              by_cases h3 : kdC x = kdC y
              · have HSM2 : Hid (∀ j, i ≤ j → j < e + 1 → kdC (l.getD j 0) = kdC (l.getD i 0)) := HK.out h3
                have g3 : (((kdC x : Nat) : Int) == ((kdC y : Nat) : Int)) = true := by simp [h3]
                simp only [h3] at hka g3
                generalize ((kdC y : Nat) : Int) = cy at *
                have g4 : (cy == cy) = true := by simp
                clear h3 HK HD HSM
                go_upto_region 7 with fail
                refine wp_region_held_drew (S := (fun u => u.cell? ⟨b, off + e, none⟩ = some (.int .i64 x) ∧ u.cell? ⟨b, off + i, none⟩ = some (.int .i64 y))) (by kernel_rfl) ?_ (fun hHeld => ?_)
                · (try dsimp only)
                  go_keep
                have hdr : Below wr.heap.size wr wr.drew := Below.drew1
                generalize wr.drew = ud1 at hdr hHeld ⊢
                replace A0 := A0.below hdr
                replace A1 := A1.below hdr
                replace hbW : Below w.heap.size w ud1 := hbW.trans (hdr.mono hbW.size)
                replace hbR : Below wo.heap.size wo ud1 := hbR.trans (hdr.mono hbR.size)
                clear hdr
                refine hT 0 hHeld ?_
                refine hT 1 hHeld ?_
                refine hT 2 hHeld ?_
                refine hT 3 hHeld ?_
                refine hT 4 hHeld ?_
                refine hT 5 hHeld ?_
                refine hT 6 hHeld ?_
                refine hT 7 hHeld ?_
                refine hT 8 hHeld ?_
                refine hT 9 hHeld ?_
                refine hT 10 hHeld ?_
                refine hT 11 hHeld ?_
                refine hT 12 hHeld ?_
                refine hT 13 hHeld ?_
                refine hT 14 hHeld ?_
                refine hT 16 hHeld ?_
                refine hT 17 hHeld ?_
                refine hT 18 hHeld ?_
                refine hT 19 hHeld ?_
                refine hCall (i := 15) rfl (by kernel_rfl) (by rfl) (fun K hK => ?_)
                go_simp
                refine (hka _).mono ?_
                rintro e u1 ⟨rfl, hb1⟩
                replace A0 := A0.below hb1
                replace A1 := A1.below hb1
                replace hbW : Below w.heap.size w u1 := hbW.trans (hb1.mono hbW.size)
                replace hbR : Below wo.heap.size wo u1 := hbR.trans (hb1.mono hbR.size)
                clear hb1
                go_wp2_with fail
                refine hK.out _ _ ?_ (fun hHeld => ?_)
                · (try dsimp only)
                  exact ⟨A0.2, A1.2⟩
                clear hK K
                try simp only [Act.put, List.setIfInBounds_toArray, List.set_cons_zero, List.set_cons_succ]
                refine hCall (i := 20) rfl (by kernel_rfl) (by rfl) (fun K hK => ?_)
                go_simp
                refine (hkb _).mono ?_
                rintro e u2 ⟨rfl, hb2⟩
                replace A0 := A0.below hb2
                replace A1 := A1.below hb2
                replace hbW : Below w.heap.size w u2 := hbW.trans (hb2.mono hbW.size)
                replace hbR : Below wo.heap.size wo u2 := hbR.trans (hb2.mono hbR.size)
                clear hb2
                go_wp2_with fail
                refine hK.out _ _ ?_ (fun hHeld => ?_)
                · (try dsimp only)
                  exact ⟨A0.2, A1.2⟩
                clear hK K
                try simp only [Act.put, List.setIfInBounds_toArray, List.set_cons_zero, List.set_cons_succ]
                refine hT 21 hHeld ?_
                refine hT 22 hHeld ?_
                refine wpAnyH_done (by kernel_rfl) ?_ _
                clear hHeld
                go_wp2_with fail
                go_roundw
                case rel => exact ⟨e + 1, by omega, by omega, by omega, by go_num, HSM2.out, hbR⟩
                case measure => simp [intOf]; omega
              · obtain ⟨h5, h6⟩ := HD.out h3
                have HRN : Hid (rn PC.c PC.M (l.drop i) = e - i) := h5
                have HIE : Hid (i < e) := h6
                have g3 : (((kdC x : Nat) : Int) == ((kdC y : Nat) : Int)) = false := beq_eq_false_iff_ne.2 (by omega)
                generalize ((kdC x : Nat) : Int) = cx at *
                generalize ((kdC y : Nat) : Int) = cy at *
                clear h3 HK HD HSM h5 h6
                go_upto_region 7 with fail
                refine wp_region_held_drew (S := (fun u => u.cell? ⟨b, off + e, none⟩ = some (.int .i64 x) ∧ u.cell? ⟨b, off + i, none⟩ = some (.int .i64 y))) (by kernel_rfl) ?_ (fun hHeld => ?_)
                · (try dsimp only)
                  go_keep
                have hdr : Below wr.heap.size wr wr.drew := Below.drew1
                generalize wr.drew = ud2 at hdr hHeld ⊢
                replace A0 := A0.below hdr
                replace A1 := A1.below hdr
                replace hbW : Below w.heap.size w ud2 := hbW.trans (hdr.mono hbW.size)
                replace hbR : Below wo.heap.size wo ud2 := hbR.trans (hdr.mono hbR.size)
                clear hdr
                refine hT 0 hHeld ?_
                refine hT 1 hHeld ?_
                refine hT 2 hHeld ?_
                refine hT 3 hHeld ?_
                refine hT 4 hHeld ?_
                refine hT 5 hHeld ?_
                refine hT 6 hHeld ?_
                refine hT 7 hHeld ?_
                refine hT 8 hHeld ?_
                refine hT 9 hHeld ?_
                refine hT 10 hHeld ?_
                refine hT 11 hHeld ?_
                refine hT 12 hHeld ?_
                refine hT 13 hHeld ?_
                refine hT 14 hHeld ?_
                refine hT 16 hHeld ?_
                refine hT 17 hHeld ?_
                refine hT 18 hHeld ?_
                refine hT 19 hHeld ?_
                refine hCall (i := 15) rfl (by kernel_rfl) (by rfl) (fun K hK => ?_)
                go_simp
                refine (hka _).mono ?_
                rintro e u1 ⟨rfl, hb1⟩
                replace A0 := A0.below hb1
                replace A1 := A1.below hb1
                replace hbW : Below w.heap.size w u1 := hbW.trans (hb1.mono hbW.size)
                replace hbR : Below wo.heap.size wo u1 := hbR.trans (hb1.mono hbR.size)
                clear hb1
                go_wp2_with fail
                refine hK.out _ _ ?_ (fun hHeld => ?_)
                · (try dsimp only)
                  exact ⟨A0.2, A1.2⟩
                clear hK K
                try simp only [Act.put, List.setIfInBounds_toArray, List.set_cons_zero, List.set_cons_succ]
                refine hCall (i := 20) rfl (by kernel_rfl) (by rfl) (fun K hK => ?_)
                go_simp
                refine (hkb _).mono ?_
                rintro e u2 ⟨rfl, hb2⟩
                replace A0 := A0.below hb2
                replace A1 := A1.below hb2
                replace hbW : Below w.heap.size w u2 := hbW.trans (hb2.mono hbW.size)
                replace hbR : Below wo.heap.size wo u2 := hbR.trans (hb2.mono hbR.size)
                clear hb2
                go_wp2_with fail
                refine hK.out _ _ ?_ (fun hHeld => ?_)
                · (try dsimp only)
                  exact ⟨A0.2, A1.2⟩
                clear hK K
                try simp only [Act.put, List.setIfInBounds_toArray, List.set_cons_zero, List.set_cons_succ]
                refine hT 21 hHeld ?_
                refine hT 22 hHeld ?_
                refine wpAnyH_done (by kernel_rfl) ?_ _
                clear hHeld
                go_wp2_with fail
                go_meet
                exact ⟨e, rfl, HRN.out, HIE.out, hle, hbR⟩
            · have hie : i < e := by omega
              have HRN : Hid (rn PC.c PC.M (l.drop i) = e - i) := run_found (P := PC) hie (by show e ≤ i + 64; omega) (by omega) HSM.out (.inl (by show e = i + 64; omega))
              have HIE : Hid (i < e) := hie
              have hw64 : IntKind.i64.wrap ((i : Int) + 64) = (i : Int) + 64 := wrapi64' (by omega) (by omega)
              have g1 : decide (e < l.length) = true := decide_eq_true h1
              have g2 : decide ((e : Int) < (i : Int) + 64) = false := decide_eq_false (by omega)
              clear h1 h2 HSM hie
              go_upto_region 7 with fail
              refine wp_region_held_drew (S := (fun _ => True)) (by kernel_rfl) ?_ (fun hHeld => ?_)
              · (try dsimp only)
                all_goals go_keep
              have hdr : Below wr.heap.size wr wr.drew := Below.drew1
              generalize wr.drew = ud3 at hdr hHeld ⊢
              replace hbW : Below w.heap.size w ud3 := hbW.trans (hdr.mono hbW.size)
              replace hbR : Below wo.heap.size wo ud3 := hbR.trans (hdr.mono hbR.size)
              clear hdr
              refine hT 0 hHeld ?_
              refine hT 1 hHeld ?_
              refine hT 2 hHeld ?_
              refine hT 3 hHeld ?_
              refine hT 4 hHeld ?_
              refine hT 5 hHeld ?_
              refine hT 6 hHeld ?_
              refine hT 7 hHeld ?_
              refine hT 8 hHeld ?_
              refine hT 9 hHeld ?_
              refine hT 10 hHeld ?_
              refine hN 11 hHeld ?_
              refine hN 12 hHeld ?_
              refine hN 13 hHeld ?_
              refine hN 14 hHeld ?_
              refine hN 15 hHeld ?_
              refine hN 16 hHeld ?_
              refine hN 17 hHeld ?_
              refine hN 18 hHeld ?_
              refine hN 19 hHeld ?_
              refine hN 20 hHeld ?_
              refine hN 21 hHeld ?_
              refine hT 22 hHeld ?_
              refine wpAnyH_done (by kernel_rfl) ?_ _
              clear hHeld
              go_wp2_with fail
              go_meet
              exact ⟨e, rfl, HRN.out, HIE.out, hle, hbR⟩
          · have hie : i < e := by omega
            have HRN : Hid (rn PC.c PC.M (l.drop i) = e - i) := run_found (P := PC) hie (by show e ≤ i + 64; omega) (by omega) HSM.out (.inr (.inl (by omega)))
            have HIE : Hid (i < e) := hie
            have g1 : decide (e < l.length) = false := decide_eq_false h1
            clear h1 HSM hie
            go_upto_region 7 with fail
            refine wp_region_held_drew (S := (fun _ => True)) (by kernel_rfl) ?_ (fun hHeld => ?_)
            · (try dsimp only)
              all_goals go_keep
            have hdr : Below wr.heap.size wr wr.drew := Below.drew1
            generalize wr.drew = ud4 at hdr hHeld ⊢
            replace hbW : Below w.heap.size w ud4 := hbW.trans (hdr.mono hbW.size)
            replace hbR : Below wo.heap.size wo ud4 := hbR.trans (hdr.mono hbR.size)
            clear hdr
            refine hT 0 hHeld ?_
            refine hT 1 hHeld ?_
            refine hT 2 hHeld ?_
            refine hT 3 hHeld ?_
            refine hT 4 hHeld ?_
            refine hN 5 hHeld ?_
            refine hN 6 hHeld ?_
            refine hN 7 hHeld ?_
            refine hN 8 hHeld ?_
            refine hT 9 hHeld ?_
            refine hT 10 hHeld ?_
            refine hN 11 hHeld ?_
            refine hN 12 hHeld ?_
            refine hN 13 hHeld ?_
            refine hN 14 hHeld ?_
            refine hN 15 hHeld ?_
            refine hN 16 hHeld ?_
            refine hN 17 hHeld ?_
            refine hN 18 hHeld ?_
            refine hN 19 hHeld ?_
            refine hN 20 hHeld ?_
            refine hN 21 hHeld ?_
            refine hT 22 hHeld ?_
            refine wpAnyH_done (by kernel_rfl) ?_ _
            clear hHeld
            go_wp2_with fail
            go_meet
            exact ⟨e, rfl, HRN.out, HIE.out, hle, hbR⟩
      case rest =>
        obtain ⟨e, rfl, hrn, hie, hle, hbR⟩ := hcut
        have HRN : Hid (rn PC.c PC.M (l.drop i) = e - i) := hrn
        have hek : e - i ≤ 64 := by have := (rn_le (c := PC.c) (M := PC.M) (l.drop i)).2; rw [hrn] at this; exact this
        have hbW := HBo.out.trans (hbR.mono HBo.out.size)
        have hT := HBo0.out.below hbR
        have hBu := HBu.out.trans (hbR.mono HBu.out.size)
        clear hrn hbR
        obtain ⟨b, off, ea, hb, d0⟩ := HH.out.at hbW i hin
        subst ea
        obtain ⟨y, hy⟩ : ∃ x, l.getD i 0 = x := ⟨_, rfl⟩
        rw [hy] at d0
        have hkc : kdC y ≤ 2 := by rcases kdC_cases y with h | h | h <;> omega
        have hks := ssort_any y wc
        obtain ⟨c0, hc0⟩ : ∃ c, kdC y = c := ⟨_, rfl⟩
        have HC : Hid (PC.c (l.getD i 0) = c0) := by show kdC (l.getD i 0) = c0; rw [hy, hc0]
        rw [hc0] at hks hkc
        obtain ⟨hd, hhd⟩ : ∃ h : Nat, h = 64 * c0 + (e - i) - 1 := ⟨_, rfl⟩
        have HHD : Hid (hd = PC.M * c0 + (e - i) - 1) := hhd
        have hd2 : hd < 256 := by omega
        have hE : 64 * (c0 : Int) + (e : Int) - (i : Int) - 1 = (hd : Int) := by omega
        clear hy hc0 hhd
        go_wp2_with fail
        refine hks.mono ?_
        rintro e' w1 ⟨rfl, rfl⟩
        have hT5 := hT.below (bl1 (.cells #[.int .u8 (hd : Int)] 5))
        have hN := heap_alloc_new wc (.cells #[.int .u8 (hd : Int)] 5)
        have n0 := cell_of_row _ wc.heap.size 0 _ _ (0, 0) hN
        have hbs : u1.heap.size ≤ (wc.alloc (.cells #[.int .u8 (hd : Int)] 5)).heap.size := by have := hBu.size; simp at this ⊢; omega
        have hll : ys.length + 1 ≤ 1000000 := by omega
        clear hN hks d0
        go_wp2_with (at_builtin; refine wpList_append_b1 rfl _ _ rfl u1.heap.size _ ys rfl hT5 wc.heap.size hd rfl n0 hd2 hll hbs ?_)
        intro v' w9 hT9 hgrow
        have hB9 : Below u1.heap.size u1 w9 := (hBu.alloc hBu.size _).grown hgrow hbs (fun k hk => (hT.lo hk).1)
        clear hgrow hT5 n0 hbs hll hT hBu hbW hE
        have HYL : Hid (ys.length ≤ 6000) := by show _ ≤ _; omega
        clear hyl
        go_wp2
        go_loopw [4, 7] (fun v kk wr => ∃ j : Nat, i ≤ j ∧ j ≤ e ∧ kk = .int .i64 (j : Int) ∧ Bo u1.heap.size wr v (ys ++ [hd] ++ ((l.drop i).take (j - i)).flatMap (PC.en c0)) ∧ Below u1.heap.size u1 wr) (fun _ kk _ => e - (intOf kk).toNat)
        case atStart => exact ⟨i, Nat.le_refl _, Nat.le_of_lt hie, rfl, by rw [Nat.sub_self, List.take_zero, List.flatMap_nil, List.append_nil]; exact hT9, hB9⟩
        case round =>
          obtain ⟨j, hj1, hj2, rfl, hT, hBu⟩ := hrel
          by_cases hje : j < e
          rotate_left
          · obtain rfl : j = e := by omega
            have HS : Hid (_) := pk_step (P := PC) (by decide) hin HRN.out hie HC.out HHD.out HT.out
            clear hT9 hB9
            go_wp2
            go_roundw
            case rel => exact ⟨j, _, hle, rfl, HS.out, hT, hBu⟩
            case measure => simp [intOf]; omega
          have hbW := HB1.out.trans (hBu.mono HB1.out.size)
          obtain ⟨b', off', ea, hb', d0⟩ := HH.out.at hbW j (by omega)
          cases ea
          have hdm := HD.out j (by omega)
          have hkx : kdC (l.getD j 0) = c0 := run_kind (P := PC) HRN.out HC.out hj1 hje
          obtain ⟨x, hx⟩ : ∃ x, l.getD j 0 = x := ⟨_, rfl⟩
          have HS : Hid (_) := body_succ (P := PC) (c0 := c0) hj1 (show j < l.length by omega) hx
          have hln : (ys ++ [hd] ++ ((l.drop i).take (j - i)).flatMap (PC.en c0)).length ≤ 7000 := by
            have h1 := HYL.out
            have h2 : (((l.drop i).take (j - i)).flatMap (PC.en c0)).length ≤ 2 * _ := flat_len (enC_len c0) _
            rw [List.length_take] at h2
            rw [List.length_append, List.length_append, List.length_singleton]
            omega
          obtain ⟨zs, hzs⟩ : ∃ zs, ys ++ [hd] ++ ((l.drop i).take (j - i)).flatMap (PC.en c0) = zs := ⟨_, rfl⟩
          have HN : Hid (ys ++ [hd] ++ ((l.drop i).take (j + 1 - i)).flatMap (PC.en c0) = zs ++ enC c0 x) := by
            show _ = _
            rw [HS.out, ← hzs]
            simp only [List.append_assoc]
            rfl
          rw [hx] at hdm hkx d0
          rw [hzs] at hT hln
          clear HS hzs hx hT9 hB9 HD HYL HHD hd2 hbW
          have hks := ssort_any x
          rw [hkx] at hks
          obtain ⟨a4, c4, rfl, _⟩ := hT.slice
          have g1 : (j : Int) < (e : Int) := by omega
          rcases kdC_cases x with ⟨h1, h2⟩ | ⟨h0, h1, h2⟩ | ⟨h0, h1, h2⟩
          · have hc0 : c0 = 2 := hkx.symm.trans h2
            rw [show enC c0 x = [] by rw [hc0]; rfl, List.append_nil] at HN
            rw [hc0] at hks
            clear hc0
            clear hkx h1 h2
            go_wp2_with fail
            refine (hks _).mono ?_
            rintro e' w1 ⟨rfl, rfl⟩
            go_wp2_with fail
            refine (hks _).mono ?_
            rintro e' w1 ⟨rfl, rfl⟩
            clear hks
            go_wp2
            go_roundw
            case rel => exact ⟨j + 1, by omega, by omega, by go_num, by rw [HN.out]; exact hT, hBu⟩
            case measure => simp [intOf]; omega
          · have hc0 : c0 = 1 := hkx.symm.trans h2
            rw [show enC c0 x = be2 x by rw [hc0]; rfl] at HN
            rw [hc0] at hks
            clear hc0
            have hx0 : 0 ≤ x + 65536 := by omega
            obtain ⟨z, hz⟩ : ∃ z, z = (x + 65536) % 65536 := ⟨_, rfl⟩
            have hm : (x + 65536).tmod 65536 = z := by rw [tmod_nn hx0, hz]
            have hbg := fun U => big2_any z U (by omega) (by omega)
            rw [show be2 z = be2 x by rw [hz, be2_65536]] at hbg
            clear hz
            clear hkx h1 h2 h0
            go_wp2_with fail
            refine (hks _).mono ?_
            rintro e' w1 ⟨rfl, rfl⟩
            go_wp2_with fail
            refine (hks _).mono ?_
            rintro e' w1 ⟨rfl, rfl⟩
            clear hks
            go_wp2_with fail
            refine (hbg _).mono ?_
            rintro e' w2 ⟨ab, cb, rfl, hrb, hb2⟩
            clear hbg
            have hT5 := hT.below hb2
            have hB2 := hBu.trans (hb2.mono hBu.size)
            have hbs := hB2.size
            have hll : zs.length + (be2 x).length ≤ 1000000 := by rw [show (be2 x).length = 2 from rfl]; omega
            go_wp2_with (at_builtin; refine wpList_append_bs rfl _ _ rfl u1.heap.size _ zs rfl hT5 _ _ _ (be2 x) rfl rfl hrb hll hbs ?_)
            intro v' w9 hT9 hgrow
            have hB9 : Below u1.heap.size u1 w9 := hB2.grown hgrow hbs (fun k hk => (hT5.lo hk).1)
            clear hgrow hT5 hbs hll hrb hB2 hb2
            go_wp2
            go_roundw
            case rel => exact ⟨j + 1, by omega, by omega, by go_num, by rw [HN.out]; exact hT9, hB9⟩
            case measure => simp [intOf]; omega
          · have hc0 : c0 = 0 := hkx.symm.trans h2
            obtain ⟨z, hz⟩ : ∃ z : Nat, z = (x % 256).toNat := ⟨_, rfl⟩
            rw [show enC c0 x = [z] by rw [hz, hc0]; rfl] at HN
            rw [hc0] at hks
            clear hc0
            have hx0 : 0 ≤ x + 256 := by omega
            have hm : (x + 256).tmod 256 = (z : Int) := by rw [tmod_nn hx0]; omega
            have hz2 : z < 256 := by omega
            clear hkx h1 h2 h0 hz
            have hT5 := hT.below (bl1 (.cells #[.int .u8 (z : Int)] 5))
            have hN := heap_alloc_new wr (.cells #[.int .u8 (z : Int)] 5)
            have n0 := cell_of_row _ wr.heap.size 0 _ _ (0, 0) hN
            have hbs : u1.heap.size ≤ (wr.alloc (.cells #[.int .u8 (z : Int)] 5)).heap.size := by have := hBu.size; simp at this ⊢; omega
            have hll : zs.length + 1 ≤ 1000000 := by omega
            clear hN
            go_wp2_with fail
            refine (hks _).mono ?_
            rintro e' w1 ⟨rfl, rfl⟩
            go_wp2_with (at_builtin; refine wpList_append_b1 rfl _ _ rfl u1.heap.size _ zs rfl hT5 wr.heap.size z rfl n0 hz2 hll hbs ?_)
            intro v' w9 hT9 hgrow
            have hB9 : Below u1.heap.size u1 w9 := (hBu.alloc hBu.size _).grown hgrow hbs (fun k hk => (hT.lo hk).1)
            clear hgrow hT5 n0 hbs hll
            go_wp2_with fail
            refine (hks _).mono ?_
            rintro e' w1 ⟨rfl, rfl⟩
            clear hks
            go_wp2
            go_roundw
            case rel => exact ⟨j + 1, by omega, by omega, by go_num, by rw [HN.out]; exact hT9, hB9⟩
            case measure => simp [intOf]; omega

end Go.Proofs.Ytngkckannclcmaa
