/-
  classes.Back: the walk (a range over what slices.Backward gives).
  A block of cells, known whole (Bk). Nothing here is a walk.
  Rows of ints of the call's own (Gi): as Io, but with what is told of where they lie.
  Rows of ints, cut; what Put lays (no walks).
  slices.Grow, Clone, Concat of rows of ints: the walks.
-/
import Derived.Test.YtechkkefpigcaaaDoorZM2
import Derived.Test.YtechkkefpigcaaaDoorZM1
import Derived.Lib.AppendZerosOnto
import Derived.Deep.CutRange
import Derived.Lib.SliceRun
namespace Go.Proofs.YtechkkefpigcaaaDoor
open Go.RowKit Go.Maps Go.Shelf
set_option linter.unusedSimpArgs false
set_option linter.unusedVariables false
attribute [local go_sem] Oper.semAt_some

theorem bk_all {ms : List Bool} {L : List Int} : ∀ k, (∀ j, j < k → mkB ms (L.getD j 0) = true) → bkF ms L k = -1 := by
  intro k
  induction k with
  | zero => intro _; rfl
  | succ k ih =>
    intro h
    rw [bkF_on (h k (by omega))]
    exact ih (fun j hj => h j (by omega))
theorem bk_done {ms : List Bool} {L : List Int} {f : Nat → Int} (hf : ∀ j, f j = L.getD j 0) {k : Nat} {ys : List (Ix19 k)} (h : vals19 ys = dnL k k) (hp : ∀ x ∈ ys, mkB ms (f x.1) = true) : bkF ms L k = -1 := by
  refine bk_all k (fun j hj => ?_)
  have hm : j ∈ vals19 ys := by rw [h]; exact dnL_mem.2 ⟨k - 1 - j, by omega, by omega⟩
  obtain ⟨x, hx, e⟩ := List.mem_map.1 hm
  have := hp x hx
  rw [hf, e] at this
  exact this
theorem bk_stop {ms : List Bool} {L : List Int} {f : Nat → Int} (hf : ∀ j, f j = L.getD j 0) {k r : Nat} {ini : List (Ix19 k)} {x : Ix19 k} (hr : r ≤ k) (h : vals19 (ini ++ [x]) = dnL k r) (hp : ∀ y ∈ ini, mkB ms (f y.1) = true) (hx : mkB ms (f x.1) = false) : bkF ms L k = (x.1 : Int) := by
  obtain ⟨r', rfl⟩ : ∃ r', r = r' + 1 := by
    cases r with
    | zero => simp [vals19, dnL] at h
    | succ r' => exact ⟨r', rfl⟩
  rw [vals19_app, dnL_succ] at h
  obtain ⟨h1, h2⟩ := List.append_inj' h rfl
  have h3 : x.1 = k - 1 - r' := by simpa using h2
  rw [hf] at hx
  refine bk_next k x.2 hx (fun i hi1 hi2 => ?_)
  have hm : i ∈ vals19 ini := by rw [h1]; exact dnL_mem.2 ⟨k - 1 - i, by omega, by omega⟩
  obtain ⟨y, hy, e⟩ := List.mem_map.1 hm
  have := hp y hy
  rw [hf, e] at this
  exact this
theorem keeps_below {W U : World} (h : Below W.heap.size W U) : KeepsOthers W U := ⟨h.size, fun k o hk _ => (h.block k (Array.getElem?_eq_some_iff.1 hk).1).trans hk⟩
theorem boxed_below {W U : World} {B : Nat} {t : TypeId} {v : Value} (h : Boxed W B t v) (hb : Below W.heap.size W U) : Boxed U B t v := (hb.block B h.lt).trans h

end Go.Proofs.YtechkkefpigcaaaDoor

namespace Go.Proofs.YtechkkefpigcaaaDoor
open Go.RowKit Go.Maps
set_option linter.unusedSimpArgs false
set_option linter.unusedVariables false

/-- A block that holds these cells, and may be written. -/
def Bk (t : TypeId) (w : World) (g : Nat) (cs : List Value) : Prop := w.heap[g]? = some (.cells cs.toArray t (0, 0))
theorem Bk.lt {t : TypeId} {w : World} {g : Nat} {cs : List Value} (h : Bk t w g cs) : g < w.heap.size := (Array.getElem?_eq_some_iff.1 h).1
theorem Bk.below {t : TypeId} {w w' : World} {g : Nat} {cs : List Value} (h : Bk t w g cs) (hb : Below w.heap.size w w') : Bk t w' g cs := (hb.block g h.lt).trans h
theorem Bk.kept {t : TypeId} {G : Nat → Prop} {w w' : World} {g : Nat} {cs : List Value} (h : Bk t w g cs) (hk : Keep G w w') (hg : G g) : Bk t w' g cs := (hk.block g hg).trans h
theorem Bk.new (t : TypeId) (w : World) (cs : List Value) : Bk t (w.alloc (.cells cs.toArray t)) w.heap.size cs := heap_alloc_new w _
theorem Bk.new1 (t : TypeId) (w : World) (o : Obj) (cs : List Value) : Bk t ((w.alloc o).alloc (.cells cs.toArray t)) (w.heap.size + 1) cs := by
  have h := Bk.new t (w.alloc o) cs
  simpa using h
theorem Bk.cell {t : TypeId} {w : World} {g : Nat} {cs : List Value} (h : Bk t w g cs) (j : Nat) (hj : j < cs.length) : w.cell? ⟨g, j, none⟩ = cs[j]? := by
  rw [cell_of_row w g j _ _ (0, 0) h]
  simp
theorem Bk.fz {t : TypeId} {w : World} {g : Nat} {cs : List Value} (h : Bk t w g cs) (j : Nat) : w.frozen? ⟨g, j, none⟩ = false := frozen_of_row w g j _ _ h
theorem Bk.two {t : TypeId} {w : World} {g : Nat} {x y : Value} (h : Bk t w g [x, y]) : w.cell? ⟨g, 0, none⟩ = some x ∧ w.cell? ⟨g, 1, none⟩ = some y ∧ w.frozen? ⟨g, 0, none⟩ = false ∧ w.frozen? ⟨g, 1, none⟩ = false :=
  ⟨h.cell 0 (by simp), h.cell 1 (by simp), h.fz 0, h.fz 1⟩
theorem Bk.three {t : TypeId} {w : World} {g : Nat} {x y z : Value} (h : Bk t w g [x, y, z]) : w.cell? ⟨g, 0, none⟩ = some x ∧ w.cell? ⟨g, 1, none⟩ = some y ∧ w.cell? ⟨g, 2, none⟩ = some z ∧ w.frozen? ⟨g, 0, none⟩ = false ∧ w.frozen? ⟨g, 1, none⟩ = false ∧ w.frozen? ⟨g, 2, none⟩ = false :=
  ⟨h.cell 0 (by simp), h.cell 1 (by simp), h.cell 2 (by simp), h.fz 0, h.fz 1, h.fz 2⟩
theorem Bk.four {t : TypeId} {w : World} {g : Nat} {x y z u : Value} (h : Bk t w g [x, y, z, u]) : w.cell? ⟨g, 0, none⟩ = some x ∧ w.cell? ⟨g, 1, none⟩ = some y ∧ w.cell? ⟨g, 2, none⟩ = some z ∧ w.cell? ⟨g, 3, none⟩ = some u ∧ w.frozen? ⟨g, 0, none⟩ = false ∧ w.frozen? ⟨g, 1, none⟩ = false ∧ w.frozen? ⟨g, 2, none⟩ = false ∧ w.frozen? ⟨g, 3, none⟩ = false :=
  ⟨h.cell 0 (by simp), h.cell 1 (by simp), h.cell 2 (by simp), h.cell 3 (by simp), h.fz 0, h.fz 1, h.fz 2, h.fz 3⟩
theorem Bk.set {t : TypeId} {w : World} {g : Nat} {cs : List Value} (h : Bk t w g cs) (j : Nat) (z : Value) : Bk t (w.setCell ⟨g, j, none⟩ z) g (cs.set j z) := by
  have := heap_setCell_same w g j _ _ z h
  unfold Bk
  rw [this]
  simp
theorem Bk.other {t : TypeId} {w : World} {g b : Nat} {cs : List Value} (h : Bk t w g cs) (j : Nat) (z : Value) (hb : g ≠ b) : Bk t (w.setCell ⟨b, j, none⟩ z) g cs := (Below.heap_setCell _ _ _ _ (fun e => hb e)).trans h
theorem Bk.grown {t : TypeId} {w w' : World} {g : Nat} {cs : List Value} {v : Option Nat} (h : Bk t w g cs) (hg : w.grownBy w' v) (hv : v ≠ some g) : Bk t w' g cs := (hg.block g h.lt (fun e => hv e.symm)).trans h

end Go.Proofs.YtechkkefpigcaaaDoor

namespace Go.Proofs.YtechkkefpigcaaaDoor
open Go.RowKit Go.Maps
set_option linter.unusedSimpArgs false
set_option linter.unusedVariables false

/-- A row of ints of the call's own. -/
def Gi (base : Nat) (w : World) (v : Value) (l : List Int) : Prop := Gw El.int 3 base (fun _ => False) w v l
theorem Gi.nil (base : Nat) (w : World) : Gi base w (.slice none 0 0) [] := Gw.nil _ _ _ _ _
theorem Gi.lo {base : Nat} {w : World} {v : Value} {l : List Int} (h : Gi base w v l) {g : Nat} (hg : v.ownBlock = some g) : base ≤ g ∧ g < w.heap.size := Gw.lo h hg
theorem Gr.ri {S : Nat → Prop} {w : World} {a : Option Addr} {cap : Nat} {l : List Int} (h : Gr El.int S w a cap l) : Ri w a cap l := by
  have hz : ∀ i, i < l.length → I64 (l.getD i 0) := fun i hi => by
    obtain ⟨b, off, vs, e, hb, hr, hc⟩ := h.2.2.2 i hi
    exact hr.2
  refine ⟨fun z hz1 => ?_, h.1, h.2.1, ?_⟩
  · obtain ⟨i, hi, e⟩ := List.getElem_of_mem hz1
    have := hz i hi
    rw [List.getD_eq_getElem?_getD, List.getElem?_eq_getElem hi, Option.getD_some, e] at this
    exact this
  · by_cases h0 : l = []
    · exact .inl h0
    · obtain ⟨b, off, e, hb⟩ := h.blk h0
      refine .inr ⟨b, off, e, hb, fun i hi => ?_⟩
      obtain ⟨b', off', vs, e', hb', hr, hc⟩ := h.2.2.2 i hi
      rw [e] at e'
      cases e'
      have := hc 0 Nat.one_pos
      rw [hr.1, show i * El.int.sz = i from Nat.mul_one i] at this
      exact this
theorem Gi.slice {base : Nat} {w : World} {v : Value} {l : List Int} (h : Gi base w v l) : ∃ a cap, v = .slice a l.length cap ∧ Ri w a cap l ∧ ∀ b o, a = some ⟨b, o, none⟩ → base ≤ b ∧ b < w.heap.size := by
  obtain ⟨a, cap, e, hg, hb⟩ := Gw.slice h
  exact ⟨a, cap, e, hg.ri, hb⟩
theorem Gi.stay {base : Nat} {w w' : World} {v : Value} {l : List Int} (h : Gi base w v l) (hs : w.heap.size ≤ w'.heap.size) (ho : ∀ k, v.ownBlock = some k → w'.heap[k]? = w.heap[k]?) : Gi base w' v l :=
  Gw.stay h hs (fun k hk => hk.elim) ho
theorem Gi.below {base : Nat} {w w' : World} {v : Value} {l : List Int} (h : Gi base w v l) (hb : Below w.heap.size w w') : Gi base w' v l := Gw.below h hb
theorem Gi.grown {base : Nat} {w w' : World} {v : Value} {l : List Int} {r : Option Nat} (h : Gi base w v l) (hg : w.grownBy w' r) (hr : ∀ k, v.ownBlock = some k → r ≠ some k) : Gi base w' v l :=
  h.stay hg.size (fun k hk => hg.block k (h.lo hk).2 (fun e => hr k hk e.symm))
/-- Such a row, and a block of another type. -/
theorem Gi.ne {base : Nat} {w : World} {v : Value} {l : List Int} {t : TypeId} {g : Nat} {cs : List Value} (h : Gi base w v l) (hb : Bk t w g cs) (ht : t ≠ 3) : v.ownBlock ≠ some g := by
  intro e
  obtain ⟨cur, k⟩ := Gw.ty h e
  rw [hb] at k
  simp at k
  exact ht k.2
theorem Gi.set {base : Nat} {w : World} {v : Value} {l : List Int} {t : TypeId} {g : Nat} {cs : List Value} (h : Gi base w v l) (hb : Bk t w g cs) (ht : t ≠ 3) (j : Nat) (z : Value) : Gi base (w.setCell ⟨g, j, none⟩ z) v l :=
  h.stay (by simp [World.setCell]) (fun k hk => Below.heap_setCell _ _ _ _ (fun e => h.ne hb ht (by rw [hk, e])))
/-- 'append(v, z)': z is laid in a block of its own first. -/
theorem wpList_append_gi {w : World} {ops : Array Oper} {rest : List Oper} {o : Oper} {a : Act} {Q : Exit → Act → World → Prop}
    (hgd : o.guard = none) (s x : Operand) (ho : o.op = .call { callee := .builtin .append, args := #[s, x], argTypes := #[23, 23] })
    (base : Nat) (v : Value) (l : List Int) (hs : a.eval s = v) (hown : Gi base w v l) (g : Nat) (z : Int) (hx : a.eval x = .slice (some ⟨g, 0, none⟩) 1 1)
    (hg : g < w.heap.size) (c0 : w.cell? ⟨g, 0, none⟩ = some (.int .i64 z)) (hz : I64 z) (hlen : l.length + 1 ≤ 1000000) (hbase : base ≤ w.heap.size)
    (h : ∀ v' w', Gi base w' v' (l ++ [z]) → w.grownBy w' v.ownBlock → (v'.ownBlock = v.ownBlock ∨ v'.ownBlock = some w.heap.size) → wpList Tryd.prog ops Q rest (a.put o.dst v') w') : wpList Tryd.prog ops Q (o :: rest) a w := by
  refine wpList_append_el 23 3 Tryd.underlying23 infoA_i64 rfl Nat.one_pos (by decide) hgd s x ho base (fun _ => False) v l hs hown (some ⟨g, 0, none⟩) 1 1 [z] rfl hx ?_ hlen hbase (fun v' w' k1 k2 k3 => h v' w' k1 k2 k3)
  refine Gr.one (vs := [.int .i64 z]) ⟨rfl, hz⟩ hg (fun j hj => ?_)
  obtain rfl : j = 0 := by simp [El.int, El.num] at hj; exact hj
  exact c0

end Go.Proofs.YtechkkefpigcaaaDoor

namespace Go.Proofs.YtechkkefpigcaaaDoor
open Go.RowKit Go.Maps
set_option linter.unusedSimpArgs false
set_option linter.unusedVariables false

theorem Gr.anyI {S S' : Nat → Prop} {w : World} {a : Option Addr} {cap : Nat} {l : List Int} (h : Gr El.int S w a cap l) : Gr El.int S' w a cap l := by
  refine ⟨h.1, h.2.1, h.2.2.1, fun i hi => ?_⟩
  obtain ⟨b, off, vs, e, hb, hr, hc⟩ := h.2.2.2 i hi
  exact ⟨b, off, vs, e, hb, El.int_rep.2 (El.int_rep.1 hr), hc⟩
theorem Gr.cutI {S : Nat → Prop} {w : World} {a : Option Addr} {cap : Nat} {l : List Int} (h : Gr El.int S w a cap l) (n : Nat) (hn : n ≤ l.length) : Gr El.int S w (if cap = n then a else a.map (fun x => x.add n)) (cap - n) (l.drop n) := by
  by_cases h0 : n < l.length
  · obtain ⟨b, off, e, hb⟩ := h.blk (fun e => by rw [e] at h0; simp at h0)
    subst e
    have := h.1
    rw [if_neg (by omega)]
    have hadd : (⟨b, off, none⟩ : Addr).add n = ⟨b, off + n * El.int.sz, none⟩ := by
      show _ = (⟨b, off + n * 1, none⟩ : Addr)
      rw [Nat.mul_one]
      unfold Addr.add
      split <;> simp_all
    show Gr El.int S w (some ((⟨b, off, none⟩ : Addr).add n)) _ _
    rw [hadd]
    exact h.from n hn
  · have e : l.drop n = [] := List.drop_eq_nil_of_le (by omega)
    rw [e]
    refine Gr.nil _ _ _ _ _ (Nat.le_trans (Nat.sub_le _ _) h.2.1) (fun e2 => ?_)
    by_cases hc : cap = n
    · omega
    · rw [if_neg hc] at e2
      have := h.2.2.1 (by cases a with | none => rfl | some x => cases e2)
      omega
/-- What Put answers, and where. -/
structure PutA (L : List Int) (f t : Int) (o : List Int) (base : Nat) (w' : World) (e : Ending) : Prop where
  out : ∃ v, e = .returned v ∧ Gi base w' v (puL L f t o)
theorem infoG_i64 : (Tryd.prog.info? 3).map (fun i => (i.zero, i.size, i.bytes)) = some (some (.int .i64 0), El.int.sz, 8) := by kernel_rfl

end Go.Proofs.YtechkkefpigcaaaDoor

namespace Go.Proofs.YtechkkefpigcaaaDoor
open Go.RowKit Go.Maps
set_option linter.unusedSimpArgs false
set_option linter.unusedVariables false

theorem Gr.rwI {S : Nat → Prop} {w wr : World} {a : Option Addr} {cap : Nat} {m : List (List Int)} (h : Gr El.int.row S w a cap m) (hb : Below w.heap.size w wr) (k : Nat) (hk : k < m.length) :
    ∃ b off a' cap', a = some ⟨b, off, none⟩ ∧ b < w.heap.size ∧ wr.cell? ⟨b, off + k, none⟩ = some (.slice a' (m.getD k []).length cap') ∧ Gr El.int S wr a' cap' (m.getD k []) ∧ (m.getD k []).length ≤ 140737488351232 := by
  obtain ⟨b, off, vs, e, hl, ⟨a', cap', hv, hS, hr, hlb⟩, hc⟩ := h.at hb k hk
  have := hc 0 Nat.one_pos
  rw [hv, show k * El.int.row.sz = k from Nat.mul_one k] at this
  exact ⟨b, off, a', cap', e, hl, this, hr, hlb⟩
theorem take_snocI {m : List (List Int)} {k : Nat} (hk : k < m.length) : m.take (k + 1) = m.take k ++ [m.getD k []] := by
  rw [List.take_add_one, List.getElem?_eq_getElem hk]
  simp [List.getD, hk]
theorem flat_succI {cs : List (List Int)} {k : Nat} (hk : k < cs.length) : ((cs.take (k + 1)).flatten).length = ((cs.take k).flatten).length + (cs.getD k []).length := by
  rw [take_snocI hk, List.flatten_append, List.length_append, List.flatten_singleton]
theorem flat_leI (cs : List (List Int)) (k : Nat) : ((cs.take k).flatten).length ≤ cs.flatten.length := by
  conv => rhs; rw [← List.take_append_drop k cs, List.flatten_append, List.length_append]
  omega
theorem flat_snocI {cs : List (List Int)} {k : Nat} {c : List Int} (hk : k < cs.length) (hc : cs.getD k [] = c) : (cs.take (k + 1)).flatten = (cs.take k).flatten ++ c := by
  rw [take_snocI hk, List.flatten_append, List.flatten_singleton, hc]
theorem zero_sizeI (z : Array Value) (n : Nat) : (Builtin.zeroCells z n).size = n * z.size := by simp [Builtin.zeroCells]

set_option maxHeartbeats 2000000 in
set_option maxRecDepth 100000 in
theorem cgrowI_any (n : Nat) (w : World) (hn : n ≤ 1000000) :
    Calls Tryd.prog 49 #[.slice none 0 0, .int .i64 (n : Int)] w fun e w' => ∃ v, e = .returned v ∧ Gi w.heap.size w' v [] ∧ Below w.heap.size w w' := by
  by_cases h0 : n = 0
  · subst h0
    go_enter Tryd.func49, Tryd.ntmps49
    go_wp2
    go_ret
    exact ⟨_, rfl, Gi.nil _ _, Below.refl _ _⟩
  have h1 : ¬ ((n : Int) < 0) := by omega
  have h2 : (0 : Int) < (n : Int) := by omega
  obtain ⟨i0, hi, hz0, hz1, hz2⟩ := info_parts infoA_i64
  have hold := run_firstCells_none (P := Tryd.prog) w.drew i0.size 0 0 0
  have hrz : ∀ ty, (Builtin.append_ #[23, 3] ty #[.slice none 0 0, .int .i64 (n : Int)]).run Tryd.prog w = _ := fun ty => Lib.run_append_grow_zeros w 23 3 ty 3 i0 _ .i64 .i64 Tryd.underlying23 Tryd.underlying3 hi hz0 none 0 0 [] hold n (by omega) (by omega) (by omega) (by omega) (by rw [hz2]; omega) (growslice_fits (by omega) (by rw [hz2]; omega))
  simp only [Nat.zero_add] at hrz
  have hGn : n ≤ grownCap w n 0 3 := grownCap_ge w _ _ _
  obtain ⟨G, hG⟩ : ∃ G, G = grownCap w n 0 3 := ⟨_, rfl⟩
  rw [← hG] at hrz hGn
  have hG63 : G ≤ 9223372036854775807 := by
    have := grownCap_le_maxLen w n 0 3 (by unfold maxLen; omega)
    rw [← hG] at this
    unfold maxLen at this
    omega
  obtain ⟨Z, hZ⟩ : ∃ Z, (([] : List Value).toArray ++ Builtin.zeroCells (Value.int .i64 0).cells n ++ Builtin.zeroCells (Value.int .i64 0).cells (G - n)) = Z := ⟨_, rfl⟩
  have hZs : Z.size = G * 1 := by
    rw [← hZ]
    simp only [Array.size_append, zero_sizeI]
    show 0 + n * 1 + (G - n) * 1 = G * 1
    omega
  rw [hZ] at hrz
  clear hold hG hi hz0 hz1 hz2 h0 hZ
  go_enter Tryd.func49, Tryd.ntmps49
  go_wp2_with (at_builtin; refine Lib.wpList_append_run _ rfl _ _ _ _ rfl _ _ rfl rfl _ _ (hrz _) ?_)
  go_ret
  refine ⟨_, rfl, Gw.made ⟨rfl, .inr ⟨w.heap.size, G, Z, rfl, Nat.le_refl _, ?_, Nat.zero_le _, by unfold maxLen; omega, hZs, rfl⟩⟩, ?_⟩
  · exact heap_alloc_new w _
  · exact (bl1 _).drew

/-- A row of the call's own, or none, and what it holds. -/
structure RowI (zs : List Int) (base : Nat) (w' : World) (e : Ending) : Prop where
  out : ∃ v, e = .returned v ∧ Gi base w' v zs

set_option maxHeartbeats 2000000 in
set_option maxRecDepth 100000 in
theorem cconcatI_any (S : Nat → Prop) (a : Option Addr) (ca : Nat) (cs : List (List Int)) (w : World) (h : Gr El.int.row S w a ca cs) (hl : cs.flatten.length ≤ 100000) :
    Calls Tryd.prog 44 #[.slice a cs.length ca] w fun e w' => RowI cs.flatten w.heap.size w' e ∧ Below w.heap.size w w' := by
  have k2 := h.lenB
  have HH : Hid (Gr El.int.row S w a ca cs) := h
  clear h
  go_enter Tryd.func44, Tryd.ntmps44
  go_wp2
  go_loopw [3, 11] (fun n i wr => ∃ k m : Nat, k ≤ cs.length ∧ i = .int .i64 k ∧ n = .int .i64 (m : Int) ∧ m = ((cs.take k).flatten).length ∧ w = wr) (fun _ i _ => cs.length - (intOf i).toNat)
  case atStart => exact ⟨0, 0, Nat.zero_le _, rfl, rfl, rfl, rfl⟩
  case round =>
    obtain ⟨k, m, hk, rfl, rfl, hm, rfl⟩ := hrel
    have HM : Hid (m = ((cs.take k).flatten).length) := hm
    clear hm
    by_cases hkn : k < cs.length
    · obtain ⟨b, off, a1, c1, ea, hb, d0, hrow, hlb⟩ := HH.out.rwI (Below.refl _ _) k hkn
      subst ea
      have hst := flat_succI hkn
      have hle := flat_leI cs (k + 1)
      rw [← HM.out] at hst
      obtain ⟨c, hc⟩ : ∃ c, cs.getD k [] = c := ⟨_, rfl⟩
      rw [hc] at d0 hst hlb
      have HM2 : Hid (m + c.length = ((cs.take (k + 1)).flatten).length) := hst.symm
      have hmc : m + c.length ≤ 100000 := by omega
      have i1 : (0 : Int) ≤ (k : Int) := by omega
      have i2 : (k : Int) < (cs.length : Int) := by omega
      have i3 : ¬ (m : Int) + (c.length : Int) < 0 := by omega
      clear hc hst hle hrow HM hlb
      go_wp2
      go_roundw
      case rel => exact ⟨k + 1, m + c.length, by omega, by go_num, by go_num, HM2.out, trivial⟩
      case measure => simp [intOf]; omega
    · obtain rfl : k = cs.length := by omega
      have hm : m = cs.flatten.length := by rw [HM.out, List.take_length]
      have g4 : ¬ (cs.length : Int) < (cs.length : Int) := by omega
      have hgr := cgrowI_any m w (by omega)
      clear HM hm
      go_wp2_with fail
      refine hgr.mono ?_
      rintro e u1 ⟨v1, rfl, hT0, hb1⟩
      have HT0 : Hid (Gi w.heap.size u1 v1 []) := hT0
      have HB1 : Hid (Below w.heap.size w u1) := hb1
      clear hgr hT0 hb1 hk hkn
      go_wp2
      go_loopw [6, 27] (fun v i wr => ∃ k : Nat, k ≤ cs.length ∧ i = .int .i64 k ∧ Gi w.heap.size wr v ((cs.take k).flatten) ∧ Below w.heap.size w wr) (fun _ i _ => cs.length - (intOf i).toNat)
      case atStart => exact ⟨0, Nat.zero_le _, rfl, HT0.out, HB1.out⟩
      case round =>
        clear HT0 HB1
        obtain ⟨k, hk, rfl, hT, hB⟩ := hrel
        obtain ⟨a2, c2, rfl, hgr, hblk⟩ := hT.slice
        have HT : Hid (Gw El.int 3 w.heap.size (fun _ => False) wr (.slice a2 ((cs.take k).flatten).length c2) ((cs.take k).flatten)) := hT
        clear hT
        by_cases hkn : k < cs.length
        · obtain ⟨b, off, a1, c1, ea, hb, d0, hrow, hlb⟩ := HH.out.rwI hB k hkn
          subst ea
          have hst := flat_succI hkn
          have hle := flat_leI cs (k + 1)
          obtain ⟨c, hc⟩ : ∃ c, cs.getD k [] = c := ⟨_, rfl⟩
          have HS : Hid (_) := flat_snocI hkn hc
          rw [hc] at d0 hst hlb hrow
          have hll : ((cs.take k).flatten).length + c.length ≤ 1000000 := by omega
          have i1 : (0 : Int) ≤ (k : Int) := by omega
          have i2 : (k : Int) < (cs.length : Int) := by omega
          have hbs : w.heap.size ≤ wr.heap.size := hB.size
          clear hc hst hle hlb hgr hblk
          generalize (cs.take k).flatten = L at *
          go_wp2_with (at_builtin; refine wpList_append_el 23 3 Tryd.underlying23 infoG_i64 rfl (by decide) (by decide) rfl _ _ rfl w.heap.size (fun _ => False) _ L rfl HT.out a1 c1 _ c rfl rfl hrow.anyI hll hbs ?_)
          intro v9 w9 hT9 hgrow _
          have hB9 : Below w.heap.size w w9 := hB.grown hgrow hbs (fun k hk => (HT.out.lo hk).1)
          rw [← HS.out] at hT9
          clear hgrow hbs hll HS
          go_wp2
          go_roundw
          case rel => exact ⟨k + 1, by omega, by go_num, hT9, hB9⟩
          case measure => simp [intOf]; omega
        · obtain rfl : k = cs.length := by omega
          rw [List.take_length] at HT hgr ⊢
          obtain ⟨T, hT⟩ : ∃ T, cs.flatten = T := ⟨_, rfl⟩
          rw [hT] at HT
          have HV : Hid (RowI cs.flatten w.heap.size wr (.returned (.slice a2 T.length c2))) := ⟨_, rfl, by rw [hT]; exact HT.out⟩
          have g4 : ¬ (cs.length : Int) < (cs.length : Int) := by omega
          try rw [hT]
          clear hblk hgr HT hT
          go_wp2
          go_ret
          exact ⟨HV.out, hB⟩

set_option maxHeartbeats 2000000 in
set_option maxRecDepth 100000 in
theorem ccloneI_any (S : Nat → Prop) (a : Option Addr) (ca : Nat) (L : List Int) (w : World) (h : Gr El.int S w a ca L) (hl : L.length ≤ 1000) :
    Calls Tryd.prog 22 #[.slice a L.length ca] w fun e w' => RowI L w.heap.size w' e ∧ Below w.heap.size w w' := by
  cases a with
  | none =>
    have h0 : L = [] := by
      have h1 := h.1
      rw [h.2.2.1 rfl] at h1
      exact List.length_eq_zero_iff.1 (Nat.le_zero.1 h1)
    subst h0
    clear h
    have q22 : ∀ (w : World) (a : Option Addr) (n c n' c' : Nat), (binOp .eql 23 (.slice a n c) (.slice none n' c')).run Tryd.prog w = .ok (.bool a.isNone) w := fun w a n c n' c' => Lib.run_eql_slice_nil w _ _ a n c n' c' Tryd.underlying23
    go_enter Tryd.func22, Tryd.ntmps22
    go_wp2
    go_ret
    exact ⟨⟨_, rfl, Gi.nil _ _⟩, Below.refl _ _⟩
  | some ad =>
    have q22 : ∀ (w : World) (a : Option Addr) (n c n' c' : Nat), (binOp .eql 23 (.slice a n c) (.slice none n' c')).run Tryd.prog w = .ok (.bool a.isNone) w := fun w a n c n' c' => Lib.run_eql_slice_nil w _ _ a n c n' c' Tryd.underlying23
    have hN0 : Gi w.heap.size (w.alloc (.cells #[] 3)) (.slice (some ⟨w.heap.size, 0, none⟩) 0 0) [] := Gw.made (World.ownsRow_made w #[] 0 (Nat.le_refl _) (Nat.zero_le _) rfl)
    have HL : Hid (Gr El.int (fun k => False ∧ (Value.slice (some ⟨w.heap.size, 0, none⟩) 0 0).ownBlock ≠ some k) (w.alloc (.cells #[] 3)) (some ad) ca L) := (h.below (bl1 _)).anyI
    have kl := h.lenB
    have hll : ([] : List Int).length + L.length ≤ 1000000 := by simp; omega
    have hW := (bl1 (w := w) (.cells #[] 3)).size
    clear h
    go_enter Tryd.func22, Tryd.ntmps22
    go_wp2_with (at_builtin; refine wpList_append_el 23 3 Tryd.underlying23 infoG_i64 rfl (by decide) (by decide) rfl _ _ rfl w.heap.size (fun _ => False) _ [] rfl hN0 _ _ _ L rfl rfl HL.out hll hW ?_)
    intro v1 w1 hT1 hgrow _
    have hB1 : Below w.heap.size w w1 := (bl1 _).grown hgrow hW (fun k hk => by simp [Value.ownBlock] at hk; omega)
    have HV : Hid (RowI L w.heap.size w1 (.returned v1)) := ⟨_, rfl, hT1⟩
    clear hgrow hT1 hll hW hN0
    go_wp2
    go_ret
    exact ⟨HV.out, hB1⟩

end Go.Proofs.YtechkkefpigcaaaDoor
