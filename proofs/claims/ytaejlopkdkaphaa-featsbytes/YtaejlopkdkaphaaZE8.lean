/-
  Rows of ints: read (Ri), and of the call's own (Io), and how they grow.
  Rows of ints of the call's own (Gi): as Io, but with what is told of where they lie.
  Bytes and a place behind a pointer (Sc), and worlds that are as they were but for one block (Kp).
  bytes.Equal: the walk.
  How conds, features and swaps lie in a world.
-/
import Derived.Test.YtaejlopkdkaphaaZE1
import Derived.Test.YtaejlopkdkaphaaZE7
import Derived.Test.YtaejlopkdkaphaaZE2
import Derived.Test.YtaejlopkdkaphaaZE3
import Derived.Laws.Cover1
import Derived.Test.YtaejlopkdkaphaaZE6
import Derived.Deep.CutBlock
import Derived.Deep.CutRange
namespace Go.Proofs.Ytaejlopkdkaphaa
open Go.RowKit Go.Maps
set_option linter.unusedSimpArgs false
set_option linter.unusedVariables false

/-- Ints that are read. -/
def Ri (w : World) (a : Option Addr) (cap : Nat) (zs : List Int) : Prop :=
  (∀ z ∈ zs, I64 z) ∧ zs.length ≤ cap ∧ cap ≤ maxLen ∧
  (zs = [] ∨ ∃ b off, a = some ⟨b, off, none⟩ ∧ b < w.heap.size ∧ ∀ i, i < zs.length → w.cell? ⟨b, off + i, none⟩ = some (.int .i64 (zs.getD i 0)))
theorem Ri.at {w wr : World} {a : Option Addr} {cap : Nat} {zs : List Int} (h : Ri w a cap zs) (hb : Below w.heap.size w wr) (k : Nat) (hk : k < zs.length) :
    ∃ b off, a = some ⟨b, off, none⟩ ∧ b < w.heap.size ∧ wr.cell? ⟨b, off + k, none⟩ = some (.int .i64 (zs.getD k 0)) := by
  rcases h.2.2.2 with rfl | ⟨b, off, h1, h2, h3⟩
  · simp at hk
  · exact ⟨b, off, h1, h2, (hb.cell (p := ⟨b, off + k, none⟩) h2).trans (h3 k hk)⟩
theorem Ri.below {w w' : World} {a : Option Addr} {cap : Nat} {zs : List Int} (h : Ri w a cap zs) (hb : Below w.heap.size w w') : Ri w' a cap zs := by
  obtain ⟨h1, h2, h3, h4⟩ := h
  refine ⟨h1, h2, h3, ?_⟩
  rcases h4 with h4 | ⟨b, off, e, h5, h6⟩
  · exact .inl h4
  · exact .inr ⟨b, off, e, Nat.lt_of_lt_of_le h5 hb.size, fun i hi => (hb.cell (p := ⟨b, off + i, none⟩) h5).trans (h6 i hi)⟩
theorem Ri.nil (w : World) (a : Option Addr) (cap : Nat) (h : cap ≤ maxLen) : Ri w a cap [] := ⟨(fun z hz => by cases hz), Nat.zero_le _, h, .inl rfl⟩
theorem Ri.i64 {w : World} {a : Option Addr} {cap : Nat} {zs : List Int} (h : Ri w a cap zs) {k : Nat} (hk : k < zs.length) : I64 (zs.getD k 0) := by
  refine h.1 _ ?_
  rw [List.getD_eq_getElem?_getD, List.getElem?_eq_getElem hk]
  exact List.getElem_mem hk

theorem infoA_i64 : (Try.prog.info? 3).map (fun i => (i.zero, i.size, i.bytes)) = some (some (.int .i64 0), 1, 8) := by kernel_rfl
/-- A row of ints of the call's own. -/
def Io (base : Nat) (w : World) (v : Value) (zs : List Int) : Prop := (∀ z ∈ zs, I64 z) ∧ w.ownsRow base 3 1 v zs.length (zs.map (Value.int .i64))
theorem Io.nil (base : Nat) (w : World) : Io base w (.slice none 0 0) [] := ⟨(fun t ht => by cases ht), World.ownsRow_nil w base _ 1⟩
theorem Io.slice {base : Nat} {w : World} {v : Value} {zs : List Int} (h : Io base w v zs) : ∃ a cap, v = .slice a zs.length cap ∧ Ri w a cap zs := by
  obtain ⟨h1, h3⟩ := h
  rcases h3.2 with ⟨rfl, h0⟩ | ⟨g, cap, cur, rfl, hb, hg, hc1, hc2, hc3, ht⟩
  · have : zs = [] := List.length_eq_zero_iff.1 h0
    subst this
    exact ⟨none, 0, rfl, Ri.nil _ _ _ (Nat.zero_le _)⟩
  · refine ⟨_, cap, rfl, h1, hc1, hc2, .inr ⟨g, 0, rfl, (Array.getElem?_eq_some_iff.1 hg).1, fun i hi => ?_⟩⟩
    have := h3.cells (g := g) rfl i (.int .i64 (zs.getD i 0)) (by simp [List.getD, hi])
    have hadd : (⟨g, 0, none⟩ : Addr).add i = ⟨g, 0 + i, none⟩ := by unfold Addr.add; split <;> simp_all
    rw [hadd] at this
    exact this
theorem Io.below {base : Nat} {w w' : World} {v : Value} {zs : List Int} (h : Io base w v zs) (hb : Below w.heap.size w w') : Io base w' v zs := by
  obtain ⟨h1, h3⟩ := h
  refine ⟨h1, h3.1, ?_⟩
  rcases h3.2 with h0 | ⟨g, cap', cur, k1, k2, k3, k4⟩
  · exact .inl h0
  · exact .inr ⟨g, cap', cur, k1, k2, (hb.block g (Array.getElem?_eq_some_iff.1 k3).1).trans k3, k4⟩
theorem Io.lo {base : Nat} {w : World} {v : Value} {zs : List Int} (h : Io base w v zs) {g : Nat} (hg : v.ownBlock = some g) : base ≤ g := (World.ownsRow.lt h.2 g hg).1
/-- 'append(out, x)': x is laid in a block of its own first. -/
theorem wpList_append_int {w : World} {ops : Array Oper} {rest : List Oper} {o : Oper} {a : Act} {Q : Exit → Act → World → Prop}
    (hgd : o.guard = none) (s x : Operand) (ho : o.op = .call { callee := .builtin .append, args := #[s, x], argTypes := #[26, 26] })
    (base : Nat) (v : Value) (zs : List Int) (hs : a.eval s = v) (hown : Io base w v zs) (g : Nat) (z : Int) (hx : a.eval x = .slice (some ⟨g, 0, none⟩) 1 1)
    (c0 : w.cell? ⟨g, 0, none⟩ = some (.int .i64 z)) (hz : I64 z) (hlen : zs.length + 1 ≤ 1000000) (hbase : base ≤ w.heap.size)
    (h : ∀ v' w', Io base w' v' (zs ++ [z]) → w.grownBy w' v.ownBlock → wpList Try.prog ops Q rest (a.put o.dst v') w') : wpList Try.prog ops Q (o :: rest) a w := by
  obtain ⟨i0, hi, hz0, hz1, hz2⟩ := info_parts infoA_i64
  refine wpList_append_own_at w hgd s x 26 ho base 3 i0 (.int .i64 0) 1 8 Try.underlying26 hi hz0 hz1 hz2 rfl (by decide) v zs.length (zs.map (Value.int .i64)) hs hown.2 ⟨g, 0, none⟩ 1 1 [.int .i64 z] hx rfl ?_ ?_ (by unfold maxLen; omega) (by omega) hbase ?_
  · intro j u hj
    match j, hj with
    | 0, hj => simp at hj; subst hj; simpa [Addr.add] using c0
  · intro u hu
    simp at hu
    subst hu
    rfl
  · intro v' w' k1 k2 _ _
    refine h v' w' ⟨fun s hs => ?_, ?_⟩ k2
    · rcases List.mem_append.1 hs with hs | hs
      · exact hown.1 s hs
      · rw [List.mem_singleton.1 hs]; exact hz
    · rw [List.map_append, List.length_append]
      exact k1
theorem Ri.lenB {w : World} {a : Option Addr} {cap : Nat} {zs : List Int} (h : Ri w a cap zs) : zs.length ≤ 9223372036854775807 := by
  have h1 := h.2.1
  have h2 := h.2.2.1
  unfold maxLen at h2
  omega
/-- 'append(out, place...)'. -/
theorem wpList_append_ris {w : World} {ops : Array Oper} {rest : List Oper} {o : Oper} {a : Act} {Q : Exit → Act → World → Prop}
    (hgd : o.guard = none) (s x : Operand) (ho : o.op = .call { callee := .builtin .append, args := #[s, x], argTypes := #[26, 26] })
    (base : Nat) (v : Value) (zs : List Int) (hs : a.eval s = v) (hown : Io base w v zs) (pa : Option Addr) (pc n : Nat) (ps : List Int) (hn : n = ps.length) (hx : a.eval x = .slice pa n pc)
    (hp : Ri w pa pc ps) (hne : ps ≠ []) (hlen : zs.length + ps.length ≤ 1000000) (hbase : base ≤ w.heap.size)
    (h : ∀ v' w', Io base w' v' (zs ++ ps) → w.grownBy w' v.ownBlock → wpList Try.prog ops Q rest (a.put o.dst v') w') : wpList Try.prog ops Q (o :: rest) a w := by
  subst hn
  obtain ⟨i0, hi, hz0, hz1, hz2⟩ := info_parts infoA_i64
  rcases hp.2.2.2 with h0 | ⟨b, off, rfl, hb, hc⟩
  · exact absurd h0 hne
  refine wpList_append_own_at w hgd s x 26 ho base 3 i0 (.int .i64 0) 1 8 Try.underlying26 hi hz0 hz1 hz2 rfl (by decide) v zs.length (zs.map (Value.int .i64)) hs hown.2 ⟨b, off, none⟩ ps.length pc (ps.map (Value.int .i64)) hx (by simp) ?_ ?_ (by unfold maxLen; omega) (by omega) hbase ?_
  · intro j u hj
    have hjl : j < ps.length := by
      rcases Nat.lt_or_ge j ps.length with h1 | h1
      · exact h1
      · rw [List.getElem?_eq_none (by simpa using h1)] at hj; cases hj
    have hadd : (⟨b, off, none⟩ : Addr).add j = ⟨b, off + j, none⟩ := by unfold Addr.add; split <;> simp_all
    rw [hadd, hc j hjl]
    rw [List.getElem?_map, List.getElem?_eq_getElem hjl] at hj
    simp at hj
    rw [← hj]
    simp [List.getD, hjl]
  · intro u hu
    obtain ⟨z, _, rfl⟩ := List.mem_map.1 hu
    rfl
  · intro v' w' k1 k2 _ _
    refine h v' w' ⟨fun s hs => ?_, ?_⟩ k2
    · rcases List.mem_append.1 hs with hs | hs
      · exact hown.1 s hs
      · exact hp.1 s hs
    · rw [List.map_append, List.length_append]
      exact k1
/-- A row of ints of the call's own that isn't empty, and a store into it. -/
theorem Io.own {base : Nat} {w : World} {v : Value} {zs : List Int} (h : Io base w v zs) (hne : zs ≠ []) :
    ∃ g cap, v = .slice (some ⟨g, 0, none⟩) zs.length cap ∧ base ≤ g ∧ g < w.heap.size ∧ zs.length ≤ cap ∧ (∀ k, k < zs.length → w.cell? ⟨g, k, none⟩ = some (.int .i64 (zs.getD k 0))) ∧ (∀ k, w.frozen? ⟨g, k, none⟩ = false) ∧
      ∀ k z, k < zs.length → I64 z → Io base (w.setCell ⟨g, k, none⟩ (.int .i64 z)) v (zs.set k z) := by
  obtain ⟨h1, h3⟩ := h
  rcases h3.2 with ⟨rfl, h0⟩ | ⟨g, cap, cur, rfl, hb, hg, hc1, hc2, hc3, ht⟩
  · exact absurd (List.length_eq_zero_iff.1 h0) hne
  · refine ⟨g, cap, rfl, hb, (Array.getElem?_eq_some_iff.1 hg).1, hc1, fun k hk => ?_, fun k => frozen_of_row w g k _ _ hg, fun k z hk hz => ⟨fun s hs => ?_, ?_⟩⟩
    · have := h3.cells (g := g) rfl k (.int .i64 (zs.getD k 0)) (by simp [List.getD, hk])
      have hadd : (⟨g, 0, none⟩ : Addr).add k = ⟨g, 0 + k, none⟩ := by unfold Addr.add; split <;> simp_all
      rw [hadd, Nat.zero_add] at this
      exact this
    · rcases List.mem_or_eq_of_mem_set hs with hs | hs
      · exact h1 s hs
      · rw [hs]; exact hz
    · have hset := heap_setCell_same w g k cur 3 (.int .i64 z) hg
      refine ⟨by simp, .inr ⟨g, cap, _, by rw [List.length_set], hb, hset, by simpa using hc1, hc2, ?_, ?_⟩⟩
      · simpa using hc3
      · simp only [List.length_set, Nat.mul_one] at ht ⊢
        rw [List.map_set, ← ht]
        simp [List.take_set]

end Go.Proofs.Ytaejlopkdkaphaa

namespace Go.Proofs.Ytaejlopkdkaphaa
open Go.RowKit Go.Maps
set_option linter.unusedSimpArgs false
set_option linter.unusedVariables false

/-- A row of ints of the call's own. -/
def Gi (base : Nat) (w : World) (v : Value) (l : List Int) : Prop := Gw El.int 3 base (fun _ => False) w v l
theorem Gi.nil (base : Nat) (w : World) : Gi base w (.slice none 0 0) [] := Gw.nil _ _ _ _ _
theorem Gi.lo {base : Nat} {w : World} {v : Value} {l : List Int} (h : Gi base w v l) {g : Nat} (hg : v.ownBlock = some g) : base ≤ g ∧ g < w.heap.size := Gw.lo h hg
theorem Gr.ri {S : Nat → Prop} {w : World} {a : Option Addr} {cap : Nat} {l : List Int} (h : Gr El.int S w a cap l) : Ri w a cap l := by
  have hz : ∀ i, i < l.length → I64 (l.getD i 0) := fun i hi => by
    obtain ⟨b, off, vs, e, hb, hr, hc⟩ := h.2.2.2 i hi
    exact hr.2
  refine ⟨fun z hz1 => ?_, h.1, h.2.1, ?_⟩
  · obtain ⟨i, hi, e⟩ := List.getElem_of_mem hz1
    have := hz i hi
    rw [List.getD_eq_getElem?_getD, List.getElem?_eq_getElem hi, Option.getD_some, e] at this
    exact this
  · by_cases h0 : l = []
    · exact .inl h0
    · obtain ⟨b, off, e, hb⟩ := h.blk h0
      refine .inr ⟨b, off, e, hb, fun i hi => ?_⟩
      obtain ⟨b', off', vs, e', hb', hr, hc⟩ := h.2.2.2 i hi
      rw [e] at e'
      cases e'
      have := hc 0 Nat.one_pos
      rw [hr.1, show i * El.int.sz = i from Nat.mul_one i] at this
      exact this
theorem Gi.slice {base : Nat} {w : World} {v : Value} {l : List Int} (h : Gi base w v l) : ∃ a cap, v = .slice a l.length cap ∧ Ri w a cap l ∧ ∀ b o, a = some ⟨b, o, none⟩ → base ≤ b ∧ b < w.heap.size := by
  obtain ⟨a, cap, e, hg, hb⟩ := Gw.slice h
  exact ⟨a, cap, e, hg.ri, hb⟩
theorem Gi.stay {base : Nat} {w w' : World} {v : Value} {l : List Int} (h : Gi base w v l) (hs : w.heap.size ≤ w'.heap.size) (ho : ∀ k, v.ownBlock = some k → w'.heap[k]? = w.heap[k]?) : Gi base w' v l :=
  Gw.stay h hs (fun k hk => hk.elim) ho
theorem Gi.below {base : Nat} {w w' : World} {v : Value} {l : List Int} (h : Gi base w v l) (hb : Below w.heap.size w w') : Gi base w' v l := Gw.below h hb
theorem Gi.grown {base : Nat} {w w' : World} {v : Value} {l : List Int} {r : Option Nat} (h : Gi base w v l) (hg : w.grownBy w' r) (hr : ∀ k, v.ownBlock = some k → r ≠ some k) : Gi base w' v l :=
  h.stay hg.size (fun k hk => hg.block k (h.lo hk).2 (fun e => hr k hk e.symm))
/-- Such a row, and a block of another type. -/
theorem Gi.ne {base : Nat} {w : World} {v : Value} {l : List Int} {t : TypeId} {g : Nat} {cs : List Value} (h : Gi base w v l) (hb : Bk t w g cs) (ht : t ≠ 3) : v.ownBlock ≠ some g := by
  intro e
  obtain ⟨cur, k⟩ := Gw.ty h e
  rw [hb] at k
  simp at k
  exact ht k.2
theorem Gi.set {base : Nat} {w : World} {v : Value} {l : List Int} {t : TypeId} {g : Nat} {cs : List Value} (h : Gi base w v l) (hb : Bk t w g cs) (ht : t ≠ 3) (j : Nat) (z : Value) : Gi base (w.setCell ⟨g, j, none⟩ z) v l :=
  h.stay (by simp [World.setCell]) (fun k hk => Below.heap_setCell _ _ _ _ (fun e => h.ne hb ht (by rw [hk, e])))
/-- 'append(v, z)': z is laid in a block of its own first. -/
theorem wpList_append_gi {w : World} {ops : Array Oper} {rest : List Oper} {o : Oper} {a : Act} {Q : Exit → Act → World → Prop}
    (hgd : o.guard = none) (s x : Operand) (ho : o.op = .call { callee := .builtin .append, args := #[s, x], argTypes := #[26, 26] })
    (base : Nat) (v : Value) (l : List Int) (hs : a.eval s = v) (hown : Gi base w v l) (g : Nat) (z : Int) (hx : a.eval x = .slice (some ⟨g, 0, none⟩) 1 1)
    (hg : g < w.heap.size) (c0 : w.cell? ⟨g, 0, none⟩ = some (.int .i64 z)) (hz : I64 z) (hlen : l.length + 1 ≤ 1000000) (hbase : base ≤ w.heap.size)
    (h : ∀ v' w', Gi base w' v' (l ++ [z]) → w.grownBy w' v.ownBlock → (v'.ownBlock = v.ownBlock ∨ v'.ownBlock = some w.heap.size) → wpList Try.prog ops Q rest (a.put o.dst v') w') : wpList Try.prog ops Q (o :: rest) a w := by
  refine wpList_append_el 26 3 Try.underlying26 infoA_i64 rfl Nat.one_pos (by decide) hgd s x ho base (fun _ => False) v l hs hown (some ⟨g, 0, none⟩) 1 1 [z] rfl hx ?_ hlen hbase (fun v' w' k1 k2 k3 => h v' w' k1 k2 k3)
  refine Gr.one (vs := [.int .i64 z]) ⟨rfl, hz⟩ hg (fun j hj => ?_)
  obtain rfl : j = 0 := by simp [El.int, El.num] at hj; exact hj
  exact c0

end Go.Proofs.Ytaejlopkdkaphaa

namespace Go.Proofs.Ytaejlopkdkaphaa
open Go.RowKit Go.Maps
set_option linter.unusedSimpArgs false
set_option linter.unusedVariables false

/-- All that was there is as it was, but for block g. -/
def Kp (g : Nat) (w w' : World) : Prop := Keep (fun k => k < w.heap.size ∧ k ≠ g) w w'
theorem Kp.refl (g : Nat) (w : World) : Kp g w w := Keep.refl _ _
theorem Kp.size {g : Nat} {w w' : World} (h : Kp g w w') : w.heap.size ≤ w'.heap.size := Keep.size h
theorem Kp.trans {g : Nat} {a b c : World} (h : Kp g a b) (k : Kp g b c) : Kp g a c :=
  Keep.trans h (Keep.mono k (fun i hi => ⟨Nat.lt_of_lt_of_le hi.1 h.size, hi.2⟩))
theorem Kp.of {g : Nat} {w w' : World} (h : Below w.heap.size w w') : Kp g w w' := Keep.of_below h (fun k hk => hk.1)
theorem Kp.setCell {g : Nat} {a w : World} (h : Kp g a w) (j : Nat) (z : Value) : Kp g a (w.setCell ⟨g, j, none⟩ z) := Keep.setCell h (p := ⟨g, j, none⟩) (fun e => e.2 rfl) z
theorem Kp.below {g B : Nat} {w w' : World} (h : Kp g w w') (h1 : B ≤ w.heap.size) (h2 : B ≤ g) : Below B w w' := Keep.below h (fun k hk => ⟨by omega, by omega⟩)
theorem Kp.alloc {g : Nat} {a w : World} (h : Kp g a w) (o : Obj) : Kp g a (w.alloc o) := h.trans (Kp.of (bl1 o))
theorem Kp.drew {g : Nat} {a w : World} (h : Kp g a w) : Kp g a w.drew := h.trans (Kp.of (Below.refl _ _).drew)
theorem Kp.grown {g : Nat} {a w w' : World} {r : Option Nat} (h : Kp g a w) (hg : w.grownBy w' r) (hr : ∀ k, r = some k → a.heap.size ≤ k) : Kp g a w' :=
  Keep.trans h ⟨hg.os, hg.tape, hg.output, hg.size, fun k hk => hg.block k (Nat.lt_of_lt_of_le hk.1 h.size) (fun e => by have := hr k e.symm; omega)⟩
theorem Kp.block {g : Nat} {w w' : World} (h : Kp g w w') {k : Nat} (h1 : k < w.heap.size) (h2 : k ≠ g) : w'.heap[k]? = w.heap[k]? := Keep.block h k ⟨h1, h2⟩
theorem Bk.kp {t : TypeId} {g b : Nat} {w w' : World} {cs : List Value} (h : Bk t w b cs) (hk : Kp g w w') (hb : b ≠ g) : Bk t w' b cs := (hk.block h.lt hb).trans h
theorem Bk.ne {t u : TypeId} {w : World} {g b : Nat} {cs ds : List Value} (h : Bk t w b cs) (h2 : Bk u w g ds) (ht : t ≠ u) : b ≠ g := by
  intro e
  subst e
  unfold Bk at h h2
  rw [h] at h2
  simp at h2
  exact ht h2.2
theorem Gw.kp {α : Type} {E : El α} {t u : TypeId} {base g : Nat} {w w' : World} {v : Value} {l : List α} {cs : List Value} (h : Gw E t base (fun _ => False) w v l) (hb : Bk u w g cs) (ht : u ≠ t) (hk : Kp g w w') : Gw E t base (fun _ => False) w' v l := by
  refine h.stay hk.size (fun k h1 => h1.elim) (fun k hv => hk.block (h.lo hv).2 (fun e => ?_))
  obtain ⟨cur, k1⟩ := h.ty hv
  rw [e, hb] at k1
  simp at k1
  exact ht k1.2
theorem Gi.kp {u : TypeId} {base g : Nat} {w w' : World} {v : Value} {l : List Int} {cs : List Value} (h : Gi base w v l) (hb : Bk u w g cs) (ht : u ≠ 3) (hk : Kp g w w') : Gi base w' v l := Gw.kp h hb ht hk
theorem Rb.keep' {w w' : World} {a : Option Addr} {cap : Nat} {xs : List Nat} (h : Rb w a cap xs) (hs : w.heap.size ≤ w'.heap.size) (hb : ∀ b o, b < w.heap.size → a = some ⟨b, o, none⟩ → xs ≠ [] → w'.heap[b]? = w.heap[b]?) : Rb w' a cap xs := by
  by_cases h0 : xs = []
  · exact ⟨h.1, h.2.1, h.2.2.1, h.2.2.2.1, .inl h0⟩
  · exact h.keep hs (fun b hb1 ⟨o, e⟩ => hb b o hb1 e h0)
/-- Bytes and a place: a block of two cells. -/
def Sc (t : TypeId) (w : World) (g : Nat) (pa : Option Addr) (pc : Nat) (xs : List Nat) (p : Nat) : Prop :=
  Bk t w g [.slice pa xs.length pc, .int .i64 (p : Int)] ∧ Rb w pa pc xs ∧ ∀ b o, pa = some ⟨b, o, none⟩ → xs ≠ [] → b ≠ g
theorem Sc.bk {t : TypeId} {w : World} {g : Nat} {pa : Option Addr} {pc : Nat} {xs : List Nat} {p : Nat} (h : Sc t w g pa pc xs p) : Bk t w g [.slice pa xs.length pc, .int .i64 (p : Int)] := h.1
theorem Sc.rb {t : TypeId} {w : World} {g : Nat} {pa : Option Addr} {pc : Nat} {xs : List Nat} {p : Nat} (h : Sc t w g pa pc xs p) : Rb w pa pc xs := h.2.1
theorem Sc.below {t : TypeId} {w w' : World} {g : Nat} {pa : Option Addr} {pc : Nat} {xs : List Nat} {p : Nat} (h : Sc t w g pa pc xs p) (hb : Below w.heap.size w w') : Sc t w' g pa pc xs p := ⟨h.1.below hb, h.2.1.below hb, h.2.2⟩
theorem Sc.step {t : TypeId} {w : World} {g : Nat} {pa : Option Addr} {pc : Nat} {xs : List Nat} {p : Nat} (h : Sc t w g pa pc xs p) (q : Nat) : Sc t (w.setCell ⟨g, 1, none⟩ (.int .i64 (q : Int))) g pa pc xs q :=
  ⟨h.1.set 1 _, h.2.1.keep' (by simp [World.setCell]) (fun b o _ e hne => Below.heap_setCell _ _ _ _ (fun e2 => h.2.2 b o e hne e2)), h.2.2⟩
/-- A row of the call's own that grows leaves it. -/
theorem Sc.grown {t : TypeId} {w w' : World} {g : Nat} {pa : Option Addr} {pc : Nat} {xs : List Nat} {p : Nat} {r : Option Nat} (h : Sc t w g pa pc xs p) (hg : w.grownBy w' r) (hr : r ≠ some g) (hb : ∀ b o, pa = some ⟨b, o, none⟩ → xs ≠ [] → r ≠ some b) : Sc t w' g pa pc xs p :=
  ⟨h.1.grown hg hr, h.2.1.keep' hg.size (fun b o hb1 e hne => hg.block b hb1 (fun e2 => hb b o e hne e2.symm)), h.2.2⟩
theorem Sc.base {t : TypeId} {w w0 : World} {g : Nat} {pa : Option Addr} {pc : Nat} {xs : List Nat} {p : Nat} (h : Sc t w g pa pc xs p) : g < w.heap.size := h.1.lt

end Go.Proofs.Ytaejlopkdkaphaa

namespace Go.Proofs.Ytaejlopkdkaphaa
open Go.RowKit Go.Maps
set_option linter.unusedSimpArgs false
set_option linter.unusedVariables false

theorem teq_no {a b : ByteArray} (h : a ≠ b) : (a.toList == b.toList) = false := beq_eq_false_iff_ne.2 (fun e => h (toList_inj e))
theorem Rb.strA {w : World} {a : Option Addr} {cap : Nat} {xs : List Nat} (h : Rb w a cap xs) :
    (convert 34 9 (.slice a xs.length cap)).run Try.prog w = .ok (.string (str8 xs)) w := by
  by_cases hx : xs = []
  · subst hx
    have e : (convert 34 9 (.slice a 0 cap)).run Try.prog w = .ok (.string ByteArray.empty) w := by
      rw [run_convert_bytes_string w 34 9 5 _ 0 cap Try.underlying34 Try.underlying5 Try.underlying9]
      cases a <;> simp [Conv.bytesToString, loadCells, loadCellsFrom]
    exact e
  · exact h.str hx
theorem str8_inj {xs ys : List Nat} (hx : Byt xs) (hy : Byt ys) (e : str8 xs = str8 ys) : xs = ys := by
  rw [← sb_str8 hx, e, sb_str8 hy]

end Go.Proofs.Ytaejlopkdkaphaa

namespace Go.Proofs.Ytaejlopkdkaphaa
open Go.RowKit Go.Maps
set_option linter.unusedSimpArgs false
set_option linter.unusedVariables false

def CnE : El Cn := (El.int.cat (El.int.cat El.int)).via (fun x => (x.ax, x.ls, x.ms)) Cn.none
def FtE : El Ft := (El.str.cat El.int.row).via (fun x => (x.tg, x.lk)) Ft.none
def SwE : El Sw := (CnE.row.cat (El.int.cat El.int.row)).via (fun x => (x.cn, x.ft, x.lk)) Sw.none
def CnW (x : Cn) : Prop := I64 x.ax ∧ I64 x.ls ∧ I64 x.ms
def cnC (x : Cn) : List Value := [.int .i64 x.ax, .int .i64 x.ls, .int .i64 x.ms]
theorem CnE_rep {S : Nat → Prop} {w : World} {vs : List Value} {x : Cn} : CnE.rep S w vs x ↔ vs = cnC x ∧ CnW x := by
  constructor
  · rintro ⟨us, ts, rfl, ⟨rfl, h1⟩, us2, ts2, rfl, ⟨rfl, h2⟩, ⟨rfl, h3⟩⟩
    exact ⟨rfl, h1, h2, h3⟩
  · rintro ⟨rfl, h1, h2, h3⟩
    exact ⟨[_], _, rfl, ⟨rfl, h1⟩, [_], [_], rfl, ⟨rfl, h2⟩, ⟨rfl, h3⟩⟩
theorem FtE_rep {S : Nat → Prop} {w : World} {vs : List Value} {x : Ft} : FtE.rep S w vs x ↔ ∃ a c, vs = [.string x.tg, .slice a x.lk.length c] ∧ x.tg.size ≤ maxLen ∧ El.int.row.rep S w [.slice a x.lk.length c] x.lk := by
  constructor
  · rintro ⟨us, ts, rfl, ⟨rfl, h1⟩, h2⟩
    have r2 := h2
    obtain ⟨a, c, e, _⟩ := h2
    subst e
    exact ⟨a, c, rfl, h1, r2⟩
  · rintro ⟨a, c, rfl, h1, h2⟩
    exact ⟨[_], [_], rfl, ⟨rfl, h1⟩, h2⟩
theorem SwE_rep {S : Nat → Prop} {w : World} {vs : List Value} {x : Sw} : SwE.rep S w vs x ↔ ∃ a c a' c', vs = [.slice a x.cn.length c, .int .i64 x.ft, .slice a' x.lk.length c'] ∧ CnE.row.rep S w [.slice a x.cn.length c] x.cn ∧ I64 x.ft ∧ El.int.row.rep S w [.slice a' x.lk.length c'] x.lk := by
  constructor
  · rintro ⟨us, ts, rfl, h1, us2, ts2, rfl, ⟨rfl, h2⟩, h3⟩
    have r1 := h1
    have r3 := h3
    obtain ⟨a, c, e, _⟩ := h1
    obtain ⟨a', c', e', _⟩ := h3
    subst e e'
    exact ⟨a, c, a', c', rfl, r1, h2, r3⟩
  · rintro ⟨a, c, a', c', rfl, h1, h2, h3⟩
    exact ⟨[_], [_, _], rfl, h1, [_], [_], rfl, ⟨rfl, h2⟩, h3⟩
theorem rowF_rep {α : Type} {E : El α} {S : Nat → Prop} {w : World} {a : Option Addr} {c : Nat} {l : List α} (h : E.row.rep S w [.slice a l.length c] l) : Gr E S w a c l ∧ l.length ≤ 140737488351232 ∧ ∀ b o, a = some ⟨b, o, none⟩ → l ≠ [] → S b := by
  obtain ⟨a', c', e, h0, h1, h2⟩ := h
  injection e with e
  injection e with e1 e2 e3
  subst e1 e3
  exact ⟨h1, h2, h0⟩
theorem Gr.cn {S : Nat → Prop} {w wr : World} {a : Option Addr} {cap : Nat} {l : List Cn} (h : Gr CnE S w a cap l) (hb : Below w.heap.size w wr) (k : Nat) (hk : k < l.length) :
    ∃ b off, a = some ⟨b, off, none⟩ ∧ b < w.heap.size ∧ CnW (l.getD k Cn.none) ∧ wr.cell? ⟨b, off + k * 3, none⟩ = some (.int .i64 (l.getD k Cn.none).ax) ∧ wr.cell? ⟨b, off + k * 3 + 1, none⟩ = some (.int .i64 (l.getD k Cn.none).ls) ∧ wr.cell? ⟨b, off + k * 3 + 2, none⟩ = some (.int .i64 (l.getD k Cn.none).ms) := by
  obtain ⟨b, off, vs, e, hl, hr, hc⟩ := h.at hb k hk
  obtain ⟨rfl, hw⟩ := CnE_rep.1 hr
  exact ⟨b, off, e, hl, hw, hc 0 (by decide), hc 1 (by decide), hc 2 (by decide)⟩
theorem Gr.ft {S : Nat → Prop} {w wr : World} {a : Option Addr} {cap : Nat} {l : List Ft} (h : Gr FtE S w a cap l) (hb : Below w.heap.size w wr) (k : Nat) (hk : k < l.length) :
    ∃ b off a' c', a = some ⟨b, off, none⟩ ∧ b < w.heap.size ∧ (l.getD k Ft.none).tg.size ≤ maxLen ∧ wr.cell? ⟨b, off + k * 2, none⟩ = some (.string (l.getD k Ft.none).tg) ∧ wr.cell? ⟨b, off + k * 2 + 1, none⟩ = some (.slice a' (l.getD k Ft.none).lk.length c') ∧ El.int.row.rep S wr [.slice a' (l.getD k Ft.none).lk.length c'] (l.getD k Ft.none).lk := by
  obtain ⟨b, off, vs, e, hl, hr, hc⟩ := (h.below hb).at (Below.refl _ _) k hk
  obtain ⟨b2, off2, vs2, e2, hl2, _⟩ := h.at hb k hk
  obtain ⟨a', c', rfl, h1, h2⟩ := FtE_rep.1 hr
  rw [e] at e2
  cases e2
  exact ⟨b, off, a', c', e, hl2, h1, hc 0 (by decide), hc 1 (by decide), h2⟩
theorem Gr.sw {S : Nat → Prop} {w wr : World} {a : Option Addr} {cap : Nat} {l : List Sw} (h : Gr SwE S w a cap l) (hb : Below w.heap.size w wr) (k : Nat) (hk : k < l.length) :
    ∃ b off a' c' a2 c2, a = some ⟨b, off, none⟩ ∧ b < w.heap.size ∧ I64 (l.getD k Sw.none).ft ∧ wr.cell? ⟨b, off + k * 3, none⟩ = some (.slice a' (l.getD k Sw.none).cn.length c') ∧ wr.cell? ⟨b, off + k * 3 + 1, none⟩ = some (.int .i64 (l.getD k Sw.none).ft) ∧ wr.cell? ⟨b, off + k * 3 + 2, none⟩ = some (.slice a2 (l.getD k Sw.none).lk.length c2) ∧ CnE.row.rep S wr [.slice a' (l.getD k Sw.none).cn.length c'] (l.getD k Sw.none).cn ∧ El.int.row.rep S wr [.slice a2 (l.getD k Sw.none).lk.length c2] (l.getD k Sw.none).lk := by
  obtain ⟨b, off, vs, e, hl, hr, hc⟩ := (h.below hb).at (Below.refl _ _) k hk
  obtain ⟨b2, off2, vs2, e2, hl2, _⟩ := h.at hb k hk
  obtain ⟨a', c', a2, c2, rfl, h1, h2, h3⟩ := SwE_rep.1 hr
  rw [e] at e2
  cases e2
  exact ⟨b, off, a', c', a2, c2, e, hl2, h2, hc 0 (by decide), hc 1 (by decide), hc 2 (by decide), h1, h3⟩
/-- An int of a row of ints. -/
theorem Gr.in1 {S : Nat → Prop} {w wr : World} {a : Option Addr} {cap : Nat} {l : List Int} (h : Gr El.int S w a cap l) (hb : Below w.heap.size w wr) (k : Nat) (hk : k < l.length) :
    ∃ b off, a = some ⟨b, off, none⟩ ∧ b < w.heap.size ∧ I64 (l.getD k 0) ∧ wr.cell? ⟨b, off + k, none⟩ = some (.int .i64 (l.getD k 0)) := by
  obtain ⟨b, off, vs, e, hl, hr, hc⟩ := h.at hb k hk
  obtain ⟨rfl, hw⟩ := El.int_rep.1 hr
  have := hc 0 Nat.one_pos
  rw [show k * El.int.sz = k from Nat.mul_one k] at this
  exact ⟨b, off, e, hl, hw, this⟩
/-- A text of a row of texts. -/
theorem Gr.st1 {S : Nat → Prop} {w wr : World} {a : Option Addr} {cap : Nat} {l : List ByteArray} (h : Gr El.str S w a cap l) (hb : Below w.heap.size w wr) (k : Nat) (hk : k < l.length) :
    ∃ b off, a = some ⟨b, off, none⟩ ∧ b < w.heap.size ∧ (l.getD k ⟨#[]⟩).size ≤ maxLen ∧ wr.cell? ⟨b, off + k, none⟩ = some (.string (l.getD k ⟨#[]⟩)) := by
  obtain ⟨b, off, vs, e, hl, ⟨rfl, hw⟩, hc⟩ := h.at hb k hk
  have := hc 0 Nat.one_pos
  rw [show k * El.str.sz = k from Nat.mul_one k] at this
  exact ⟨b, off, e, hl, hw, this⟩
theorem info_cnF : (Try.prog.info? 46).map (fun i => (i.zero, i.size, i.bytes)) = some (some (.agg #[.int .i64 0, .int .i64 0, .int .i64 0]), 3, 24) := by kernel_rfl
theorem info_ftF : (Try.prog.info? 49).map (fun i => (i.zero, i.size, i.bytes)) = some (some (.agg #[.string ByteArray.empty, .slice none 0 0]), 2, 40) := by kernel_rfl
theorem info_swF : (Try.prog.info? 53).map (fun i => (i.zero, i.size, i.bytes)) = some (some (.agg #[.slice none 0 0, .int .i64 0, .slice none 0 0]), 3, 56) := by kernel_rfl
theorem info_i64F : (Try.prog.info? 3).map (fun i => (i.zero, i.size, i.bytes)) = some (some (.int .i64 0), 1, 8) := by kernel_rfl
theorem getF_mem {α : Type} {m : List α} {d : α} {k : Nat} (hk : k < m.length) : m.getD k d ∈ m := by rw [List.getD_eq_getElem?_getD, List.getElem?_eq_getElem hk]; exact List.getElem_mem hk
theorem take_snocF {α : Type} {m : List α} {d : α} {k : Nat} (hk : k < m.length) : m.take (k + 1) = m.take k ++ [m.getD k d] := by
  rw [List.take_add_one, List.getElem?_eq_getElem hk, List.getD_eq_getElem?_getD, List.getElem?_eq_getElem hk]
  rfl

/-- The number of one of that many. -/
def nuF (n m : Int) : Bool := decide (0 ≤ n) && decide (n < m)

set_option maxHeartbeats 400000 in
set_option maxRecDepth 100000 in
theorem numberOf_any (n m : Int) (w : World) :
    Calls Try.prog 23 #[.int .i64 n, .int .i64 m] w fun e w' => e = .returned (.bool (nuF n m)) ∧ w = w' := by
  by_cases h0 : 0 ≤ n
  · by_cases h1 : n < m
    · have hV : Hid (nuF n m = true) := by show _ = _; unfold nuF; simp [h0, h1]
      go_enter Try.func23, Try.ntmps23
      go_wp2
      go_ret
      exact ⟨rt_bool hV.out.symm, rfl⟩
    · have hV : Hid (nuF n m = false) := by show _ = _; unfold nuF; simp [h1]
      go_enter Try.func23, Try.ntmps23
      go_wp2
      go_ret
      exact ⟨rt_bool hV.out.symm, rfl⟩
  · have hV : Hid (nuF n m = false) := by show _ = _; unfold nuF; simp [h0]
    go_enter Try.func23, Try.ntmps23
    go_wp2
    go_ret
    exact ⟨rt_bool hV.out.symm, rfl⟩

set_option maxHeartbeats 400000 in
set_option maxRecDepth 100000 in
theorem ccoF_any (z : Int) (w : World) : Calls Try.prog 79 #[.int .i64 z] w fun e w' => e = .returned (.bool (coFt z)) ∧ w = w' := by
  by_cases h1 : -16384 ≤ z
  · by_cases h2 : z ≤ 16384
    · have hV : Hid (coFt z = true) := by show _ = _; unfold coFt; simp [h1, h2]
      go_enter Try.func79, Try.ntmps79
      go_wp2
      go_ret
      exact ⟨rt_bool hV.out.symm, rfl⟩
    · have hV : Hid (coFt z = false) := by show _ = _; unfold coFt; simp [h2]
      go_enter Try.func79, Try.ntmps79
      go_wp2
      go_ret
      exact ⟨rt_bool hV.out.symm, rfl⟩
  · have hV : Hid (coFt z = false) := by show _ = _; unfold coFt; simp [h1]
    go_enter Try.func79, Try.ntmps79
    go_wp2
    go_ret
    exact ⟨rt_bool hV.out.symm, rfl⟩

set_option maxHeartbeats 400000 in
set_option maxRecDepth 100000 in
theorem scoF_any (z : Int) (w : World) : Calls Try.prog 81 #[.int .i64 z] w fun e w' => e = .returned (.bool (coFt z)) ∧ w = w' := by
  by_cases h1 : -16384 ≤ z
  · by_cases h2 : z ≤ 16384
    · have hV : Hid (coFt z = true) := by show _ = _; unfold coFt; simp [h1, h2]
      go_enter Try.func81, Try.ntmps81
      go_wp2
      go_ret
      exact ⟨rt_bool hV.out.symm, rfl⟩
    · have hV : Hid (coFt z = false) := by show _ = _; unfold coFt; simp [h2]
      go_enter Try.func81, Try.ntmps81
      go_wp2
      go_ret
      exact ⟨rt_bool hV.out.symm, rfl⟩
  · have hV : Hid (coFt z = false) := by show _ = _; unfold coFt; simp [h1]
    go_enter Try.func81, Try.ntmps81
    go_wp2
    go_ret
    exact ⟨rt_bool hV.out.symm, rfl⟩

end Go.Proofs.Ytaejlopkdkaphaa
