/-
  Rows of ints: read (Ri), and of the call's own (Io), and how they grow.
  How points, parts and outlines lie in a world.
  outline.fields, partsFormed, contoursFormed, Formed: the walks.
  infer.fields, infer.nearest: the walks.
-/
import Derived.Test.YthoildjecoppgaaGreatDoorZ10
import Derived.Test.YthoildjecoppgaaGreatDoorZ15
import Derived.Test.YthoildjecoppgaaGreatDoorZ16
import Derived.Test.YthoildjecoppgaaGreatDoorZ11
namespace Go.Proofs.YthoildjecoppgaaGreatDoor
open Go.RowKit Go.Maps
set_option linter.unusedSimpArgs false
set_option linter.unusedVariables false

/-- Ints that are read. -/
def Ri (w : World) (a : Option Addr) (cap : Nat) (zs : List Int) : Prop :=
  (∀ z ∈ zs, I64 z) ∧ zs.length ≤ cap ∧ cap ≤ maxLen ∧
  (zs = [] ∨ ∃ b off, a = some ⟨b, off, none⟩ ∧ b < w.heap.size ∧ ∀ i, i < zs.length → w.cell? ⟨b, off + i, none⟩ = some (.int .i64 (zs.getD i 0)))
theorem Ri.at {w wr : World} {a : Option Addr} {cap : Nat} {zs : List Int} (h : Ri w a cap zs) (hb : Below w.heap.size w wr) (k : Nat) (hk : k < zs.length) :
    ∃ b off, a = some ⟨b, off, none⟩ ∧ b < w.heap.size ∧ wr.cell? ⟨b, off + k, none⟩ = some (.int .i64 (zs.getD k 0)) := by
  rcases h.2.2.2 with rfl | ⟨b, off, h1, h2, h3⟩
  · simp at hk
  · exact ⟨b, off, h1, h2, (hb.cell (p := ⟨b, off + k, none⟩) h2).trans (h3 k hk)⟩
theorem Ri.below {w w' : World} {a : Option Addr} {cap : Nat} {zs : List Int} (h : Ri w a cap zs) (hb : Below w.heap.size w w') : Ri w' a cap zs := by
  obtain ⟨h1, h2, h3, h4⟩ := h
  refine ⟨h1, h2, h3, ?_⟩
  rcases h4 with h4 | ⟨b, off, e, h5, h6⟩
  · exact .inl h4
  · exact .inr ⟨b, off, e, Nat.lt_of_lt_of_le h5 hb.size, fun i hi => (hb.cell (p := ⟨b, off + i, none⟩) h5).trans (h6 i hi)⟩
theorem Ri.nil (w : World) (a : Option Addr) (cap : Nat) (h : cap ≤ maxLen) : Ri w a cap [] := ⟨(fun z hz => by cases hz), Nat.zero_le _, h, .inl rfl⟩
theorem Ri.i64 {w : World} {a : Option Addr} {cap : Nat} {zs : List Int} (h : Ri w a cap zs) {k : Nat} (hk : k < zs.length) : I64 (zs.getD k 0) := by
  refine h.1 _ ?_
  rw [List.getD_eq_getElem?_getD, List.getElem?_eq_getElem hk]
  exact List.getElem_mem hk

theorem infoA_i64 : (Tryz.prog.info? 3).map (fun i => (i.zero, i.size, i.bytes)) = some (some (.int .i64 0), 1, 8) := by kernel_rfl
/-- A row of ints of the call's own. -/
def Io (base : Nat) (w : World) (v : Value) (zs : List Int) : Prop := (∀ z ∈ zs, I64 z) ∧ w.ownsRow base 3 1 v zs.length (zs.map (Value.int .i64))
theorem Io.nil (base : Nat) (w : World) : Io base w (.slice none 0 0) [] := ⟨(fun t ht => by cases ht), World.ownsRow_nil w base _ 1⟩
theorem Io.slice {base : Nat} {w : World} {v : Value} {zs : List Int} (h : Io base w v zs) : ∃ a cap, v = .slice a zs.length cap ∧ Ri w a cap zs := by
  obtain ⟨h1, h3⟩ := h
  rcases h3.2 with ⟨rfl, h0⟩ | ⟨g, cap, cur, rfl, hb, hg, hc1, hc2, hc3, ht⟩
  · have : zs = [] := List.length_eq_zero_iff.1 h0
    subst this
    exact ⟨none, 0, rfl, Ri.nil _ _ _ (Nat.zero_le _)⟩
  · refine ⟨_, cap, rfl, h1, hc1, hc2, .inr ⟨g, 0, rfl, (Array.getElem?_eq_some_iff.1 hg).1, fun i hi => ?_⟩⟩
    have := h3.cells (g := g) rfl i (.int .i64 (zs.getD i 0)) (by simp [List.getD, hi])
    have hadd : (⟨g, 0, none⟩ : Addr).add i = ⟨g, 0 + i, none⟩ := by unfold Addr.add; split <;> simp_all
    rw [hadd] at this
    exact this
theorem Io.below {base : Nat} {w w' : World} {v : Value} {zs : List Int} (h : Io base w v zs) (hb : Below w.heap.size w w') : Io base w' v zs := by
  obtain ⟨h1, h3⟩ := h
  refine ⟨h1, h3.1, ?_⟩
  rcases h3.2 with h0 | ⟨g, cap', cur, k1, k2, k3, k4⟩
  · exact .inl h0
  · exact .inr ⟨g, cap', cur, k1, k2, (hb.block g (Array.getElem?_eq_some_iff.1 k3).1).trans k3, k4⟩
theorem Io.lo {base : Nat} {w : World} {v : Value} {zs : List Int} (h : Io base w v zs) {g : Nat} (hg : v.ownBlock = some g) : base ≤ g := (World.ownsRow.lt h.2 g hg).1
/-- 'append(out, x)': x is laid in a block of its own first. -/
theorem wpList_append_int {w : World} {ops : Array Oper} {rest : List Oper} {o : Oper} {a : Act} {Q : Exit → Act → World → Prop}
    (hgd : o.guard = none) (s x : Operand) (ho : o.op = .call { callee := .builtin .append, args := #[s, x], argTypes := #[22, 22] })
    (base : Nat) (v : Value) (zs : List Int) (hs : a.eval s = v) (hown : Io base w v zs) (g : Nat) (z : Int) (hx : a.eval x = .slice (some ⟨g, 0, none⟩) 1 1)
    (c0 : w.cell? ⟨g, 0, none⟩ = some (.int .i64 z)) (hz : I64 z) (hlen : zs.length + 1 ≤ 1000000) (hbase : base ≤ w.heap.size)
    (h : ∀ v' w', Io base w' v' (zs ++ [z]) → w.grownBy w' v.ownBlock → wpList Tryz.prog ops Q rest (a.put o.dst v') w') : wpList Tryz.prog ops Q (o :: rest) a w := by
  obtain ⟨i0, hi, hz0, hz1, hz2⟩ := info_parts infoA_i64
  refine wpList_append_own_at w hgd s x 22 ho base 3 i0 (.int .i64 0) 1 8 Tryz.underlying22 hi hz0 hz1 hz2 rfl (by decide) v zs.length (zs.map (Value.int .i64)) hs hown.2 ⟨g, 0, none⟩ 1 1 [.int .i64 z] hx rfl ?_ ?_ (by unfold maxLen; omega) (by omega) hbase ?_
  · intro j u hj
    match j, hj with
    | 0, hj => simp at hj; subst hj; simpa [Addr.add] using c0
  · intro u hu
    simp at hu
    subst hu
    rfl
  · intro v' w' k1 k2 _ _
    refine h v' w' ⟨fun s hs => ?_, ?_⟩ k2
    · rcases List.mem_append.1 hs with hs | hs
      · exact hown.1 s hs
      · rw [List.mem_singleton.1 hs]; exact hz
    · rw [List.map_append, List.length_append]
      exact k1
theorem Ri.lenB {w : World} {a : Option Addr} {cap : Nat} {zs : List Int} (h : Ri w a cap zs) : zs.length ≤ 9223372036854775807 := by
  have h1 := h.2.1
  have h2 := h.2.2.1
  unfold maxLen at h2
  omega
/-- 'append(out, place...)'. -/
theorem wpList_append_ris {w : World} {ops : Array Oper} {rest : List Oper} {o : Oper} {a : Act} {Q : Exit → Act → World → Prop}
    (hgd : o.guard = none) (s x : Operand) (ho : o.op = .call { callee := .builtin .append, args := #[s, x], argTypes := #[22, 22] })
    (base : Nat) (v : Value) (zs : List Int) (hs : a.eval s = v) (hown : Io base w v zs) (pa : Option Addr) (pc n : Nat) (ps : List Int) (hn : n = ps.length) (hx : a.eval x = .slice pa n pc)
    (hp : Ri w pa pc ps) (hne : ps ≠ []) (hlen : zs.length + ps.length ≤ 1000000) (hbase : base ≤ w.heap.size)
    (h : ∀ v' w', Io base w' v' (zs ++ ps) → w.grownBy w' v.ownBlock → wpList Tryz.prog ops Q rest (a.put o.dst v') w') : wpList Tryz.prog ops Q (o :: rest) a w := by
  subst hn
  obtain ⟨i0, hi, hz0, hz1, hz2⟩ := info_parts infoA_i64
  rcases hp.2.2.2 with h0 | ⟨b, off, rfl, hb, hc⟩
  · exact absurd h0 hne
  refine wpList_append_own_at w hgd s x 22 ho base 3 i0 (.int .i64 0) 1 8 Tryz.underlying22 hi hz0 hz1 hz2 rfl (by decide) v zs.length (zs.map (Value.int .i64)) hs hown.2 ⟨b, off, none⟩ ps.length pc (ps.map (Value.int .i64)) hx (by simp) ?_ ?_ (by unfold maxLen; omega) (by omega) hbase ?_
  · intro j u hj
    have hjl : j < ps.length := by
      rcases Nat.lt_or_ge j ps.length with h1 | h1
      · exact h1
      · rw [List.getElem?_eq_none (by simpa using h1)] at hj; cases hj
    have hadd : (⟨b, off, none⟩ : Addr).add j = ⟨b, off + j, none⟩ := by unfold Addr.add; split <;> simp_all
    rw [hadd, hc j hjl]
    rw [List.getElem?_map, List.getElem?_eq_getElem hjl] at hj
    simp at hj
    rw [← hj]
    simp [List.getD, hjl]
  · intro u hu
    obtain ⟨z, _, rfl⟩ := List.mem_map.1 hu
    rfl
  · intro v' w' k1 k2 _ _
    refine h v' w' ⟨fun s hs => ?_, ?_⟩ k2
    · rcases List.mem_append.1 hs with hs | hs
      · exact hown.1 s hs
      · exact hp.1 s hs
    · rw [List.map_append, List.length_append]
      exact k1
/-- A row of ints of the call's own that isn't empty, and a store into it. -/
theorem Io.own {base : Nat} {w : World} {v : Value} {zs : List Int} (h : Io base w v zs) (hne : zs ≠ []) :
    ∃ g cap, v = .slice (some ⟨g, 0, none⟩) zs.length cap ∧ base ≤ g ∧ g < w.heap.size ∧ zs.length ≤ cap ∧ (∀ k, k < zs.length → w.cell? ⟨g, k, none⟩ = some (.int .i64 (zs.getD k 0))) ∧ (∀ k, w.frozen? ⟨g, k, none⟩ = false) ∧
      ∀ k z, k < zs.length → I64 z → Io base (w.setCell ⟨g, k, none⟩ (.int .i64 z)) v (zs.set k z) := by
  obtain ⟨h1, h3⟩ := h
  rcases h3.2 with ⟨rfl, h0⟩ | ⟨g, cap, cur, rfl, hb, hg, hc1, hc2, hc3, ht⟩
  · exact absurd (List.length_eq_zero_iff.1 h0) hne
  · refine ⟨g, cap, rfl, hb, (Array.getElem?_eq_some_iff.1 hg).1, hc1, fun k hk => ?_, fun k => frozen_of_row w g k _ _ hg, fun k z hk hz => ⟨fun s hs => ?_, ?_⟩⟩
    · have := h3.cells (g := g) rfl k (.int .i64 (zs.getD k 0)) (by simp [List.getD, hk])
      have hadd : (⟨g, 0, none⟩ : Addr).add k = ⟨g, 0 + k, none⟩ := by unfold Addr.add; split <;> simp_all
      rw [hadd, Nat.zero_add] at this
      exact this
    · rcases List.mem_or_eq_of_mem_set hs with hs | hs
      · exact h1 s hs
      · rw [hs]; exact hz
    · have hset := heap_setCell_same w g k cur 3 (.int .i64 z) hg
      refine ⟨by simp, .inr ⟨g, cap, _, by rw [List.length_set], hb, hset, by simpa using hc1, hc2, ?_, ?_⟩⟩
      · simpa using hc3
      · simp only [List.length_set, Nat.mul_one] at ht ⊢
        rw [List.map_set, ← ht]
        simp [List.take_set]

end Go.Proofs.YthoildjecoppgaaGreatDoor

namespace Go.Proofs.YthoildjecoppgaaGreatDoor
open Go.RowKit Go.Maps
set_option linter.unusedSimpArgs false
set_option linter.unusedVariables false

def PnE : El Pn := (El.int.cat (El.int.cat El.bool)).via (fun p => (p.x, p.y, p.on)) Pn.none
def PaE : El Pa := (El.int.cat (El.int.cat El.int)).via (fun p => (p.g, p.dx, p.dy)) Pa.none
def PnW (p : Pn) : Prop := I64 p.x ∧ I64 p.y
def PaW (p : Pa) : Prop := I64 p.g ∧ I64 p.dx ∧ I64 p.dy
def pnC (p : Pn) : List Value := [.int .i64 p.x, .int .i64 p.y, .bool p.on]
def paC (p : Pa) : List Value := [.int .i64 p.g, .int .i64 p.dx, .int .i64 p.dy]
theorem PnE_rep {S : Nat → Prop} {w : World} {vs : List Value} {p : Pn} : PnE.rep S w vs p ↔ vs = pnC p ∧ PnW p := by
  constructor
  · rintro ⟨us, ts, rfl, ⟨rfl, h1⟩, us2, ts2, rfl, ⟨rfl, h2⟩, h3⟩
    have h3 : ts2 = [.bool p.on] := h3
    subst h3
    exact ⟨rfl, h1, h2⟩
  · rintro ⟨rfl, h1, h2⟩
    exact ⟨[_], _, rfl, ⟨rfl, h1⟩, [_], [_], rfl, ⟨rfl, h2⟩, rfl⟩
theorem PaE_rep {S : Nat → Prop} {w : World} {vs : List Value} {p : Pa} : PaE.rep S w vs p ↔ vs = paC p ∧ PaW p := by
  constructor
  · rintro ⟨us, ts, rfl, ⟨rfl, h1⟩, us2, ts2, rfl, ⟨rfl, h2⟩, ⟨rfl, h3⟩⟩
    exact ⟨rfl, h1, h2, h3⟩
  · rintro ⟨rfl, h1, h2, h3⟩
    exact ⟨[_], _, rfl, ⟨rfl, h1⟩, [_], [_], rfl, ⟨rfl, h2⟩, ⟨rfl, h3⟩⟩
theorem Gr.pn {S : Nat → Prop} {w wr : World} {a : Option Addr} {cap : Nat} {l : List Pn} (h : Gr PnE S w a cap l) (hb : Below w.heap.size w wr) (k : Nat) (hk : k < l.length) :
    ∃ b off, a = some ⟨b, off, none⟩ ∧ b < w.heap.size ∧ PnW (l.getD k Pn.none) ∧ wr.cell? ⟨b, off + k * 3, none⟩ = some (.int .i64 (l.getD k Pn.none).x) ∧ wr.cell? ⟨b, off + k * 3 + 1, none⟩ = some (.int .i64 (l.getD k Pn.none).y) ∧ wr.cell? ⟨b, off + k * 3 + 2, none⟩ = some (.bool (l.getD k Pn.none).on) := by
  obtain ⟨b, off, vs, e, hl, hr, hc⟩ := h.at hb k hk
  obtain ⟨rfl, hw⟩ := PnE_rep.1 hr
  exact ⟨b, off, e, hl, hw, hc 0 (by decide), hc 1 (by decide), hc 2 (by decide)⟩
theorem Gr.pa {S : Nat → Prop} {w wr : World} {a : Option Addr} {cap : Nat} {l : List Pa} (h : Gr PaE S w a cap l) (hb : Below w.heap.size w wr) (k : Nat) (hk : k < l.length) :
    ∃ b off, a = some ⟨b, off, none⟩ ∧ b < w.heap.size ∧ PaW (l.getD k Pa.none) ∧ wr.cell? ⟨b, off + k * 3, none⟩ = some (.int .i64 (l.getD k Pa.none).g) ∧ wr.cell? ⟨b, off + k * 3 + 1, none⟩ = some (.int .i64 (l.getD k Pa.none).dx) ∧ wr.cell? ⟨b, off + k * 3 + 2, none⟩ = some (.int .i64 (l.getD k Pa.none).dy) := by
  obtain ⟨b, off, vs, e, hl, hr, hc⟩ := h.at hb k hk
  obtain ⟨rfl, hw⟩ := PaE_rep.1 hr
  exact ⟨b, off, e, hl, hw, hc 0 (by decide), hc 1 (by decide), hc 2 (by decide)⟩
/-- An element of a row of rows. -/
theorem Gr.rw {α : Type} {E : El α} {S : Nat → Prop} {w wr : World} {a : Option Addr} {cap : Nat} {m : List (List α)} (h : Gr E.row S w a cap m) (hb : Below w.heap.size w wr) (k : Nat) (hk : k < m.length) :
    ∃ b off a' cap', a = some ⟨b, off, none⟩ ∧ b < w.heap.size ∧ wr.cell? ⟨b, off + k, none⟩ = some (.slice a' (m.getD k []).length cap') ∧ Gr E S wr a' cap' (m.getD k []) ∧ (m.getD k []).length ≤ 140737488351232 ∧ ∀ b o, a' = some ⟨b, o, none⟩ → m.getD k [] ≠ [] → S b := by
  obtain ⟨b, off, vs, e, hl, ⟨a', cap', hv, hS, hr, hlb⟩, hc⟩ := h.at hb k hk
  have := hc 0 Nat.one_pos
  rw [hv, show k * E.row.sz = k from Nat.mul_one k] at this
  exact ⟨b, off, a', cap', e, hl, this, hr, hlb, hS⟩
/-- A row of rows, element by element, with no world told. -/
theorem getL' {α : Type} {m : List (List α)} {k : Nat} (hk : k < m.length) : m.getD k [] = m[k] := by simp [List.getD, hk]
theorem getL_mem' {α : Type} {m : List (List α)} {k : Nat} (hk : k < m.length) : m.getD k [] ∈ m := by rw [getL' hk]; exact List.getElem_mem hk
theorem get_mem {α : Type} {m : List α} {d : α} {k : Nat} (hk : k < m.length) : m.getD k d ∈ m := by rw [List.getD_eq_getElem?_getD, List.getElem?_eq_getElem hk]; exact List.getElem_mem hk
theorem of_get {α : Type} {p : α → Prop} {d : α} {m : List α} (h : ∀ k, k < m.length → p (m.getD k d)) : ∀ x ∈ m, p x := by
  intro x hx
  obtain ⟨i, hi, e⟩ := List.getElem_of_mem hx
  have := h i hi
  rw [List.getD_eq_getElem?_getD, List.getElem?_eq_getElem hi, Option.getD_some, e] at this
  exact this
theorem take_snoc {α : Type} {m : List α} {d : α} {k : Nat} (hk : k < m.length) : m.take (k + 1) = m.take k ++ [m.getD k d] := by
  rw [List.take_add_one, List.getElem?_eq_getElem hk]
  simp [List.getD, hk]
theorem info_pn : (Tryz.prog.info? 72).map (fun i => (i.zero, i.size, i.bytes)) = some (some (.agg #[.int .i64 0, .int .i64 0, .bool false]), 3, 24) := by kernel_rfl
theorem info_pa : (Tryz.prog.info? 92).map (fun i => (i.zero, i.size, i.bytes)) = some (some (.agg #[.int .i64 0, .int .i64 0, .int .i64 0]), 3, 24) := by kernel_rfl
theorem info_pns : (Tryz.prog.info? 63).map (fun i => (i.zero, i.size, i.bytes)) = some (some (.slice none 0 0), 1, 24) := by kernel_rfl

end Go.Proofs.YthoildjecoppgaaGreatDoor

namespace Go.Proofs.YthoildjecoppgaaGreatDoor
open Go.RowKit Go.Maps
set_option linter.unusedSimpArgs false
set_option linter.unusedVariables false

theorem wrap_i16' (z : Int) : IntKind.i16.wrap z = if 32768 ≤ z % 65536 then z % 65536 - 65536 else z % 65536 := by
  simp [IntKind.wrap, IntKind.bits, IntKind.signed]

set_option maxHeartbeats 400000 in
set_option maxRecDepth 100000 in
theorem wrap16_fd' (z : Int) : (IntKind.i16.wrap z != z) = !fdB z := by
  rw [wrap_i16', fdB, Bool.eq_iff_iff, bne_iff_ne, Bool.not_eq_true', decide_eq_false_iff_not]
  split <;> omega
theorem wrap64_16 (z : Int) : IntKind.i64.wrap (IntKind.i16.wrap z) = IntKind.i16.wrap z := by
  rw [wrap_i16']
  simp only [IntKind.wrap, IntKind.bits, IntKind.signed]
  split <;> (simp; omega)
theorem all_no' {α : Type} {p : α → Bool} {r : List α} {d : α} {k : Nat} (hk : k < r.length) (h : p (r.getD k d) = false) : r.all p = false := by
  rw [Bool.eq_false_iff]
  intro e
  have := List.all_eq_true.1 e (r.getD k d) (get_mem hk)
  rw [h] at this
  cases this
theorem all_yes' {α : Type} {p : α → Bool} {r : List α} {d : α} (h : ∀ j, j < r.length → p (r.getD j d) = true) : r.all p = true := by
  rw [List.all_eq_true]
  exact of_get h
theorem upto_succ {p : Nat → Prop} {k : Nat} (h : ∀ j, j < k → p j) (h1 : p k) : ∀ j, j < k + 1 → p j := fun j hj => by
  rcases Nat.lt_or_ge j k with h2 | h2
  · exact h j h2
  · rw [show j = k by omega]; exact h1

set_option maxHeartbeats 1000000 in
set_option maxRecDepth 100000 in
theorem cfields_any (a : Option Addr) (cap : Nat) (r : List Int) (w : World) (h : Ri w a cap r) :
    Calls Tryz.prog 65 #[.slice a r.length cap] w fun e w' => e = .returned (.bool (r.all fdB)) ∧ w = w' := by
  have k2 := h.lenB
  have HH : Hid (Ri w a cap r) := h
  clear h
  go_enter Tryz.func65, Tryz.ntmps65
  go_wp2
  go_loopw [7] (fun i wr => ∃ k : Nat, k ≤ r.length ∧ i = .int .i64 k ∧ (∀ j, j < k → fdB (r.getD j 0) = true) ∧ w = wr) (fun i _ => r.length - (intOf i).toNat)
  case atStart => exact ⟨0, Nat.zero_le _, rfl, (fun j hj => by omega), rfl⟩
  case round =>
    obtain ⟨k, hk, rfl, hok, rfl⟩ := hrel
    have HOK : Hid (∀ j, j < k → fdB (r.getD j 0) = true) := hok
    clear hok
    by_cases hkn : k < r.length
    · obtain ⟨b, off, ea, hb, d0⟩ := HH.out.at (Below.refl _ _) k hkn
      subst ea
      obtain ⟨z, hzz⟩ : ∃ z, r.getD k 0 = z := ⟨_, rfl⟩
      have HZ : Hid (r.getD k 0 = z) := hzz
      rw [hzz] at d0
      have i1 : (0 : Int) ≤ (k : Int) := by omega
      have i2 : (k : Int) < (r.length : Int) := by omega
      have hw1 := wrap64_16 z
      have hw2 := wrap16_fd' z
      clear hzz
      cases hf : fdB z with
      | false =>
        have HF : Hid (r.all fdB = false) := all_no' hkn (by rw [HZ.out]; exact hf)
        rw [hf] at hw2
        clear hf HZ HOK
        go_wp2
        go_ret
        exact ⟨rt_bool HF.out.symm, rfl⟩
      | true =>
        have HOK2 : Hid (∀ j, j < k + 1 → fdB (r.getD j 0) = true) := upto_succ HOK.out (by rw [HZ.out]; exact hf)
        rw [hf] at hw2
        clear hf HZ HOK
        go_wp2
        go_roundw
        case rel => exact ⟨k + 1, by omega, by go_num, HOK2.out, trivial⟩
        case measure => simp [intOf]; omega
    · obtain rfl : k = r.length := by omega
      have HF : Hid (r.all fdB = true) := all_yes' HOK.out
      have g1 : ¬ (r.length : Int) < (r.length : Int) := by omega
      clear HOK
      go_wp2
      go_ret
      exact ⟨rt_bool HF.out.symm, rfl⟩

/-- Two ints laid in a block. -/
theorem ri_two (w : World) (x y : Int) (hx : I64 x) (hy : I64 y) : Ri (w.alloc (.cells #[.int .i64 x, .int .i64 y] 3)) (some ⟨w.heap.size, 0, none⟩) 2 [x, y] := by
  have hN := heap_alloc_new w (.cells #[.int .i64 x, .int .i64 y] 3)
  refine ⟨fun z hz => ?_, Nat.le_refl _, by unfold maxLen; omega, .inr ⟨w.heap.size, 0, rfl, by simp, fun i hi => ?_⟩⟩
  · simp at hz
    rcases hz with rfl | rfl
    · exact hx
    · exact hy
  · match i, hi with
    | 0, _ => exact cell_of_row _ w.heap.size 0 _ _ (0, 0) hN
    | 1, _ => exact cell_of_row _ w.heap.size 1 _ _ (0, 0) hN
theorem two_all (x y : Int) : [x, y].all fdB = (fdB x && fdB y) := by simp

set_option maxHeartbeats 2000000 in
set_option maxRecDepth 100000 in
theorem cpartsF_any (S : Nat → Prop) (a : Option Addr) (cap : Nat) (l : List Pa) (w : World) (h : Gr PaE S w a cap l) :
    Calls Tryz.prog 46 #[.slice a l.length cap] w fun e w' => e = .returned (.bool (decide (l.length ≤ 6) && l.all paF)) ∧ Below w.heap.size w w' := by
  have k2 := h.lenB
  have HH : Hid (Gr PaE S w a cap l) := h
  clear h
  by_cases h6 : 6 < l.length
  · have HF : Hid ((decide (l.length ≤ 6) && l.all paF) = false) := by show _ = _; rw [decide_eq_false (by omega), Bool.false_and]
    have g1 : (6 : Int) < (l.length : Int) := by omega
    go_enter Tryz.func46, Tryz.ntmps46
    go_wp2
    go_ret
    exact ⟨rt_bool HF.out.symm, Below.refl _ _⟩
  have HL : Hid ((decide (l.length ≤ 6) && l.all paF) = l.all paF) := by show _ = _; rw [decide_eq_true (by omega), Bool.true_and]
  have g1 : ¬ (6 : Int) < (l.length : Int) := by omega
  go_enter Tryz.func46, Tryz.ntmps46
  go_wp2
  go_loopw [10] (fun i wr => ∃ k : Nat, k ≤ l.length ∧ i = .int .i64 k ∧ (∀ j, j < k → paF (l.getD j Pa.none) = true) ∧ Below w.heap.size w wr) (fun i _ => l.length - (intOf i).toNat)
  case atStart => exact ⟨0, Nat.zero_le _, rfl, (fun j hj => by omega), Below.refl _ _⟩
  case round =>
    obtain ⟨k, hk, rfl, hok, hB⟩ := hrel
    have HOK : Hid (∀ j, j < k → paF (l.getD j Pa.none) = true) := hok
    clear hok
    by_cases hkn : k < l.length
    · obtain ⟨b, off, ea, hb, ⟨w0, w1, w2⟩, d0, d1, d2⟩ := HH.out.pa hB k hkn
      subst ea
      have HN : Hid (paF (l.getD k Pa.none) = false → (decide (l.length ≤ 6) && l.all paF) = false) := fun hf => by rw [HL.out]; exact all_no' hkn hf
      have HY : Hid (paF (l.getD k Pa.none) = true → ∀ j, j < k + 1 → paF (l.getD j Pa.none) = true) := fun hf => upto_succ HOK.out hf
      generalize l.getD k Pa.none = p at *
      obtain ⟨g, x, y⟩ := p
      dsimp only at w0 w1 w2 d0 d1 d2
      have i1 : (0 : Int) ≤ (k : Int) := by omega
      have i2 : (k : Int) < (l.length : Int) := by omega
      clear HOK
      by_cases hg0 : g < 0
      · have HF : Hid ((decide (l.length ≤ 6) && l.all paF) = false) := HN.out (by unfold paF; rw [decide_eq_false (by show ¬ (0 ≤ g ∧ g ≤ 65535); omega), Bool.false_and])
        have g2 : decide (g < 0) = true := decide_eq_true hg0
        clear HN HY
        go_wp2
        go_ret
        exact ⟨rt_bool HF.out.symm, hB.alloc hB.size _⟩
      have g2 : decide (g < 0) = false := decide_eq_false hg0
      by_cases hg1 : 65535 < g
      · have HF : Hid ((decide (l.length ≤ 6) && l.all paF) = false) := HN.out (by unfold paF; rw [decide_eq_false (by show ¬ (0 ≤ g ∧ g ≤ 65535); omega), Bool.false_and])
        have g3 : decide (65535 < g) = true := decide_eq_true hg1
        clear HN HY
        go_wp2
        go_ret
        exact ⟨rt_bool HF.out.symm, hB.alloc hB.size _⟩
      have g3 : decide (65535 < g) = false := decide_eq_false hg1
      have hpf : paF ⟨g, x, y⟩ = (fdB x && fdB y) := by unfold paF; rw [decide_eq_true (by show 0 ≤ g ∧ g ≤ 65535; omega), Bool.true_and]
      rw [hpf] at HN HY
      obtain ⟨W, hW⟩ : ∃ W, W = (wr.alloc (.cells #[.int .i64 g, .int .i64 x, .int .i64 y] 92)).alloc (.cells #[.int .i64 x, .int .i64 y] 3) := ⟨_, rfl⟩
      have hri := ri_two (wr.alloc (.cells #[.int .i64 g, .int .i64 x, .int .i64 y] 92)) x y w1 w2
      have hsz : (wr.alloc (.cells #[.int .i64 g, .int .i64 x, .int .i64 y] 92)).heap.size = wr.heap.size + 1 := by simp
      rw [← hW, hsz] at hri
      have hbW : Below w.heap.size w W := by rw [hW]; exact (hB.alloc hB.size _).alloc (by simp; have := hB.size; omega) _
      have hfo := cfields_any _ _ _ _ hri
      rw [two_all] at hfo
      simp only [List.length_cons, List.length_nil, Nat.zero_add] at hfo
      clear hpf hri hsz
      cases hf : (fdB x && fdB y) with
      | false =>
        have HF : Hid ((decide (l.length ≤ 6) && l.all paF) = false) := HN.out hf
        rw [hf] at hfo
        clear hf HN HY
        go_wp2_with fail
        rw [← hW]
        clear hW
        refine hfo.mono ?_
        rintro e u1 ⟨rfl, rfl⟩
        clear hfo
        go_wp2
        go_ret
        exact ⟨rt_bool HF.out.symm, hbW⟩
      | true =>
        have HOK2 : Hid (∀ j, j < k + 1 → paF (l.getD j Pa.none) = true) := HY.out hf
        rw [hf] at hfo
        clear hf HN HY
        go_wp2_with fail
        rw [← hW]
        clear hW
        refine hfo.mono ?_
        rintro e u1 ⟨rfl, rfl⟩
        clear hfo
        go_wp2
        go_roundw
        case rel => exact ⟨k + 1, by omega, by go_num, HOK2.out, hbW⟩
        case measure => simp [intOf]; omega
    · obtain rfl : k = l.length := by omega
      have HF : Hid ((decide (l.length ≤ 6) && l.all paF) = true) := by show _ = _; rw [HL.out]; exact all_yes' HOK.out
      have g1 : ¬ (l.length : Int) < (l.length : Int) := by omega
      clear HOK
      go_wp2
      go_ret
      exact ⟨rt_bool HF.out.symm, hB⟩

theorem flat_take_succ {cs : List (List Pn)} {k : Nat} (hk : k < cs.length) : ((cs.take (k + 1)).flatten).length = ((cs.take k).flatten).length + (cs.getD k []).length := by
  rw [take_snoc (d := []) hk, List.flatten_append, List.length_append, List.flatten_singleton]
theorem flat_take_le (cs : List (List Pn)) (k : Nat) : ((cs.take k).flatten).length ≤ cs.flatten.length := by
  conv => rhs; rw [← List.take_append_drop k cs, List.flatten_append, List.length_append]
  omega
/-- Whether contours are formed. -/
def coF (cs : List (List Pn)) : Bool := decide (cs.length ≤ 10) && (cs.all (fun c => decide (0 < c.length)) && (decide (cs.flatten.length ≤ 80) && cs.flatten.all pnF))
theorem coF_no {cs : List (List Pn)} (h : ¬ (cs.length ≤ 10 ∧ (∀ c ∈ cs, 0 < c.length) ∧ cs.flatten.length ≤ 80 ∧ ∀ c ∈ cs, c.all pnF = true)) : coF cs = false := by
  rw [Bool.eq_false_iff]
  intro e
  unfold coF at e
  simp only [Bool.and_eq_true, decide_eq_true_iff, List.all_eq_true] at e
  refine h ⟨e.1, e.2.1, e.2.2.1, fun c hc => List.all_eq_true.2 fun p hp => e.2.2.2 p (List.mem_flatten.2 ⟨c, hc, hp⟩)⟩
theorem coF_yes {cs : List (List Pn)} (h1 : cs.length ≤ 10) (h2 : ∀ j, j < cs.length → 0 < (cs.getD j []).length ∧ (cs.getD j []).all pnF = true) (h3 : cs.flatten.length ≤ 80) : coF cs = true := by
  unfold coF
  simp only [Bool.and_eq_true, decide_eq_true_iff, List.all_eq_true]
  refine ⟨h1, fun c hc => (of_get (p := fun c => 0 < c.length ∧ c.all pnF = true) h2 c hc).1, h3, fun p hp => ?_⟩
  obtain ⟨c, hc, hpc⟩ := List.mem_flatten.1 hp
  exact List.all_eq_true.1 (of_get (p := fun c => 0 < c.length ∧ c.all pnF = true) h2 c hc).2 p hpc

set_option maxHeartbeats 4000000 in
set_option maxRecDepth 100000 in
theorem ccontF_any (S : Nat → Prop) (a : Option Addr) (cap : Nat) (cs : List (List Pn)) (w : World) (h : Gr PnE.row S w a cap cs) :
    Calls Tryz.prog 45 #[.slice a cs.length cap] w fun e w' => e = .returned (.bool (coF cs)) ∧ Below w.heap.size w w' := by
  have k2 := h.lenB
  have HH : Hid (Gr PnE.row S w a cap cs) := h
  have HNO : Hid (¬ (cs.length ≤ 10 ∧ (∀ c ∈ cs, 0 < c.length) ∧ cs.flatten.length ≤ 80 ∧ ∀ c ∈ cs, c.all pnF = true) → coF cs = false) := coF_no
  clear h
  by_cases h10 : 10 < cs.length
  · have HF : Hid (coF cs = false) := HNO.out (fun h => by omega)
    have g1 : (10 : Int) < (cs.length : Int) := by omega
    go_enter Tryz.func45, Tryz.ntmps45
    go_wp2
    go_ret
    exact ⟨rt_bool HF.out.symm, Below.refl _ _⟩
  have g1 : ¬ (10 : Int) < (cs.length : Int) := by omega
  go_enter Tryz.func45, Tryz.ntmps45
  go_wp2
  go_loopw [3, 13] (fun n i wr => ∃ k m : Nat, k ≤ cs.length ∧ i = .int .i64 k ∧ n = .int .i64 (m : Int) ∧ m = ((cs.take k).flatten).length ∧ m ≤ 80 ∧ (∀ j, j < k → 0 < (cs.getD j []).length ∧ (cs.getD j []).all pnF = true) ∧ Below w.heap.size w wr) (fun _ i _ => cs.length - (intOf i).toNat)
  case atStart => exact ⟨0, 0, Nat.zero_le _, rfl, rfl, rfl, by omega, (fun j hj => by omega), Below.refl _ _⟩
  case round =>
    obtain ⟨k, m, hk, rfl, rfl, hm, hm80, hok, hB⟩ := hrel
    have HOK : Hid (∀ j, j < k → 0 < (cs.getD j []).length ∧ (cs.getD j []).all pnF = true) := hok
    have HM : Hid (m = ((cs.take k).flatten).length) := hm
    clear hok hm
    by_cases hkn : k < cs.length
    · obtain ⟨b, off, a1, c1, ea, hb, d0, hrow, hlb, _⟩ := HH.out.rw hB k hkn
      subst ea
      have hmem := getL_mem' hkn
      have hst := flat_take_succ hkn
      have hle := flat_take_le cs (k + 1)
      rw [← HM.out] at hst
      have HX : Hid (∀ c, cs.getD k [] = c → 0 < c.length → c.all pnF = true → ∀ j, j < k + 1 → 0 < (cs.getD j []).length ∧ (cs.getD j []).all pnF = true) := fun c hc h1 h2 => upto_succ HOK.out (by rw [hc]; exact ⟨h1, h2⟩)
      obtain ⟨c, hc⟩ : ∃ c, cs.getD k [] = c := ⟨_, rfl⟩
      replace HX := HX.out c hc
      rw [hc] at d0 hrow hlb hmem hst
      have HM2 : Hid (m + c.length = ((cs.take (k + 1)).flatten).length) := hst.symm
      have HLE : Hid (m + c.length ≤ cs.flatten.length) := by show _ ≤ _; omega
      have HN : Hid (¬ (0 < c.length ∧ m + c.length ≤ 80 ∧ c.all pnF = true) → coF cs = false) := fun hn => HNO.out (fun hy => hn ⟨hy.2.1 c hmem, by have := HLE.out; omega, hy.2.2.2 c hmem⟩)
      have HX : Hid (0 < c.length → c.all pnF = true → ∀ j, j < k + 1 → 0 < (cs.getD j []).length ∧ (cs.getD j []).all pnF = true) := HX
      have i1 : (0 : Int) ≤ (k : Int) := by omega
      have i2 : (k : Int) < (cs.length : Int) := by omega
      clear hc hmem hst hle HOK HM HLE
      by_cases h0 : c.length = 0
      · have HF : Hid (coF cs = false) := HN.out (fun h => by omega)
        have g2 : ((c.length : Int) == 0) = true := by simp [h0]
        clear HN HX HM2 hrow h0
        go_wp2
        go_ret
        exact ⟨rt_bool HF.out.symm, hB⟩
      have g2 : ((c.length : Int) == 0) = false := by simp; intro e; rw [e] at h0; exact h0 rfl
      by_cases h80 : 80 < m + c.length
      · have HF : Hid (coF cs = false) := HN.out (fun h => by omega)
        have g3 : decide ((80 : Int) < (m : Int) + (c.length : Int)) = true := decide_eq_true (by omega)
        clear HN HX HM2 hrow h0
        go_wp2
        go_ret
        exact ⟨rt_bool HF.out.symm, hB⟩
      have g3 : decide ((80 : Int) < (m : Int) + (c.length : Int)) = false := decide_eq_false (by omega)
      have HP : Hid (0 < c.length) := by show _ < _; omega
      have hcl : c.length ≤ 80 := by omega
      have HRW : Hid (Gr PnE S wr a1 c1 c) := hrow
      have HBW : Hid (Below w.heap.size w wr) := hB
      clear hrow h0
      go_wp2
      obtain ⟨wo, rfl⟩ : ∃ wo, wo = wr := ⟨_, rfl⟩
      clear d0 hB
      go_loopw [30] (fun i wr => ∃ t : Nat, t ≤ c.length ∧ i = .int .i64 t ∧ (∀ j, j < t → pnF (c.getD j Pn.none) = true) ∧ Below wo.heap.size wo wr) (fun i _ => c.length - (intOf i).toNat)
      case atStart => exact ⟨0, Nat.zero_le _, rfl, (fun j hj => by omega), Below.refl _ _⟩
      case round =>
        obtain ⟨t, ht, rfl, hok, hB⟩ := hrel
        have HOK : Hid (∀ j, j < t → pnF (c.getD j Pn.none) = true) := hok
        have hBW := HBW.out.trans (hB.mono HBW.out.size)
        clear hok
        by_cases htn : t < c.length
        · obtain ⟨b2, o2, eb, hb2, ⟨w0, w1⟩, q0, q1, q2⟩ := HRW.out.pn hB t htn
          subst eb
          have HN2 : Hid (pnF (c.getD t Pn.none) = false → coF cs = false) := fun hf => HN.out (fun h => by have := all_no' htn hf; rw [h.2.2] at this; cases this)
          have HY2 : Hid (pnF (c.getD t Pn.none) = true → ∀ j, j < t + 1 → pnF (c.getD j Pn.none) = true) := fun hf => upto_succ HOK.out hf
          generalize c.getD t Pn.none = p at *
          obtain ⟨x, y, on⟩ := p
          dsimp only at w0 w1 q0 q1 q2
          have hpf : pnF ⟨x, y, on⟩ = (fdB x && fdB y) := rfl
          rw [hpf] at HN2 HY2
          have j1 : (0 : Int) ≤ (t : Int) := by omega
          have j2 : (t : Int) < (c.length : Int) := by omega
          obtain ⟨W, hW⟩ : ∃ W, W = (wr.alloc (.cells #[.int .i64 x, .int .i64 y, .bool on] 72)).alloc (.cells #[.int .i64 x, .int .i64 y] 3) := ⟨_, rfl⟩
          have hri := ri_two (wr.alloc (.cells #[.int .i64 x, .int .i64 y, .bool on] 72)) x y w0 w1
          have hsz : (wr.alloc (.cells #[.int .i64 x, .int .i64 y, .bool on] 72)).heap.size = wr.heap.size + 1 := by simp
          rw [← hW, hsz] at hri
          have hbX : Below w.heap.size w W := by rw [hW]; exact (hBW.alloc hBW.size _).alloc (by simp; have := hBW.size; omega) _
          have hbY : Below wo.heap.size wo W := by rw [hW]; exact (hB.alloc hB.size _).alloc (by simp; have := hB.size; omega) _
          have hfo := cfields_any _ _ _ _ hri
          rw [two_all] at hfo
          simp only [List.length_cons, List.length_nil, Nat.zero_add] at hfo
          clear hpf hri hsz HOK
          cases hf : (fdB x && fdB y) with
          | false =>
            have HF : Hid (coF cs = false) := HN2.out hf
            rw [hf] at hfo
            clear hf HN2 HY2
            go_wp2_with fail
            rw [← hW]
            clear hW
            refine hfo.mono ?_
            rintro e u1 ⟨rfl, rfl⟩
            clear hfo
            go_wp2
            go_ret
            exact ⟨rt_bool HF.out.symm, hbX⟩
          | true =>
            have HOK2 : Hid (∀ j, j < t + 1 → pnF (c.getD j Pn.none) = true) := HY2.out hf
            rw [hf] at hfo
            clear hf HN2 HY2
            go_wp2_with fail
            rw [← hW]
            clear hW
            refine hfo.mono ?_
            rintro e u1 ⟨rfl, rfl⟩
            clear hfo
            go_wp2
            go_roundw
            case rel => exact ⟨t + 1, by omega, by go_num, HOK2.out, hbY⟩
            case measure => simp [intOf]; omega
        · obtain rfl : t = c.length := by omega
          have HOK3 : Hid (∀ j, j < k + 1 → 0 < (cs.getD j []).length ∧ (cs.getD j []).all pnF = true) := HX.out HP.out (all_yes' HOK.out)
          have j2 : ¬ (c.length : Int) < (c.length : Int) := by omega
          clear HOK HX
          go_wp2
          go_roundw
          case rel => exact ⟨k + 1, m + c.length, by omega, by go_num, by go_num, HM2.out, by omega, HOK3.out, hBW⟩
          case measure => simp [intOf]; omega
    · obtain rfl : k = cs.length := by omega
      have HF : Hid (coF cs = true) := coF_yes (by omega) HOK.out (by have := HM.out; rw [List.take_length] at this; omega)
      have g4 : ¬ (cs.length : Int) < (cs.length : Int) := by omega
      clear HOK HM
      go_wp2
      go_ret
      exact ⟨rt_bool HF.out.symm, hB⟩

end Go.Proofs.YthoildjecoppgaaGreatDoor

namespace Go.Proofs.YthoildjecoppgaaGreatDoor
open Go.RowKit Go.Maps
set_option linter.unusedSimpArgs false
set_option linter.unusedVariables false

set_option maxHeartbeats 1000000 in
set_option maxRecDepth 100000 in
theorem ifields_any (a : Option Addr) (cap : Nat) (r : List Int) (w : World) (h : Ri w a cap r) :
    Calls Tryz.prog 18 #[.slice a r.length cap] w fun e w' => e = .returned (.bool (r.all fdB)) ∧ w = w' := by
  have k2 := h.lenB
  have HH : Hid (Ri w a cap r) := h
  clear h
  go_enter Tryz.func18, Tryz.ntmps18
  go_wp2
  go_loopw [7] (fun i wr => ∃ k : Nat, k ≤ r.length ∧ i = .int .i64 k ∧ (∀ j, j < k → fdB (r.getD j 0) = true) ∧ w = wr) (fun i _ => r.length - (intOf i).toNat)
  case atStart => exact ⟨0, Nat.zero_le _, rfl, (fun j hj => by omega), rfl⟩
  case round =>
    obtain ⟨k, hk, rfl, hok, rfl⟩ := hrel
    have HOK : Hid (∀ j, j < k → fdB (r.getD j 0) = true) := hok
    clear hok
    by_cases hkn : k < r.length
    · obtain ⟨b, off, ea, hb, d0⟩ := HH.out.at (Below.refl _ _) k hkn
      subst ea
      obtain ⟨z, hzz⟩ : ∃ z, r.getD k 0 = z := ⟨_, rfl⟩
      have HZ : Hid (r.getD k 0 = z) := hzz
      rw [hzz] at d0
      have i1 : (0 : Int) ≤ (k : Int) := by omega
      have i2 : (k : Int) < (r.length : Int) := by omega
      have hw1 := wrap64_16 z
      have hw2 := wrap16_fd' z
      clear hzz
      cases hf : fdB z with
      | false =>
        have HF : Hid (r.all fdB = false) := all_no' hkn (by rw [HZ.out]; exact hf)
        rw [hf] at hw2
        clear hf HZ HOK
        go_wp2
        go_ret
        exact ⟨rt_bool HF.out.symm, rfl⟩
      | true =>
        have HOK2 : Hid (∀ j, j < k + 1 → fdB (r.getD j 0) = true) := upto_succ HOK.out (by rw [HZ.out]; exact hf)
        rw [hf] at hw2
        clear hf HZ HOK
        go_wp2
        go_roundw
        case rel => exact ⟨k + 1, by omega, by go_num, HOK2.out, trivial⟩
        case measure => simp [intOf]; omega
    · obtain rfl : k = r.length := by omega
      have HF : Hid (r.all fdB = true) := all_yes' HOK.out
      have g1 : ¬ (r.length : Int) < (r.length : Int) := by omega
      clear HOK
      go_wp2
      go_ret
      exact ⟨rt_bool HF.out.symm, rfl⟩


/-- Bools that are read. -/
def Rl (w : World) (a : Option Addr) (cap : Nat) (ts : List Bool) : Prop := Gr El.bool (fun _ => False) w a cap ts
theorem Rl.of {S : Nat → Prop} {w : World} {a : Option Addr} {cap : Nat} {ts : List Bool} (h : Gr El.bool S w a cap ts) : Rl w a cap ts := ⟨h.1, h.2.1, h.2.2.1, h.2.2.2⟩
theorem Rl.lenB {w : World} {a : Option Addr} {cap : Nat} {ts : List Bool} (h : Rl w a cap ts) : ts.length ≤ 9223372036854775807 := Gr.lenB h
theorem Rl.below {w w' : World} {a : Option Addr} {cap : Nat} {ts : List Bool} (h : Rl w a cap ts) (hb : Below w.heap.size w w') : Rl w' a cap ts := Gr.below h hb
theorem Rl.at {w wr : World} {a : Option Addr} {cap : Nat} {ts : List Bool} (h : Rl w a cap ts) (hb : Below w.heap.size w wr) (k : Nat) (hk : k < ts.length) : ∃ b off, a = some ⟨b, off, none⟩ ∧ b < w.heap.size ∧ wr.cell? ⟨b, off + k, none⟩ = some (.bool (ts.getD k false)) := by
  obtain ⟨b, off, vs, e, hb1, hr, hc⟩ := Gr.at h hb k hk
  have := hc 0 Nat.one_pos
  rw [show vs = [.bool (ts.getD k false)] from hr, show k * El.bool.sz = k from Nat.mul_one k] at this
  exact ⟨b, off, e, hb1, this⟩
theorem rem_nat (x n : Nat) : Int.tmod (x : Int) (n : Int) = ((x % n : Nat) : Int) := by
  rw [Int.tmod_eq_emod_of_nonneg (by omega)]; rfl

set_option maxHeartbeats 1000000 in
set_option maxRecDepth 100000 in
theorem nearW_any (f r : Nat → Nat) (s i : Nat) (a : Option Addr) (cap : Nat) (ts : List Bool) (w : World) (h : Rl w a cap ts) (hi : i < ts.length) (hl : ts.length ≤ 1000000) (hs : s ≤ 1000000)
    (f0 : (i + s) % ts.length = f 0) (f1 : ∀ k, k + 1 < ts.length → (f k + s) % ts.length = f (k + 1)) (f2 : ∀ k, k < ts.length → f k < ts.length) (f3 : ∀ k, k < ts.length - 1 → f k ≠ i) (f4 : f (ts.length - 1) = i) (f5 : ∀ k, k < ts.length → r (f k) = k) :
    Calls Tryz.prog 39 #[.slice a ts.length cap, .int .i64 (i : Int), .int .i64 (s : Int)] w fun e w' => e = .returned (.tuple #[.int .i64 (((nbT ts f (ts.length - 1)).getD 0 : Nat) : Int), .bool (nbT ts f (ts.length - 1)).isSome]) ∧ w = w' := by
  have HF0 : Hid ((i + s) % ts.length = f 0) := f0
  have HF1 : Hid (∀ k, k + 1 < ts.length → (f k + s) % ts.length = f (k + 1)) := f1
  have HF2 : Hid (∀ k, k < ts.length → f k < ts.length) := f2
  have HF3 : Hid (∀ k, k < ts.length - 1 → f k ≠ i) := f3
  have HF4 : Hid (f (ts.length - 1) = i) := f4
  have HF5 : Hid (∀ k, k < ts.length → r (f k) = k) := f5
  have HH : Hid (Rl w a cap ts) := h
  obtain ⟨n, hn⟩ : ∃ n, ts.length = n := ⟨_, rfl⟩
  have HN : Hid (ts.length = n) := hn
  rw [hn] at hi hl f0 ⊢
  have q0 := rem_nat (i + s) n
  rw [f0] at q0
  have hf0 : f 0 < n := by have := f2 0 (by omega); omega
  have hadd : ((i + s : Nat) : Int) = (i : Int) + (s : Int) := by omega
  rw [hadd] at q0
  have g0 : ¬ ((n : Int) = 0) := by omega
  clear hn h f0 f1 f2 f3 f4 hadd
  go_enter Tryz.func39, Tryz.ntmps39
  go_wp2
  go_loopw [9] (fun v wr => ∃ k : Nat, k < n ∧ v = .int .i64 ((f k : Nat) : Int) ∧ (∀ j, j < k → ts.getD (f j) false = false) ∧ w = wr) (fun v _ => n - r (intOf v).toNat)
  case atStart => exact ⟨0, by omega, rfl, (fun j hj => by omega), rfl⟩
  case round =>
    obtain ⟨k, hk, rfl, hok, rfl⟩ := hrel
    have HOK : Hid (∀ j, j < k → ts.getD (f j) false = false) := hok
    have hfk : f k < n := by have := HF2.out k (by rw [HN.out]; exact hk); rw [HN.out] at this; exact this
    clear hok q0 hf0
    by_cases hkn : k < n - 1
    · have hne : f k ≠ i := HF3.out k (by rw [HN.out]; exact hkn)
      obtain ⟨b, off, ea, hb, d0⟩ := HH.out.at (Below.refl _ _) (f k) (by rw [HN.out]; exact hfk)
      subst ea
      obtain ⟨z, hzz⟩ : ∃ z, ts.getD (f k) false = z := ⟨_, rfl⟩
      rw [hzz] at d0
      have hnx := HF1.out k (by rw [HN.out]; omega)
      have hf1 : f (k + 1) < n := by have := HF2.out (k + 1) (by rw [HN.out]; omega); rw [HN.out] at this; exact this
      have hr0 : r (f k) = k := HF5.out k (by rw [HN.out]; omega)
      have hr1 : r (f (k + 1)) = k + 1 := HF5.out (k + 1) (by rw [HN.out]; omega)
      have HR : Hid (r (f k) = k ∧ r (f (k + 1)) = k + 1) := ⟨hr0, hr1⟩
      rw [HN.out] at hnx
      have q1 := rem_nat (f k + s) n
      rw [hnx] at q1
      have hadd : ((f k + s : Nat) : Int) = ((f k : Nat) : Int) + (s : Int) := by omega
      rw [hadd] at q1
      have HFK : Hid (k + 1 < n) := by show _ < _; omega
      cases z with
      | true =>
        have HRES : Hid (nbT ts f (n - 1) = some (f k)) := nbT_some hkn HOK.out hzz
        clear HOK hzz hnx hr0 hr1 HR hadd
        generalize f k = x at *
        have g1 : ¬ ((x : Int) = (i : Int)) := by omega
        have i1 : (0 : Int) ≤ (x : Int) := by omega
        have i2 : (x : Int) < (n : Int) := by omega
        go_wp2
        go_ret2
        exact ⟨by rw [HRES.out]; rfl, rfl⟩
      | false =>
        have HOK2 : Hid (∀ j, j < k + 1 → ts.getD (f j) false = false) := upto_succ HOK.out hzz
        clear HOK hzz hnx hr0 hr1 hadd
        obtain ⟨x, hx⟩ : ∃ x, f k = x := ⟨_, rfl⟩
        obtain ⟨y, hy⟩ : ∃ y, f (k + 1) = y := ⟨_, rfl⟩
        have HX : Hid (f k = x) := hx
        have HY : Hid (f (k + 1) = y) := hy
        rw [hx] at hfk hne d0 q1 ⊢
        rw [hy] at hf1 q1
        clear hx hy
        have g1 : ¬ ((x : Int) = (i : Int)) := by omega
        have i1 : (0 : Int) ≤ (x : Int) := by omega
        have i2 : (x : Int) < (n : Int) := by omega
        go_wp2
        go_roundw
        case rel => exact ⟨k + 1, HFK.out, by rw [HY.out], HOK2.out, trivial⟩
        case measure =>
          have h1 := HR.out.1
          have h2 := HR.out.2
          have h3 := HFK.out
          rw [HX.out] at h1
          rw [HY.out] at h2
          simp [intOf]
          omega
    · obtain rfl : k = n - 1 := by omega
      have HRES : Hid (nbT ts f (n - 1) = none) := nbT_none HOK.out
      have hfe : f (n - 1) = i := by have := HF4.out; rw [HN.out] at this; exact this
      rw [hfe]
      have g1 : ((i : Int) = (i : Int)) := rfl
      clear HOK hfe
      go_wp2
      go_ret2
      exact ⟨by rw [HRES.out]; rfl, rfl⟩
theorem nearA_any (i : Nat) (a : Option Addr) (cap : Nat) (ts : List Bool) (w : World) (h : Rl w a cap ts) (hi : i < ts.length) (hl : ts.length ≤ 1000000) :
    Calls Tryz.prog 39 #[.slice a ts.length cap, .int .i64 (i : Int), .int .i64 ((ts.length - 1 : Nat) : Int)] w fun e w' => e = .returned (.tuple #[.int .i64 (((nbA ts i).getD 0 : Nat) : Int), .bool (nbA ts i).isSome]) ∧ w = w' :=
  nearW_any (wyA ts.length i) (fun v => if v < i then i - 1 - v else i + ts.length - 1 - v) (ts.length - 1) i a cap ts w h hi hl (by omega) (wyA_zero hi) (fun k hk => wyA_succ hi hk) (fun k hk => wyA_lt hi hk) (fun k hk => wyA_ne hi hk) (wyA_end hi) (fun k hk => by unfold wyA; split <;> split <;> omega)
theorem nearB_any (i : Nat) (a : Option Addr) (cap : Nat) (ts : List Bool) (w : World) (h : Rl w a cap ts) (hi : i < ts.length) (hl : ts.length ≤ 1000000) :
    Calls Tryz.prog 39 #[.slice a ts.length cap, .int .i64 (i : Int), .int .i64 1] w fun e w' => e = .returned (.tuple #[.int .i64 (((nbB ts i).getD 0 : Nat) : Int), .bool (nbB ts i).isSome]) ∧ w = w' :=
  nearW_any (wyB ts.length i) (fun v => if i < v then v - 1 - i else v + ts.length - 1 - i) 1 i a cap ts w h hi hl (by omega) (wyB_zero hi) (fun k hk => wyB_succ hi hk) (fun k hk => wyB_lt hi hk) (fun k hk => wyB_ne hi hk) (wyB_end hi) (fun k hk => by unfold wyB; split <;> split <;> omega)

end Go.Proofs.YthoildjecoppgaaGreatDoor
