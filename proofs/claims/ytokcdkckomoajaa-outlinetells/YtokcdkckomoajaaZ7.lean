/-
  Rows of ints: read (Ri), and of the call's own (Io), and how they grow.
  How points, parts and outlines lie in a world.
  outline.fields, partsFormed, contoursFormed, Formed: the walks.
  The plain mathematics of lists of limbs: values, trimmed lists, comparisons. Nothing here speaks of a program.
-/
import Derived.Test.YtokcdkckomoajaaZ1
import Derived.Test.YtokcdkckomoajaaZ5
import Derived.Test.YtokcdkckomoajaaZ6
import Derived.WalkKit
namespace Go.Proofs.Ytokcdkckomoajaa
open Go.RowKit Go.Maps
set_option linter.unusedSimpArgs false
set_option linter.unusedVariables false

/-- Ints that are read. -/
def Ri (w : World) (a : Option Addr) (cap : Nat) (zs : List Int) : Prop :=
  (∀ z ∈ zs, I64 z) ∧ zs.length ≤ cap ∧ cap ≤ maxLen ∧
  (zs = [] ∨ ∃ b off, a = some ⟨b, off, none⟩ ∧ b < w.heap.size ∧ ∀ i, i < zs.length → w.cell? ⟨b, off + i, none⟩ = some (.int .i64 (zs.getD i 0)))
theorem Ri.at {w wr : World} {a : Option Addr} {cap : Nat} {zs : List Int} (h : Ri w a cap zs) (hb : Below w.heap.size w wr) (k : Nat) (hk : k < zs.length) :
    ∃ b off, a = some ⟨b, off, none⟩ ∧ b < w.heap.size ∧ wr.cell? ⟨b, off + k, none⟩ = some (.int .i64 (zs.getD k 0)) := by
  rcases h.2.2.2 with rfl | ⟨b, off, h1, h2, h3⟩
  · simp at hk
  · exact ⟨b, off, h1, h2, (hb.cell (p := ⟨b, off + k, none⟩) h2).trans (h3 k hk)⟩
theorem Ri.below {w w' : World} {a : Option Addr} {cap : Nat} {zs : List Int} (h : Ri w a cap zs) (hb : Below w.heap.size w w') : Ri w' a cap zs := by
  obtain ⟨h1, h2, h3, h4⟩ := h
  refine ⟨h1, h2, h3, ?_⟩
  rcases h4 with h4 | ⟨b, off, e, h5, h6⟩
  · exact .inl h4
  · exact .inr ⟨b, off, e, Nat.lt_of_lt_of_le h5 hb.size, fun i hi => (hb.cell (p := ⟨b, off + i, none⟩) h5).trans (h6 i hi)⟩
theorem Ri.nil (w : World) (a : Option Addr) (cap : Nat) (h : cap ≤ maxLen) : Ri w a cap [] := ⟨(fun z hz => by cases hz), Nat.zero_le _, h, .inl rfl⟩
theorem Ri.i64 {w : World} {a : Option Addr} {cap : Nat} {zs : List Int} (h : Ri w a cap zs) {k : Nat} (hk : k < zs.length) : I64 (zs.getD k 0) := by
  refine h.1 _ ?_
  rw [List.getD_eq_getElem?_getD, List.getElem?_eq_getElem hk]
  exact List.getElem_mem hk

theorem infoA_i64 : (Try.prog.info? 3).map (fun i => (i.zero, i.size, i.bytes)) = some (some (.int .i64 0), 1, 8) := by kernel_rfl
/-- A row of ints of the call's own. -/
def Io (base : Nat) (w : World) (v : Value) (zs : List Int) : Prop := (∀ z ∈ zs, I64 z) ∧ w.ownsRow base 3 1 v zs.length (zs.map (Value.int .i64))
theorem Io.nil (base : Nat) (w : World) : Io base w (.slice none 0 0) [] := ⟨(fun t ht => by cases ht), World.ownsRow_nil w base _ 1⟩
theorem Io.slice {base : Nat} {w : World} {v : Value} {zs : List Int} (h : Io base w v zs) : ∃ a cap, v = .slice a zs.length cap ∧ Ri w a cap zs := by
  obtain ⟨h1, h3⟩ := h
  rcases h3.2 with ⟨rfl, h0⟩ | ⟨g, cap, cur, rfl, hb, hg, hc1, hc2, hc3, ht⟩
  · have : zs = [] := List.length_eq_zero_iff.1 h0
    subst this
    exact ⟨none, 0, rfl, Ri.nil _ _ _ (Nat.zero_le _)⟩
  · refine ⟨_, cap, rfl, h1, hc1, hc2, .inr ⟨g, 0, rfl, (Array.getElem?_eq_some_iff.1 hg).1, fun i hi => ?_⟩⟩
    have := h3.cells (g := g) rfl i (.int .i64 (zs.getD i 0)) (by simp [List.getD, hi])
    have hadd : (⟨g, 0, none⟩ : Addr).add i = ⟨g, 0 + i, none⟩ := by unfold Addr.add; split <;> simp_all
    rw [hadd] at this
    exact this
theorem Io.below {base : Nat} {w w' : World} {v : Value} {zs : List Int} (h : Io base w v zs) (hb : Below w.heap.size w w') : Io base w' v zs := by
  obtain ⟨h1, h3⟩ := h
  refine ⟨h1, h3.1, ?_⟩
  rcases h3.2 with h0 | ⟨g, cap', cur, k1, k2, k3, k4⟩
  · exact .inl h0
  · exact .inr ⟨g, cap', cur, k1, k2, (hb.block g (Array.getElem?_eq_some_iff.1 k3).1).trans k3, k4⟩
theorem Io.lo {base : Nat} {w : World} {v : Value} {zs : List Int} (h : Io base w v zs) {g : Nat} (hg : v.ownBlock = some g) : base ≤ g := (World.ownsRow.lt h.2 g hg).1
/-- 'append(out, x)': x is laid in a block of its own first. -/
theorem wpList_append_int {w : World} {ops : Array Oper} {rest : List Oper} {o : Oper} {a : Act} {Q : Exit → Act → World → Prop}
    (hgd : o.guard = none) (s x : Operand) (ho : o.op = .call { callee := .builtin .append, args := #[s, x], argTypes := #[40, 40] })
    (base : Nat) (v : Value) (zs : List Int) (hs : a.eval s = v) (hown : Io base w v zs) (g : Nat) (z : Int) (hx : a.eval x = .slice (some ⟨g, 0, none⟩) 1 1)
    (c0 : w.cell? ⟨g, 0, none⟩ = some (.int .i64 z)) (hz : I64 z) (hlen : zs.length + 1 ≤ 1000000) (hbase : base ≤ w.heap.size)
    (h : ∀ v' w', Io base w' v' (zs ++ [z]) → w.grownBy w' v.ownBlock → wpList Try.prog ops Q rest (a.put o.dst v') w') : wpList Try.prog ops Q (o :: rest) a w := by
  obtain ⟨i0, hi, hz0, hz1, hz2⟩ := info_parts infoA_i64
  refine wpList_append_own_at w hgd s x 40 ho base 3 i0 (.int .i64 0) 1 8 Try.underlying40 hi hz0 hz1 hz2 rfl (by decide) v zs.length (zs.map (Value.int .i64)) hs hown.2 ⟨g, 0, none⟩ 1 1 [.int .i64 z] hx rfl ?_ ?_ (by unfold maxLen; omega) (by omega) hbase ?_
  · intro j u hj
    match j, hj with
    | 0, hj => simp at hj; subst hj; simpa [Addr.add] using c0
  · intro u hu
    simp at hu
    subst hu
    rfl
  · intro v' w' k1 k2 _ _
    refine h v' w' ⟨fun s hs => ?_, ?_⟩ k2
    · rcases List.mem_append.1 hs with hs | hs
      · exact hown.1 s hs
      · rw [List.mem_singleton.1 hs]; exact hz
    · rw [List.map_append, List.length_append]
      exact k1
theorem Ri.lenB {w : World} {a : Option Addr} {cap : Nat} {zs : List Int} (h : Ri w a cap zs) : zs.length ≤ 9223372036854775807 := by
  have h1 := h.2.1
  have h2 := h.2.2.1
  unfold maxLen at h2
  omega
/-- 'append(out, place...)'. -/
theorem wpList_append_ris {w : World} {ops : Array Oper} {rest : List Oper} {o : Oper} {a : Act} {Q : Exit → Act → World → Prop}
    (hgd : o.guard = none) (s x : Operand) (ho : o.op = .call { callee := .builtin .append, args := #[s, x], argTypes := #[40, 40] })
    (base : Nat) (v : Value) (zs : List Int) (hs : a.eval s = v) (hown : Io base w v zs) (pa : Option Addr) (pc n : Nat) (ps : List Int) (hn : n = ps.length) (hx : a.eval x = .slice pa n pc)
    (hp : Ri w pa pc ps) (hne : ps ≠ []) (hlen : zs.length + ps.length ≤ 1000000) (hbase : base ≤ w.heap.size)
    (h : ∀ v' w', Io base w' v' (zs ++ ps) → w.grownBy w' v.ownBlock → wpList Try.prog ops Q rest (a.put o.dst v') w') : wpList Try.prog ops Q (o :: rest) a w := by
  subst hn
  obtain ⟨i0, hi, hz0, hz1, hz2⟩ := info_parts infoA_i64
  rcases hp.2.2.2 with h0 | ⟨b, off, rfl, hb, hc⟩
  · exact absurd h0 hne
  refine wpList_append_own_at w hgd s x 40 ho base 3 i0 (.int .i64 0) 1 8 Try.underlying40 hi hz0 hz1 hz2 rfl (by decide) v zs.length (zs.map (Value.int .i64)) hs hown.2 ⟨b, off, none⟩ ps.length pc (ps.map (Value.int .i64)) hx (by simp) ?_ ?_ (by unfold maxLen; omega) (by omega) hbase ?_
  · intro j u hj
    have hjl : j < ps.length := by
      rcases Nat.lt_or_ge j ps.length with h1 | h1
      · exact h1
      · rw [List.getElem?_eq_none (by simpa using h1)] at hj; cases hj
    have hadd : (⟨b, off, none⟩ : Addr).add j = ⟨b, off + j, none⟩ := by unfold Addr.add; split <;> simp_all
    rw [hadd, hc j hjl]
    rw [List.getElem?_map, List.getElem?_eq_getElem hjl] at hj
    simp at hj
    rw [← hj]
    simp [List.getD, hjl]
  · intro u hu
    obtain ⟨z, _, rfl⟩ := List.mem_map.1 hu
    rfl
  · intro v' w' k1 k2 _ _
    refine h v' w' ⟨fun s hs => ?_, ?_⟩ k2
    · rcases List.mem_append.1 hs with hs | hs
      · exact hown.1 s hs
      · exact hp.1 s hs
    · rw [List.map_append, List.length_append]
      exact k1
/-- A row of ints of the call's own that isn't empty, and a store into it. -/
theorem Io.own {base : Nat} {w : World} {v : Value} {zs : List Int} (h : Io base w v zs) (hne : zs ≠ []) :
    ∃ g cap, v = .slice (some ⟨g, 0, none⟩) zs.length cap ∧ base ≤ g ∧ g < w.heap.size ∧ zs.length ≤ cap ∧ (∀ k, k < zs.length → w.cell? ⟨g, k, none⟩ = some (.int .i64 (zs.getD k 0))) ∧ (∀ k, w.frozen? ⟨g, k, none⟩ = false) ∧
      ∀ k z, k < zs.length → I64 z → Io base (w.setCell ⟨g, k, none⟩ (.int .i64 z)) v (zs.set k z) := by
  obtain ⟨h1, h3⟩ := h
  rcases h3.2 with ⟨rfl, h0⟩ | ⟨g, cap, cur, rfl, hb, hg, hc1, hc2, hc3, ht⟩
  · exact absurd (List.length_eq_zero_iff.1 h0) hne
  · refine ⟨g, cap, rfl, hb, (Array.getElem?_eq_some_iff.1 hg).1, hc1, fun k hk => ?_, fun k => frozen_of_row w g k _ _ hg, fun k z hk hz => ⟨fun s hs => ?_, ?_⟩⟩
    · have := h3.cells (g := g) rfl k (.int .i64 (zs.getD k 0)) (by simp [List.getD, hk])
      have hadd : (⟨g, 0, none⟩ : Addr).add k = ⟨g, 0 + k, none⟩ := by unfold Addr.add; split <;> simp_all
      rw [hadd, Nat.zero_add] at this
      exact this
    · rcases List.mem_or_eq_of_mem_set hs with hs | hs
      · exact h1 s hs
      · rw [hs]; exact hz
    · have hset := heap_setCell_same w g k cur 3 (.int .i64 z) hg
      refine ⟨by simp, .inr ⟨g, cap, _, by rw [List.length_set], hb, hset, by simpa using hc1, hc2, ?_, ?_⟩⟩
      · simpa using hc3
      · simp only [List.length_set, Nat.mul_one] at ht ⊢
        rw [List.map_set, ← ht]
        simp [List.take_set]

end Go.Proofs.Ytokcdkckomoajaa

namespace Go.Proofs.Ytokcdkckomoajaa
open Go.RowKit Go.Maps
set_option linter.unusedSimpArgs false
set_option linter.unusedVariables false

def PnE : El Pn := (El.int.cat (El.int.cat El.bool)).via (fun p => (p.x, p.y, p.on)) Pn.none
def PaE : El Pa := (El.int.cat (El.int.cat El.int)).via (fun p => (p.g, p.dx, p.dy)) Pa.none
def PnW (p : Pn) : Prop := I64 p.x ∧ I64 p.y
def PaW (p : Pa) : Prop := I64 p.g ∧ I64 p.dx ∧ I64 p.dy
def pnC (p : Pn) : List Value := [.int .i64 p.x, .int .i64 p.y, .bool p.on]
def paC (p : Pa) : List Value := [.int .i64 p.g, .int .i64 p.dx, .int .i64 p.dy]
theorem PnE_rep {S : Nat → Prop} {w : World} {vs : List Value} {p : Pn} : PnE.rep S w vs p ↔ vs = pnC p ∧ PnW p := by
  constructor
  · rintro ⟨us, ts, rfl, ⟨rfl, h1⟩, us2, ts2, rfl, ⟨rfl, h2⟩, h3⟩
    have h3 : ts2 = [.bool p.on] := h3
    subst h3
    exact ⟨rfl, h1, h2⟩
  · rintro ⟨rfl, h1, h2⟩
    exact ⟨[_], _, rfl, ⟨rfl, h1⟩, [_], [_], rfl, ⟨rfl, h2⟩, rfl⟩
theorem PaE_rep {S : Nat → Prop} {w : World} {vs : List Value} {p : Pa} : PaE.rep S w vs p ↔ vs = paC p ∧ PaW p := by
  constructor
  · rintro ⟨us, ts, rfl, ⟨rfl, h1⟩, us2, ts2, rfl, ⟨rfl, h2⟩, ⟨rfl, h3⟩⟩
    exact ⟨rfl, h1, h2, h3⟩
  · rintro ⟨rfl, h1, h2, h3⟩
    exact ⟨[_], _, rfl, ⟨rfl, h1⟩, [_], [_], rfl, ⟨rfl, h2⟩, ⟨rfl, h3⟩⟩
theorem Gr.pn {S : Nat → Prop} {w wr : World} {a : Option Addr} {cap : Nat} {l : List Pn} (h : Gr PnE S w a cap l) (hb : Below w.heap.size w wr) (k : Nat) (hk : k < l.length) :
    ∃ b off, a = some ⟨b, off, none⟩ ∧ b < w.heap.size ∧ PnW (l.getD k Pn.none) ∧ wr.cell? ⟨b, off + k * 3, none⟩ = some (.int .i64 (l.getD k Pn.none).x) ∧ wr.cell? ⟨b, off + k * 3 + 1, none⟩ = some (.int .i64 (l.getD k Pn.none).y) ∧ wr.cell? ⟨b, off + k * 3 + 2, none⟩ = some (.bool (l.getD k Pn.none).on) := by
  obtain ⟨b, off, vs, e, hl, hr, hc⟩ := h.at hb k hk
  obtain ⟨rfl, hw⟩ := PnE_rep.1 hr
  exact ⟨b, off, e, hl, hw, hc 0 (by decide), hc 1 (by decide), hc 2 (by decide)⟩
theorem Gr.pa {S : Nat → Prop} {w wr : World} {a : Option Addr} {cap : Nat} {l : List Pa} (h : Gr PaE S w a cap l) (hb : Below w.heap.size w wr) (k : Nat) (hk : k < l.length) :
    ∃ b off, a = some ⟨b, off, none⟩ ∧ b < w.heap.size ∧ PaW (l.getD k Pa.none) ∧ wr.cell? ⟨b, off + k * 3, none⟩ = some (.int .i64 (l.getD k Pa.none).g) ∧ wr.cell? ⟨b, off + k * 3 + 1, none⟩ = some (.int .i64 (l.getD k Pa.none).dx) ∧ wr.cell? ⟨b, off + k * 3 + 2, none⟩ = some (.int .i64 (l.getD k Pa.none).dy) := by
  obtain ⟨b, off, vs, e, hl, hr, hc⟩ := h.at hb k hk
  obtain ⟨rfl, hw⟩ := PaE_rep.1 hr
  exact ⟨b, off, e, hl, hw, hc 0 (by decide), hc 1 (by decide), hc 2 (by decide)⟩
/-- An element of a row of rows. -/
theorem Gr.rw {α : Type} {E : El α} {S : Nat → Prop} {w wr : World} {a : Option Addr} {cap : Nat} {m : List (List α)} (h : Gr E.row S w a cap m) (hb : Below w.heap.size w wr) (k : Nat) (hk : k < m.length) :
    ∃ b off a' cap', a = some ⟨b, off, none⟩ ∧ b < w.heap.size ∧ wr.cell? ⟨b, off + k, none⟩ = some (.slice a' (m.getD k []).length cap') ∧ Gr E S wr a' cap' (m.getD k []) ∧ (m.getD k []).length ≤ 140737488351232 ∧ ∀ b o, a' = some ⟨b, o, none⟩ → m.getD k [] ≠ [] → S b := by
  obtain ⟨b, off, vs, e, hl, ⟨a', cap', hv, hS, hr, hlb⟩, hc⟩ := h.at hb k hk
  have := hc 0 Nat.one_pos
  rw [hv, show k * E.row.sz = k from Nat.mul_one k] at this
  exact ⟨b, off, a', cap', e, hl, this, hr, hlb, hS⟩
/-- A row of rows, element by element, with no world told. -/
theorem getL' {α : Type} {m : List (List α)} {k : Nat} (hk : k < m.length) : m.getD k [] = m[k] := by simp [List.getD, hk]
theorem getL_mem' {α : Type} {m : List (List α)} {k : Nat} (hk : k < m.length) : m.getD k [] ∈ m := by rw [getL' hk]; exact List.getElem_mem hk
theorem get_mem {α : Type} {m : List α} {d : α} {k : Nat} (hk : k < m.length) : m.getD k d ∈ m := by rw [List.getD_eq_getElem?_getD, List.getElem?_eq_getElem hk]; exact List.getElem_mem hk
theorem of_get {α : Type} {p : α → Prop} {d : α} {m : List α} (h : ∀ k, k < m.length → p (m.getD k d)) : ∀ x ∈ m, p x := by
  intro x hx
  obtain ⟨i, hi, e⟩ := List.getElem_of_mem hx
  have := h i hi
  rw [List.getD_eq_getElem?_getD, List.getElem?_eq_getElem hi, Option.getD_some, e] at this
  exact this
theorem take_snoc {α : Type} {m : List α} {d : α} {k : Nat} (hk : k < m.length) : m.take (k + 1) = m.take k ++ [m.getD k d] := by
  rw [List.take_add_one, List.getElem?_eq_getElem hk]
  simp [List.getD, hk]
theorem info_pn : (Try.prog.info? 43).map (fun i => (i.zero, i.size, i.bytes)) = some (some (.agg #[.int .i64 0, .int .i64 0, .bool false]), 3, 24) := by kernel_rfl
theorem info_pa : (Try.prog.info? 69).map (fun i => (i.zero, i.size, i.bytes)) = some (some (.agg #[.int .i64 0, .int .i64 0, .int .i64 0]), 3, 24) := by kernel_rfl
theorem info_pns : (Try.prog.info? 37).map (fun i => (i.zero, i.size, i.bytes)) = some (some (.slice none 0 0), 1, 24) := by kernel_rfl

end Go.Proofs.Ytokcdkckomoajaa

namespace Go.Proofs.Ytokcdkckomoajaa
open Go.RowKit Go.Maps
set_option linter.unusedSimpArgs false
set_option linter.unusedVariables false

theorem wrap_i16' (z : Int) : IntKind.i16.wrap z = if 32768 ≤ z % 65536 then z % 65536 - 65536 else z % 65536 := by
  simp [IntKind.wrap, IntKind.bits, IntKind.signed]

set_option maxHeartbeats 400000 in
set_option maxRecDepth 100000 in
theorem wrap16_fd' (z : Int) : (IntKind.i16.wrap z != z) = !fdB z := by
  rw [wrap_i16', fdB, Bool.eq_iff_iff, bne_iff_ne, Bool.not_eq_true', decide_eq_false_iff_not]
  split <;> omega
theorem wrap64_16 (z : Int) : IntKind.i64.wrap (IntKind.i16.wrap z) = IntKind.i16.wrap z := by
  rw [wrap_i16']
  simp only [IntKind.wrap, IntKind.bits, IntKind.signed]
  split <;> (simp; omega)
theorem all_no' {α : Type} {p : α → Bool} {r : List α} {d : α} {k : Nat} (hk : k < r.length) (h : p (r.getD k d) = false) : r.all p = false := by
  rw [Bool.eq_false_iff]
  intro e
  have := List.all_eq_true.1 e (r.getD k d) (get_mem hk)
  rw [h] at this
  cases this
theorem all_yes' {α : Type} {p : α → Bool} {r : List α} {d : α} (h : ∀ j, j < r.length → p (r.getD j d) = true) : r.all p = true := by
  rw [List.all_eq_true]
  exact of_get h
theorem upto_succ {p : Nat → Prop} {k : Nat} (h : ∀ j, j < k → p j) (h1 : p k) : ∀ j, j < k + 1 → p j := fun j hj => by
  rcases Nat.lt_or_ge j k with h2 | h2
  · exact h j h2
  · rw [show j = k by omega]; exact h1

set_option maxHeartbeats 1000000 in
set_option maxRecDepth 100000 in
theorem cfields_any (a : Option Addr) (cap : Nat) (r : List Int) (w : World) (h : Ri w a cap r) :
    Calls Try.prog 29 #[.slice a r.length cap] w fun e w' => e = .returned (.bool (r.all fdB)) ∧ w = w' := by
  have k2 := h.lenB
  have HH : Hid (Ri w a cap r) := h
  clear h
  go_enter Try.func29, Try.ntmps29
  go_wp2
  go_loopw [7] (fun i wr => ∃ k : Nat, k ≤ r.length ∧ i = .int .i64 k ∧ (∀ j, j < k → fdB (r.getD j 0) = true) ∧ w = wr) (fun i _ => r.length - (intOf i).toNat)
  case atStart => exact ⟨0, Nat.zero_le _, rfl, (fun j hj => by omega), rfl⟩
  case round =>
    obtain ⟨k, hk, rfl, hok, rfl⟩ := hrel
    have HOK : Hid (∀ j, j < k → fdB (r.getD j 0) = true) := hok
    clear hok
    by_cases hkn : k < r.length
    · obtain ⟨b, off, ea, hb, d0⟩ := HH.out.at (Below.refl _ _) k hkn
      subst ea
      obtain ⟨z, hzz⟩ : ∃ z, r.getD k 0 = z := ⟨_, rfl⟩
      have HZ : Hid (r.getD k 0 = z) := hzz
      rw [hzz] at d0
      have i1 : (0 : Int) ≤ (k : Int) := by omega
      have i2 : (k : Int) < (r.length : Int) := by omega
      have hw1 := wrap64_16 z
      have hw2 := wrap16_fd' z
      clear hzz
      cases hf : fdB z with
      | false =>
        have HF : Hid (r.all fdB = false) := all_no' hkn (by rw [HZ.out]; exact hf)
        rw [hf] at hw2
        clear hf HZ HOK
        go_wp2
        go_ret
        exact ⟨rt_bool HF.out.symm, rfl⟩
      | true =>
        have HOK2 : Hid (∀ j, j < k + 1 → fdB (r.getD j 0) = true) := upto_succ HOK.out (by rw [HZ.out]; exact hf)
        rw [hf] at hw2
        clear hf HZ HOK
        go_wp2
        go_roundw
        case rel => exact ⟨k + 1, by omega, by go_num, HOK2.out, trivial⟩
        case measure => simp [intOf]; omega
    · obtain rfl : k = r.length := by omega
      have HF : Hid (r.all fdB = true) := all_yes' HOK.out
      have g1 : ¬ (r.length : Int) < (r.length : Int) := by omega
      clear HOK
      go_wp2
      go_ret
      exact ⟨rt_bool HF.out.symm, rfl⟩

/-- Two ints laid in a block. -/
theorem ri_two (w : World) (x y : Int) (hx : I64 x) (hy : I64 y) : Ri (w.alloc (.cells #[.int .i64 x, .int .i64 y] 3)) (some ⟨w.heap.size, 0, none⟩) 2 [x, y] := by
  have hN := heap_alloc_new w (.cells #[.int .i64 x, .int .i64 y] 3)
  refine ⟨fun z hz => ?_, Nat.le_refl _, by unfold maxLen; omega, .inr ⟨w.heap.size, 0, rfl, by simp, fun i hi => ?_⟩⟩
  · simp at hz
    rcases hz with rfl | rfl
    · exact hx
    · exact hy
  · match i, hi with
    | 0, _ => exact cell_of_row _ w.heap.size 0 _ _ (0, 0) hN
    | 1, _ => exact cell_of_row _ w.heap.size 1 _ _ (0, 0) hN
theorem two_all (x y : Int) : [x, y].all fdB = (fdB x && fdB y) := by simp

set_option maxHeartbeats 2000000 in
set_option maxRecDepth 100000 in
theorem cpartsF_any (S : Nat → Prop) (a : Option Addr) (cap : Nat) (l : List Pa) (w : World) (h : Gr PaE S w a cap l) :
    Calls Try.prog 42 #[.slice a l.length cap] w fun e w' => e = .returned (.bool (decide (l.length ≤ 6) && l.all paF)) ∧ Below w.heap.size w w' := by
  have k2 := h.lenB
  have HH : Hid (Gr PaE S w a cap l) := h
  clear h
  by_cases h6 : 6 < l.length
  · have HF : Hid ((decide (l.length ≤ 6) && l.all paF) = false) := by show _ = _; rw [decide_eq_false (by omega), Bool.false_and]
    have g1 : (6 : Int) < (l.length : Int) := by omega
    go_enter Try.func42, Try.ntmps42
    go_wp2
    go_ret
    exact ⟨rt_bool HF.out.symm, Below.refl _ _⟩
  have HL : Hid ((decide (l.length ≤ 6) && l.all paF) = l.all paF) := by show _ = _; rw [decide_eq_true (by omega), Bool.true_and]
  have g1 : ¬ (6 : Int) < (l.length : Int) := by omega
  go_enter Try.func42, Try.ntmps42
  go_wp2
  go_loopw [10] (fun i wr => ∃ k : Nat, k ≤ l.length ∧ i = .int .i64 k ∧ (∀ j, j < k → paF (l.getD j Pa.none) = true) ∧ Below w.heap.size w wr) (fun i _ => l.length - (intOf i).toNat)
  case atStart => exact ⟨0, Nat.zero_le _, rfl, (fun j hj => by omega), Below.refl _ _⟩
  case round =>
    obtain ⟨k, hk, rfl, hok, hB⟩ := hrel
    have HOK : Hid (∀ j, j < k → paF (l.getD j Pa.none) = true) := hok
    clear hok
    by_cases hkn : k < l.length
    · obtain ⟨b, off, ea, hb, ⟨w0, w1, w2⟩, d0, d1, d2⟩ := HH.out.pa hB k hkn
      subst ea
      have HN : Hid (paF (l.getD k Pa.none) = false → (decide (l.length ≤ 6) && l.all paF) = false) := fun hf => by rw [HL.out]; exact all_no' hkn hf
      have HY : Hid (paF (l.getD k Pa.none) = true → ∀ j, j < k + 1 → paF (l.getD j Pa.none) = true) := fun hf => upto_succ HOK.out hf
      generalize l.getD k Pa.none = p at *
      obtain ⟨g, x, y⟩ := p
      dsimp only at w0 w1 w2 d0 d1 d2
      have i1 : (0 : Int) ≤ (k : Int) := by omega
      have i2 : (k : Int) < (l.length : Int) := by omega
      clear HOK
      by_cases hg0 : g < 0
      · have HF : Hid ((decide (l.length ≤ 6) && l.all paF) = false) := HN.out (by unfold paF; rw [decide_eq_false (by show ¬ (0 ≤ g ∧ g ≤ 65535); omega), Bool.false_and])
        have g2 : decide (g < 0) = true := decide_eq_true hg0
        clear HN HY
        go_wp2
        go_ret
        exact ⟨rt_bool HF.out.symm, hB.alloc hB.size _⟩
      have g2 : decide (g < 0) = false := decide_eq_false hg0
      by_cases hg1 : 65535 < g
      · have HF : Hid ((decide (l.length ≤ 6) && l.all paF) = false) := HN.out (by unfold paF; rw [decide_eq_false (by show ¬ (0 ≤ g ∧ g ≤ 65535); omega), Bool.false_and])
        have g3 : decide (65535 < g) = true := decide_eq_true hg1
        clear HN HY
        go_wp2
        go_ret
        exact ⟨rt_bool HF.out.symm, hB.alloc hB.size _⟩
      have g3 : decide (65535 < g) = false := decide_eq_false hg1
      have hpf : paF ⟨g, x, y⟩ = (fdB x && fdB y) := by unfold paF; rw [decide_eq_true (by show 0 ≤ g ∧ g ≤ 65535; omega), Bool.true_and]
      rw [hpf] at HN HY
      obtain ⟨W, hW⟩ : ∃ W, W = (wr.alloc (.cells #[.int .i64 g, .int .i64 x, .int .i64 y] 69)).alloc (.cells #[.int .i64 x, .int .i64 y] 3) := ⟨_, rfl⟩
      have hri := ri_two (wr.alloc (.cells #[.int .i64 g, .int .i64 x, .int .i64 y] 69)) x y w1 w2
      have hsz : (wr.alloc (.cells #[.int .i64 g, .int .i64 x, .int .i64 y] 69)).heap.size = wr.heap.size + 1 := by simp
      rw [← hW, hsz] at hri
      have hbW : Below w.heap.size w W := by rw [hW]; exact (hB.alloc hB.size _).alloc (by simp; have := hB.size; omega) _
      have hfo := cfields_any _ _ _ _ hri
      rw [two_all] at hfo
      simp only [List.length_cons, List.length_nil, Nat.zero_add] at hfo
      clear hpf hri hsz
      cases hf : (fdB x && fdB y) with
      | false =>
        have HF : Hid ((decide (l.length ≤ 6) && l.all paF) = false) := HN.out hf
        rw [hf] at hfo
        clear hf HN HY
        go_wp2_with fail
        rw [← hW]
        clear hW
        refine hfo.mono ?_
        rintro e u1 ⟨rfl, rfl⟩
        clear hfo
        go_wp2
        go_ret
        exact ⟨rt_bool HF.out.symm, hbW⟩
      | true =>
        have HOK2 : Hid (∀ j, j < k + 1 → paF (l.getD j Pa.none) = true) := HY.out hf
        rw [hf] at hfo
        clear hf HN HY
        go_wp2_with fail
        rw [← hW]
        clear hW
        refine hfo.mono ?_
        rintro e u1 ⟨rfl, rfl⟩
        clear hfo
        go_wp2
        go_roundw
        case rel => exact ⟨k + 1, by omega, by go_num, HOK2.out, hbW⟩
        case measure => simp [intOf]; omega
    · obtain rfl : k = l.length := by omega
      have HF : Hid ((decide (l.length ≤ 6) && l.all paF) = true) := by show _ = _; rw [HL.out]; exact all_yes' HOK.out
      have g1 : ¬ (l.length : Int) < (l.length : Int) := by omega
      clear HOK
      go_wp2
      go_ret
      exact ⟨rt_bool HF.out.symm, hB⟩

theorem flat_take_succ {cs : List (List Pn)} {k : Nat} (hk : k < cs.length) : ((cs.take (k + 1)).flatten).length = ((cs.take k).flatten).length + (cs.getD k []).length := by
  rw [take_snoc (d := []) hk, List.flatten_append, List.length_append, List.flatten_singleton]
theorem flat_take_le (cs : List (List Pn)) (k : Nat) : ((cs.take k).flatten).length ≤ cs.flatten.length := by
  conv => rhs; rw [← List.take_append_drop k cs, List.flatten_append, List.length_append]
  omega
/-- Whether contours are formed. -/
def coF (cs : List (List Pn)) : Bool := decide (cs.length ≤ 10) && (cs.all (fun c => decide (0 < c.length)) && (decide (cs.flatten.length ≤ 80) && cs.flatten.all pnF))
theorem coF_no {cs : List (List Pn)} (h : ¬ (cs.length ≤ 10 ∧ (∀ c ∈ cs, 0 < c.length) ∧ cs.flatten.length ≤ 80 ∧ ∀ c ∈ cs, c.all pnF = true)) : coF cs = false := by
  rw [Bool.eq_false_iff]
  intro e
  unfold coF at e
  simp only [Bool.and_eq_true, decide_eq_true_iff, List.all_eq_true] at e
  refine h ⟨e.1, e.2.1, e.2.2.1, fun c hc => List.all_eq_true.2 fun p hp => e.2.2.2 p (List.mem_flatten.2 ⟨c, hc, hp⟩)⟩
theorem coF_yes {cs : List (List Pn)} (h1 : cs.length ≤ 10) (h2 : ∀ j, j < cs.length → 0 < (cs.getD j []).length ∧ (cs.getD j []).all pnF = true) (h3 : cs.flatten.length ≤ 80) : coF cs = true := by
  unfold coF
  simp only [Bool.and_eq_true, decide_eq_true_iff, List.all_eq_true]
  refine ⟨h1, fun c hc => (of_get (p := fun c => 0 < c.length ∧ c.all pnF = true) h2 c hc).1, h3, fun p hp => ?_⟩
  obtain ⟨c, hc, hpc⟩ := List.mem_flatten.1 hp
  exact List.all_eq_true.1 (of_get (p := fun c => 0 < c.length ∧ c.all pnF = true) h2 c hc).2 p hpc

set_option maxHeartbeats 4000000 in
set_option maxRecDepth 100000 in
theorem ccontF_any (S : Nat → Prop) (a : Option Addr) (cap : Nat) (cs : List (List Pn)) (w : World) (h : Gr PnE.row S w a cap cs) :
    Calls Try.prog 41 #[.slice a cs.length cap] w fun e w' => e = .returned (.bool (coF cs)) ∧ Below w.heap.size w w' := by
  have k2 := h.lenB
  have HH : Hid (Gr PnE.row S w a cap cs) := h
  have HNO : Hid (¬ (cs.length ≤ 10 ∧ (∀ c ∈ cs, 0 < c.length) ∧ cs.flatten.length ≤ 80 ∧ ∀ c ∈ cs, c.all pnF = true) → coF cs = false) := coF_no
  clear h
  by_cases h10 : 10 < cs.length
  · have HF : Hid (coF cs = false) := HNO.out (fun h => by omega)
    have g1 : (10 : Int) < (cs.length : Int) := by omega
    go_enter Try.func41, Try.ntmps41
    go_wp2
    go_ret
    exact ⟨rt_bool HF.out.symm, Below.refl _ _⟩
  have g1 : ¬ (10 : Int) < (cs.length : Int) := by omega
  go_enter Try.func41, Try.ntmps41
  go_wp2
  go_loopw [3, 13] (fun n i wr => ∃ k m : Nat, k ≤ cs.length ∧ i = .int .i64 k ∧ n = .int .i64 (m : Int) ∧ m = ((cs.take k).flatten).length ∧ m ≤ 80 ∧ (∀ j, j < k → 0 < (cs.getD j []).length ∧ (cs.getD j []).all pnF = true) ∧ Below w.heap.size w wr) (fun _ i _ => cs.length - (intOf i).toNat)
  case atStart => exact ⟨0, 0, Nat.zero_le _, rfl, rfl, rfl, by omega, (fun j hj => by omega), Below.refl _ _⟩
  case round =>
    obtain ⟨k, m, hk, rfl, rfl, hm, hm80, hok, hB⟩ := hrel
    have HOK : Hid (∀ j, j < k → 0 < (cs.getD j []).length ∧ (cs.getD j []).all pnF = true) := hok
    have HM : Hid (m = ((cs.take k).flatten).length) := hm
    clear hok hm
    by_cases hkn : k < cs.length
    · obtain ⟨b, off, a1, c1, ea, hb, d0, hrow, hlb, _⟩ := HH.out.rw hB k hkn
      subst ea
      have hmem := getL_mem' hkn
      have hst := flat_take_succ hkn
      have hle := flat_take_le cs (k + 1)
      rw [← HM.out] at hst
      have HX : Hid (∀ c, cs.getD k [] = c → 0 < c.length → c.all pnF = true → ∀ j, j < k + 1 → 0 < (cs.getD j []).length ∧ (cs.getD j []).all pnF = true) := fun c hc h1 h2 => upto_succ HOK.out (by rw [hc]; exact ⟨h1, h2⟩)
      obtain ⟨c, hc⟩ : ∃ c, cs.getD k [] = c := ⟨_, rfl⟩
      replace HX := HX.out c hc
      rw [hc] at d0 hrow hlb hmem hst
      have HM2 : Hid (m + c.length = ((cs.take (k + 1)).flatten).length) := hst.symm
      have HLE : Hid (m + c.length ≤ cs.flatten.length) := by show _ ≤ _; omega
      have HN : Hid (¬ (0 < c.length ∧ m + c.length ≤ 80 ∧ c.all pnF = true) → coF cs = false) := fun hn => HNO.out (fun hy => hn ⟨hy.2.1 c hmem, by have := HLE.out; omega, hy.2.2.2 c hmem⟩)
      have HX : Hid (0 < c.length → c.all pnF = true → ∀ j, j < k + 1 → 0 < (cs.getD j []).length ∧ (cs.getD j []).all pnF = true) := HX
      have i1 : (0 : Int) ≤ (k : Int) := by omega
      have i2 : (k : Int) < (cs.length : Int) := by omega
      clear hc hmem hst hle HOK HM HLE
      by_cases h0 : c.length = 0
      · have HF : Hid (coF cs = false) := HN.out (fun h => by omega)
        have g2 : ((c.length : Int) == 0) = true := by simp [h0]
        clear HN HX HM2 hrow h0
        go_wp2
        go_ret
        exact ⟨rt_bool HF.out.symm, hB⟩
      have g2 : ((c.length : Int) == 0) = false := by simp; intro e; rw [e] at h0; exact h0 rfl
      by_cases h80 : 80 < m + c.length
      · have HF : Hid (coF cs = false) := HN.out (fun h => by omega)
        have g3 : decide ((80 : Int) < (m : Int) + (c.length : Int)) = true := decide_eq_true (by omega)
        clear HN HX HM2 hrow h0
        go_wp2
        go_ret
        exact ⟨rt_bool HF.out.symm, hB⟩
      have g3 : decide ((80 : Int) < (m : Int) + (c.length : Int)) = false := decide_eq_false (by omega)
      have HP : Hid (0 < c.length) := by show _ < _; omega
      have hcl : c.length ≤ 80 := by omega
      have HRW : Hid (Gr PnE S wr a1 c1 c) := hrow
      have HBW : Hid (Below w.heap.size w wr) := hB
      clear hrow h0
      go_wp2
      obtain ⟨wo, rfl⟩ : ∃ wo, wo = wr := ⟨_, rfl⟩
      clear d0 hB
      go_loopw [30] (fun i wr => ∃ t : Nat, t ≤ c.length ∧ i = .int .i64 t ∧ (∀ j, j < t → pnF (c.getD j Pn.none) = true) ∧ Below wo.heap.size wo wr) (fun i _ => c.length - (intOf i).toNat)
      case atStart => exact ⟨0, Nat.zero_le _, rfl, (fun j hj => by omega), Below.refl _ _⟩
      case round =>
        obtain ⟨t, ht, rfl, hok, hB⟩ := hrel
        have HOK : Hid (∀ j, j < t → pnF (c.getD j Pn.none) = true) := hok
        have hBW := HBW.out.trans (hB.mono HBW.out.size)
        clear hok
        by_cases htn : t < c.length
        · obtain ⟨b2, o2, eb, hb2, ⟨w0, w1⟩, q0, q1, q2⟩ := HRW.out.pn hB t htn
          subst eb
          have HN2 : Hid (pnF (c.getD t Pn.none) = false → coF cs = false) := fun hf => HN.out (fun h => by have := all_no' htn hf; rw [h.2.2] at this; cases this)
          have HY2 : Hid (pnF (c.getD t Pn.none) = true → ∀ j, j < t + 1 → pnF (c.getD j Pn.none) = true) := fun hf => upto_succ HOK.out hf
          generalize c.getD t Pn.none = p at *
          obtain ⟨x, y, on⟩ := p
          dsimp only at w0 w1 q0 q1 q2
          have hpf : pnF ⟨x, y, on⟩ = (fdB x && fdB y) := rfl
          rw [hpf] at HN2 HY2
          have j1 : (0 : Int) ≤ (t : Int) := by omega
          have j2 : (t : Int) < (c.length : Int) := by omega
          obtain ⟨W, hW⟩ : ∃ W, W = (wr.alloc (.cells #[.int .i64 x, .int .i64 y, .bool on] 43)).alloc (.cells #[.int .i64 x, .int .i64 y] 3) := ⟨_, rfl⟩
          have hri := ri_two (wr.alloc (.cells #[.int .i64 x, .int .i64 y, .bool on] 43)) x y w0 w1
          have hsz : (wr.alloc (.cells #[.int .i64 x, .int .i64 y, .bool on] 43)).heap.size = wr.heap.size + 1 := by simp
          rw [← hW, hsz] at hri
          have hbX : Below w.heap.size w W := by rw [hW]; exact (hBW.alloc hBW.size _).alloc (by simp; have := hBW.size; omega) _
          have hbY : Below wo.heap.size wo W := by rw [hW]; exact (hB.alloc hB.size _).alloc (by simp; have := hB.size; omega) _
          have hfo := cfields_any _ _ _ _ hri
          rw [two_all] at hfo
          simp only [List.length_cons, List.length_nil, Nat.zero_add] at hfo
          clear hpf hri hsz HOK
          cases hf : (fdB x && fdB y) with
          | false =>
            have HF : Hid (coF cs = false) := HN2.out hf
            rw [hf] at hfo
            clear hf HN2 HY2
            go_wp2_with fail
            rw [← hW]
            clear hW
            refine hfo.mono ?_
            rintro e u1 ⟨rfl, rfl⟩
            clear hfo
            go_wp2
            go_ret
            exact ⟨rt_bool HF.out.symm, hbX⟩
          | true =>
            have HOK2 : Hid (∀ j, j < t + 1 → pnF (c.getD j Pn.none) = true) := HY2.out hf
            rw [hf] at hfo
            clear hf HN2 HY2
            go_wp2_with fail
            rw [← hW]
            clear hW
            refine hfo.mono ?_
            rintro e u1 ⟨rfl, rfl⟩
            clear hfo
            go_wp2
            go_roundw
            case rel => exact ⟨t + 1, by omega, by go_num, HOK2.out, hbY⟩
            case measure => simp [intOf]; omega
        · obtain rfl : t = c.length := by omega
          have HOK3 : Hid (∀ j, j < k + 1 → 0 < (cs.getD j []).length ∧ (cs.getD j []).all pnF = true) := HX.out HP.out (all_yes' HOK.out)
          have j2 : ¬ (c.length : Int) < (c.length : Int) := by omega
          clear HOK HX
          go_wp2
          go_roundw
          case rel => exact ⟨k + 1, m + c.length, by omega, by go_num, by go_num, HM2.out, by omega, HOK3.out, hBW⟩
          case measure => simp [intOf]; omega
    · obtain rfl : k = cs.length := by omega
      have HF : Hid (coF cs = true) := coF_yes (by omega) HOK.out (by have := HM.out; rw [List.take_length] at this; omega)
      have g4 : ¬ (cs.length : Int) < (cs.length : Int) := by omega
      clear HOK HM
      go_wp2
      go_ret
      exact ⟨rt_bool HF.out.symm, hB⟩

end Go.Proofs.Ytokcdkckomoajaa

namespace Go.Proofs.Ytokcdkckomoajaa

/-- The value of a list of limbs, the least significant first. -/
def V : List Nat → Nat
  | [] => 0
  | x :: xs => x + 4294967296 * V xs

/-- Every limb has 32 bits. -/
def Lim (xs : List Nat) : Prop := ∀ x ∈ xs, x < 4294967296

/-- The list without the zeros at its end. -/
def strip : List Nat → List Nat
  | [] => []
  | x :: xs => if strip xs = [] then (if x = 0 then [] else [x]) else x :: strip xs

/-- No zero stands at the list's end. -/
def Tr (xs : List Nat) : Prop := strip xs = xs

theorem V_append (xs ys : List Nat) : V (xs ++ ys) = V xs + 4294967296 ^ xs.length * V ys := by
  induction xs with
  | nil => simp [V]
  | cons x xs ih => simp only [List.cons_append, V, ih, List.length_cons, Nat.pow_succ, Nat.mul_add]; rw [Nat.mul_comm (4294967296 ^ xs.length) 4294967296, Nat.mul_assoc]; omega

theorem Lim.cons {x : Nat} {xs : List Nat} (h : Lim (x :: xs)) : x < 4294967296 ∧ Lim xs := ⟨h x (by simp), fun y hy => h y (by simp [hy])⟩
theorem Lim.mk {x : Nat} {xs : List Nat} (hx : x < 4294967296) (h : Lim xs) : Lim (x :: xs) := by
  intro y hy; rcases List.mem_cons.1 hy with rfl | hy
  · exact hx
  · exact h y hy
theorem Lim.nil : Lim [] := by intro x hx; cases hx
theorem Lim.append {xs ys : List Nat} (h : Lim xs) (k : Lim ys) : Lim (xs ++ ys) := by
  intro x hx; rcases List.mem_append.1 hx with hx | hx
  · exact h x hx
  · exact k x hx
theorem Lim.snoc {xs : List Nat} {x : Nat} (h : Lim xs) (hx : x < 4294967296) : Lim (xs ++ [x]) := h.append (Lim.mk hx Lim.nil)

theorem Lim.take {xs : List Nat} (h : Lim xs) (n : Nat) : Lim (xs.take n) := fun x hx => h x (List.mem_of_mem_take hx)
theorem Lim.drop {xs : List Nat} (h : Lim xs) (n : Nat) : Lim (xs.drop n) := fun x hx => h x (List.mem_of_mem_drop hx)
theorem Lim.getD {xs : List Nat} (h : Lim xs) (i : Nat) : xs.getD i 0 < 4294967296 := by
  rw [List.getD_eq_getElem?_getD]
  by_cases hi : i < xs.length
  · rw [List.getElem?_eq_getElem hi]; exact h _ (List.getElem_mem hi)
  · rw [List.getElem?_eq_none (by omega)]; decide
theorem Lim.set {xs : List Nat} (h : Lim xs) (i : Nat) {x : Nat} (hx : x < 4294967296) : Lim (xs.set i x) := by
  intro y hy; rcases List.mem_or_eq_of_mem_set hy with hy | rfl
  · exact h y hy
  · exact hx

theorem V_lt {xs : List Nat} (h : Lim xs) : V xs < 4294967296 ^ xs.length := by
  induction xs with
  | nil => simp [V]
  | cons x xs ih =>
    have := ih h.cons.2; have hx := h.cons.1
    simp only [V, List.length_cons, Nat.pow_succ]; omega

theorem V_nil : V [] = 0 := rfl
theorem V_zeros (n : Nat) : V (List.replicate n 0) = 0 := by
  induction n with
  | zero => rfl
  | succ n ih => rw [List.replicate_succ, V, ih]

theorem getD_take_succ (xs : List Nat) (i : Nat) : xs.take (i + 1) = xs.take i ++ (if i < xs.length then [xs.getD i 0] else []) := by
  by_cases h : i < xs.length
  · rw [if_pos h, List.take_succ_eq_append_getElem h]; simp [List.getD, h]
  · rw [if_neg h, List.take_of_length_le (by omega), List.take_of_length_le (by omega)]; simp

theorem V_take_succ (xs : List Nat) (i : Nat) : V (xs.take (i + 1)) = V (xs.take i) + 4294967296 ^ i * xs.getD i 0 := by
  rw [getD_take_succ, V_append]
  by_cases h : i < xs.length
  · rw [if_pos h, List.length_take, Nat.min_eq_left (by omega)]; simp [V]
  · rw [if_neg h]; simp [V, List.getD, List.getElem?_eq_none (Nat.le_of_not_lt h)]

theorem V_take_drop (xs : List Nat) (i : Nat) : V xs = V (xs.take i) + 4294967296 ^ i * V (xs.drop i) := by
  by_cases h : i ≤ xs.length
  · have := V_append (xs.take i) (xs.drop i)
    rw [List.take_append_drop, List.length_take, Nat.min_eq_left h] at this; exact this
  · rw [List.take_of_length_le (by omega), List.drop_eq_nil_of_le (by omega)]; simp [V]

theorem V_snoc (xs : List Nat) (x : Nat) : V (xs ++ [x]) = V xs + 4294967296 ^ xs.length * x := by rw [V_append]; simp [V]

/-- Two lists that read alike have one value. -/
theorem V_congr : ∀ (a b : List Nat), (∀ j, a.getD j 0 = b.getD j 0) → V a = V b := by
  intro a; induction a with
  | nil =>
    intro b; induction b with
    | nil => intro _; rfl
    | cons y b ih =>
      intro h
      have h0 := h 0; have h1 := ih (fun j => by have := h (j + 1); simpa using this)
      simp at h0; simp only [V] at h1 ⊢; omega
  | cons x a ih =>
    intro b h
    cases b with
    | nil =>
      have h0 := h 0; have h1 := ih [] (fun j => by have := h (j + 1); simpa using this)
      simp at h0; simp only [V] at h1 ⊢; omega
    | cons y b =>
      have h0 := h 0; have h1 := ih b (fun j => by have := h (j + 1); simpa using this)
      simp at h0; rw [V, V, h1, h0]

theorem getD_tail (a : List Nat) (j : Nat) : a.tail.getD j 0 = a.getD (j + 1) 0 := by cases a <;> simp
theorem V_head_tail (a : List Nat) : V a = a.getD 0 0 + 4294967296 * V a.tail := by cases a <;> simp [V]
theorem Lim.tail {a : List Nat} (h : Lim a) : Lim a.tail := by
  cases a with
  | nil => exact h
  | cons x a => exact h.cons.2

/-- Where the limbs above place i are alike and the one there is less, so is the value. -/
theorem V_lt_top : ∀ (i : Nat) (a b : List Nat), Lim a → (∀ j, i < j → a.getD j 0 = b.getD j 0) → a.getD i 0 < b.getD i 0 → V a < V b := by
  intro i; induction i with
  | zero =>
    intro a b _ h h0
    rw [V_head_tail a, V_head_tail b, V_congr a.tail b.tail (fun j => by rw [getD_tail, getD_tail]; exact h (j + 1) (by omega))]; omega
  | succ i ih =>
    intro a b hl h h0
    have := ih a.tail b.tail hl.tail (fun j hj => by rw [getD_tail, getD_tail]; exact h (j + 1) (by omega)) (by rw [getD_tail, getD_tail]; exact h0)
    have hx := hl.getD 0
    rw [V_head_tail a, V_head_tail b]; omega

theorem strip_nil : strip [] = [] := rfl
theorem V_strip (xs : List Nat) : V (strip xs) = V xs := by
  induction xs with
  | nil => rfl
  | cons x xs ih =>
    rw [strip]
    by_cases h : strip xs = []
    · rw [if_pos h]; rw [h] at ih
      by_cases hx : x = 0
      · rw [if_pos hx]; simp only [V] at ih ⊢; omega
      · rw [if_neg hx]; simp only [V] at ih ⊢; omega
    · rw [if_neg h]; simp only [V]; rw [ih]
theorem strip_strip (xs : List Nat) : strip (strip xs) = strip xs := by
  induction xs with
  | nil => rfl
  | cons x xs ih =>
    rw [strip]
    by_cases h : strip xs = []
    · rw [if_pos h]
      by_cases hx : x = 0
      · rw [if_pos hx]; rfl
      · rw [if_neg hx]; simp [strip, hx]
    · rw [if_neg h, strip, ih, if_neg h]
theorem tr_strip (xs : List Nat) : Tr (strip xs) := strip_strip xs
theorem tr_nil : Tr [] := rfl
theorem strip_snoc_zero (xs : List Nat) : strip (xs ++ [0]) = strip xs := by
  induction xs with
  | nil => rfl
  | cons x xs ih => rw [List.cons_append, strip, ih, strip]
theorem strip_snoc (xs : List Nat) (x : Nat) (hx : x ≠ 0) : strip (xs ++ [x]) = xs ++ [x] := by
  induction xs with
  | nil => simp [strip, hx]
  | cons y xs ih => rw [List.cons_append, strip, ih, if_neg (by simp)]
theorem tr_snoc {xs : List Nat} {x : Nat} (hx : x ≠ 0) : Tr (xs ++ [x]) := strip_snoc xs x hx
theorem strip_take (xs : List Nat) : strip xs = xs.take (strip xs).length := by
  induction xs with
  | nil => rfl
  | cons x xs ih =>
    rw [strip]
    by_cases h : strip xs = []
    · rw [if_pos h]
      by_cases hx : x = 0
      · rw [if_pos hx]; simp
      · rw [if_neg hx]; simp
    · rw [if_neg h]; simp only [List.length_cons, List.take_succ_cons]; rw [← ih]
theorem strip_length_le (xs : List Nat) : (strip xs).length ≤ xs.length := by rw [strip_take]; simp; omega
theorem Lim.strip {xs : List Nat} (h : Lim xs) : Lim (strip xs) := by rw [strip_take]; exact h.take _

/-- What is stripped of a head: the zeros behind it do not count. -/
theorem strip_take_zero (xs : List Nat) (n : Nat) (h : n < xs.length) (h0 : xs.getD n 0 = 0) : strip (xs.take (n + 1)) = strip (xs.take n) := by
  rw [getD_take_succ, if_pos h, h0, strip_snoc_zero]
theorem strip_take_some (xs : List Nat) (n : Nat) (h : n < xs.length) (h0 : xs.getD n 0 ≠ 0) : strip (xs.take (n + 1)) = xs.take (n + 1) := by
  rw [getD_take_succ, if_pos h, strip_snoc _ _ h0]

/-- The last limb of a trimmed list isn't 0. -/
theorem Tr.last {xs : List Nat} (h : Tr xs) (hn : xs ≠ []) : xs.getD (xs.length - 1) 0 ≠ 0 := by
  intro h0
  have hl : 0 < xs.length := List.length_pos_iff.2 hn
  have e := strip_take_zero xs (xs.length - 1) (by omega) h0
  rw [show xs.length - 1 + 1 = xs.length by omega, List.take_length] at e
  have e2 : strip xs = xs := h
  have := strip_length_le (xs.take (xs.length - 1))
  rw [← e, e2] at this
  simp at this; omega

theorem V_ge {xs : List Nat} (h : Tr xs) (hn : xs ≠ []) : 4294967296 ^ (xs.length - 1) ≤ V xs := by
  have hl : 0 < xs.length := List.length_pos_iff.2 hn
  have e := V_take_succ xs (xs.length - 1)
  rw [show xs.length - 1 + 1 = xs.length by omega, List.take_length] at e
  have h1 := h.last hn
  rw [e]
  calc 4294967296 ^ (xs.length - 1) = 4294967296 ^ (xs.length - 1) * 1 := by omega
    _ ≤ 4294967296 ^ (xs.length - 1) * xs.getD (xs.length - 1) 0 := Nat.mul_le_mul_left _ (by omega)
    _ ≤ _ := by omega

theorem len_le_of_V {xs : List Nat} (h : Tr xs) {k : Nat} (hv : V xs < 4294967296 ^ k) : xs.length ≤ k := by
  rcases Decidable.em (xs = []) with rfl | hn
  · simp
  · have h1 := V_ge h hn
    rcases Nat.lt_or_ge k xs.length with hk | hk
    · have : 4294967296 ^ k ≤ 4294967296 ^ (xs.length - 1) := Nat.pow_le_pow_right (by decide) (by omega)
      omega
    · exact hk

theorem V_lt_of_length {a b : List Nat} (ha : Lim a) (hb : Tr b) (h : a.length < b.length) : V a < V b := by
  have h1 := V_lt ha
  have h2 := V_ge hb (by intro e; rw [e] at h; simp at h)
  have : 4294967296 ^ a.length ≤ 4294967296 ^ (b.length - 1) := Nat.pow_le_pow_right (by decide) (by omega)
  omega

theorem eq_nil_of_V {xs : List Nat} (h : Tr xs) (hv : V xs = 0) : xs = [] := by
  rcases Decidable.em (xs = []) with rfl | hn
  · rfl
  · have h1 := V_ge h hn
    have : 0 < 4294967296 ^ (xs.length - 1) := Nat.pow_pos (by decide)
    omega

theorem V_eq_lists : ∀ (n : Nat) (a b : List Nat), a.length = n → b.length = n → Lim a → Lim b → V a = V b → a = b := by
  intro n; induction n with
  | zero => intro a b ha hb _ _ _; rw [List.length_eq_zero_iff.1 ha, List.length_eq_zero_iff.1 hb]
  | succ n ih =>
    intro a b ha hb la lb h
    match a, b, ha, hb with
    | x :: a, y :: b, ha, hb =>
      have := la.cons.1; have := lb.cons.1
      simp only [V] at h
      have e1 : x = y := by omega
      have e2 : V a = V b := by omega
      rw [e1, ih a b (by simpa using ha) (by simpa using hb) la.cons.2 lb.cons.2 e2]

/-- A trimmed list is told by its value. -/
theorem uniq {a b : List Nat} (la : Lim a) (lb : Lim b) (ta : Tr a) (tb : Tr b) (h : V a = V b) : a = b := by
  have h1 : ¬ a.length < b.length := fun hl => by have := V_lt_of_length la tb hl; omega
  have h2 : ¬ b.length < a.length := fun hl => by have := V_lt_of_length lb ta hl; omega
  exact V_eq_lists b.length a b (by omega) rfl la lb h

end Go.Proofs.Ytokcdkckomoajaa
