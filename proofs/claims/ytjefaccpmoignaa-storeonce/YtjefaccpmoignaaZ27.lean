/-
  Rows of int16 that are read.
  What a law is told of regions, rows, stores, slots and a pair of rows of int16 that came in.
-/
import Derived.Test.YtjefaccpmoignaaZ9
import Derived.Test.YtjefaccpmoignaaZ10
import Derived.Test.YtjefaccpmoignaaZ26
import Derived.OpenShut
namespace Go.Proofs.Ytjefaccpmoignaa
open Go.RowKit Go.Maps
set_option linter.unusedSimpArgs false
set_option linter.unusedVariables false

def Rh (w : World) (a : Option Addr) (cap : Nat) (zs : List Int) : Prop :=
  (∀ z ∈ zs, -32768 ≤ z ∧ z ≤ 32767) ∧ zs.length ≤ cap ∧ cap ≤ maxLen ∧
  (zs = [] ∨ ∃ b off, a = some ⟨b, off, none⟩ ∧ b < w.heap.size ∧ ∀ i, i < zs.length → w.cell? ⟨b, off + i, none⟩ = some (.int .i16 (zs.getD i 0)))
theorem Rh.at {w wr : World} {a : Option Addr} {cap : Nat} {zs : List Int} (h : Rh w a cap zs) (hb : Below w.heap.size w wr) (k : Nat) (hk : k < zs.length) :
    ∃ b off, a = some ⟨b, off, none⟩ ∧ b < w.heap.size ∧ wr.cell? ⟨b, off + k, none⟩ = some (.int .i16 (zs.getD k 0)) := by
  rcases h.2.2.2 with rfl | ⟨b, off, h1, h2, h3⟩
  · simp at hk
  · exact ⟨b, off, h1, h2, (hb.cell (p := ⟨b, off + k, none⟩) h2).trans (h3 k hk)⟩
theorem Rh.below {w w' : World} {a : Option Addr} {cap : Nat} {zs : List Int} (h : Rh w a cap zs) (hb : Below w.heap.size w w') : Rh w' a cap zs := by
  obtain ⟨h1, h2, h3, h4⟩ := h
  refine ⟨h1, h2, h3, ?_⟩
  rcases h4 with h4 | ⟨b, off, e, h5, h6⟩
  · exact .inl h4
  · exact .inr ⟨b, off, e, Nat.lt_of_lt_of_le h5 hb.size, fun i hi => (hb.cell (p := ⟨b, off + i, none⟩) h5).trans (h6 i hi)⟩
theorem Rh.in {w : World} {a : Option Addr} {cap : Nat} {zs : List Int} (h : Rh w a cap zs) {k : Nat} (hk : k < zs.length) : -32768 ≤ zs.getD k 0 ∧ zs.getD k 0 ≤ 32767 := by
  refine h.1 _ ?_
  rw [List.getD_eq_getElem?_getD, List.getElem?_eq_getElem hk]
  exact List.getElem_mem hk
theorem Rh.lenB {w : World} {a : Option Addr} {cap : Nat} {zs : List Int} (h : Rh w a cap zs) : zs.length ≤ 9223372036854775807 := by
  have h1 := h.2.1
  have h2 := h.2.2.1
  unfold maxLen at h2
  omega

end Go.Proofs.Ytjefaccpmoignaa

namespace Go.Proofs.Ytjefaccpmoignaa
open Go.RowKit
open Go.ChangeShapes Go.WideShapes Go.Joins Go.Deep
set_option linter.unusedSimpArgs false
set_option linter.unusedVariables false

theorem cellsTs1 : Try.prog.cellsOf 42 = 1 := by kernel_rfl
theorem cellsIs1 : Try.prog.cellsOf 54 = 1 := by kernel_rfl
theorem cellsSt2 : Try.prog.cellsOf 25 = 2 := by kernel_rfl
theorem cellsSl2 : Try.prog.cellsOf 39 = 2 := by kernel_rfl

set_option maxRecDepth 100000 in
theorem open_tes1 {H : Type} {enc : TypeId × Value → H} {W : World} {held : Bool} {fuel : Nat} {v : Value} {x : DataW H × List MemPlace} (hf : DataW.trod enc Try.prog W 0 (fun _ => true) held fuel 42 [v] = some x) :
    ∃ a cap, ∃ l : List Te, v = .slice a l.length cap ∧ Tz W a cap l := by
  obtain ⟨a, len, cap, e⟩ := slice_form Try.underlying42 hf
  simp only [List.cons.injEq, and_true] at e
  subst e
  obtain ⟨l, rfl, hl⟩ := open_tents (p := x.2) (d := x.1) (a := a) (len := len) (cap := cap) ⟨fuel, by simpa [Value.cells] using hf⟩
  exact ⟨a, cap, l, rfl, hl⟩
set_option maxRecDepth 100000 in
theorem open_is1 {H : Type} {enc : TypeId × Value → H} {W : World} {held : Bool} {fuel : Nat} {v : Value} {x : DataW H × List MemPlace} (hf : DataW.trod enc Try.prog W 0 (fun _ => true) held fuel 54 [v] = some x) :
    ∃ a cap, ∃ l : List Int, v = .slice a l.length cap ∧ Ri W a cap l := by
  obtain ⟨a, len, cap, e⟩ := slice_form Try.underlying54 hf
  simp only [List.cons.injEq, and_true] at e
  subst e
  obtain ⟨z, w⟩ : ∃ zs, IsRowK .i64 W a len cap zs := by
    rcases open_ints Try.underlying54 Try.underlying3 (by kernel_rfl) hf with ⟨hcs, _⟩ | ⟨x, l, c, zs, hcs, _, hl, hm, hz, _, hcell, hwz⟩
    · simp at hcs
      obtain ⟨rfl, rfl, rfl⟩ := hcs
      exact ⟨[], .inl ⟨rfl, rfl, rfl, rfl⟩⟩
    · simp at hcs
      obtain ⟨rfl, rfl, rfl⟩ := hcs
      exact ⟨zs, .inr ⟨_, rfl, hl, hm, by simpa using hz, hcell, hwz⟩⟩
  obtain ⟨l, rfl, hl⟩ := w.ri
  exact ⟨a, cap, l, rfl, hl⟩
set_option maxRecDepth 100000 in
theorem open_hs1 {H : Type} {enc : TypeId × Value → H} {W : World} {held : Bool} {fuel : Nat} {v : Value} {x : DataW H × List MemPlace} (hf : DataW.trod enc Try.prog W 0 (fun _ => true) held fuel 52 [v] = some x) :
    ∃ a cap, ∃ l : List Int, v = .slice a l.length cap ∧ Rh W a cap l := by
  obtain ⟨a, len, cap, e⟩ := slice_form Try.underlying52 hf
  simp only [List.cons.injEq, and_true] at e
  subst e
  obtain ⟨z, w⟩ : ∃ zs, IsRowK .i16 W a len cap zs := by
    rcases open_ints Try.underlying52 Try.underlying55 (by kernel_rfl) hf with ⟨hcs, _⟩ | ⟨x, l, c, zs, hcs, _, hl, hm, hz, _, hcell, hwz⟩
    · simp at hcs
      obtain ⟨rfl, rfl, rfl⟩ := hcs
      exact ⟨[], .inl ⟨rfl, rfl, rfl, rfl⟩⟩
    · simp at hcs
      obtain ⟨rfl, rfl, rfl⟩ := hcs
      exact ⟨zs, .inr ⟨_, rfl, hl, hm, by simpa using hz, hcell, hwz⟩⟩
  obtain ⟨ys, h1, h2, h3, h4, h5, h6⟩ := w.cells
  subst h1
  exact ⟨a, cap, ys, rfl, fun y hy => by have hw := h2 y hy; simp [Lit.wf, IntKind.min, IntKind.max, IntKind.bits, IntKind.signed] at hw; omega, h3, h4, h6⟩
set_option maxRecDepth 100000 in
/-- Two rows of int16, by value. -/
theorem open_two {H : Type} {enc : TypeId × Value → H} {W : World} {held : Bool} {r : Reach} {b0 : Nat} {v : Value} {d : DataW H} {p : List MemPlace}
    (hv : Value.okWide Try.prog W r b0 53 v) (h : DataW.Trod enc Try.prog W 0 (fun _ => true) held 53 v d p) :
    ∃ a ca b cb, ∃ l m : List Int, v = .agg #[.slice a l.length ca, .slice b m.length cb] ∧ Rh W a ca l ∧ Rh W b cb m := by
  have hC : Try.prog.cellsOf 53 = 2 := by kernel_rfl
  have hc : Try.prog.cellsOf 52 = 1 := by kernel_rfl
  simp only [Value.okWide, Try.underlying53] at hv
  obtain ⟨cs, rfl, hsz, _⟩ := hv
  obtain ⟨c0, c1, rfl⟩ := array2 (hsz.trans hC)
  obtain ⟨fuel, hf⟩ := h
  obtain ⟨zs, m, _, _, _, hl, ht⟩ := DataW.trod_array Try.underlying53 hf
  have h0 := ht 0 (by decide)
  have h1 := ht 1 (by decide)
  rw [hc] at h0 h1
  rw [List.getElem?_eq_getElem (by omega)] at h0 h1
  obtain ⟨a, ca, l, rfl, hl0⟩ := open_hs1 (v := c0) (by simpa [Value.cells] using h0)
  obtain ⟨b, cb, m, rfl, hl1⟩ := open_hs1 (v := c1) (by simpa [Value.cells] using h1)
  exact ⟨a, ca, b, cb, l, m, rfl, hl0, hl1⟩

set_option maxRecDepth 100000 in
theorem open_rg1 {H : Type} {enc : TypeId × Value → H} {W : World} {held : Bool} {fuel : Nat} {v : Value} {x : DataW H × List MemPlace} (hf : DataW.trod enc Try.prog W 0 (fun _ => true) held fuel 22 [v] = some x) :
    ∃ a cap, ∃ m : List (List Te), v = .slice a m.length cap ∧ Tzz W a cap m := by
  rcases open_slice Try.underlying22 hf with ⟨hcs, _⟩ | ⟨x, len, cap, m, n, D, Pl, hcs, _, hl, hm, hmm, _, hel⟩
  · simp at hcs
    subst hcs
    exact ⟨none, 0, [], rfl, Tzz.nil _ _ _ (Nat.zero_le _)⟩
  · simp at hcs
    subst hcs
    have hle : len ≤ m := by rw [hmm]; split <;> omega
    have hone : ∀ i, i < len → ∃ o : List Te, ∃ a' cap', W.cell? (x.add i) = some (.slice a' o.length cap') ∧ Tz W a' cap' o := by
      intro i hi
      obtain ⟨cs', hc, ht⟩ := hel i (by omega)
      rw [cellsTs1] at hc
      obtain ⟨hlen, _, hcell⟩ := World.cells?_some hc
      match cs', hlen with
      | [v0], _ =>
        obtain ⟨a', cap', o, e, ho⟩ := open_tes1 ht
        subst e
        have := hcell 0 (by omega)
        rw [add0T, Nat.mul_one] at this
        exact ⟨o, a', cap', by simpa using this, ho⟩
    obtain ⟨os, hol, ho⟩ := list_of_ltT (d := ([] : List Te)) len hone
    refine ⟨some x, cap, os, by rw [hol], by omega, hm, fun i hi => ?_⟩
    obtain ⟨a', cap', c1, hp⟩ := ho i (by omega)
    obtain ⟨b, off, spot⟩ := x
    have hspot : spot = none := by
      obtain ⟨_, _, c0, _⟩ := ho 0 (by omega)
      simpa [Addr.add] using World.cell?_spot c0
    subst hspot
    have hadd : ∀ i, (⟨b, off, none⟩ : Addr).add i = ⟨b, off + i, none⟩ := by intro i; unfold Addr.add; split <;> simp_all
    have hlt := World.block_lt_of_cell? W _ c1
    rw [hadd] at c1 hlt
    exact ⟨b, off, a', cap', rfl, hlt, c1, hp⟩

set_option maxRecDepth 100000 in
theorem open_rw1 {H : Type} {enc : TypeId × Value → H} {W : World} {held : Bool} {fuel : Nat} {v : Value} {x : DataW H × List MemPlace} (hf : DataW.trod enc Try.prog W 0 (fun _ => true) held fuel 23 [v] = some x) :
    ∃ a cap, ∃ m : List (List Int), v = .slice a m.length cap ∧ Rii W a cap m := by
  rcases open_slice Try.underlying23 hf with ⟨hcs, _⟩ | ⟨x, len, cap, m, n, D, Pl, hcs, _, hl, hm, hmm, _, hel⟩
  · simp at hcs
    subst hcs
    exact ⟨none, 0, [], rfl, Rii.nil _ _ _ (Nat.zero_le _)⟩
  · simp at hcs
    subst hcs
    have hle : len ≤ m := by rw [hmm]; split <;> omega
    have hone : ∀ i, i < len → ∃ o : List Int, ∃ a' cap', W.cell? (x.add i) = some (.slice a' o.length cap') ∧ Ri W a' cap' o := by
      intro i hi
      obtain ⟨cs', hc, ht⟩ := hel i (by omega)
      rw [cellsIs1] at hc
      obtain ⟨hlen, _, hcell⟩ := World.cells?_some hc
      match cs', hlen with
      | [v0], _ =>
        obtain ⟨a', cap', o, e, ho⟩ := open_is1 ht
        subst e
        have := hcell 0 (by omega)
        rw [add0T, Nat.mul_one] at this
        exact ⟨o, a', cap', by simpa using this, ho⟩
    obtain ⟨os, hol, ho⟩ := list_of_ltT (d := ([] : List Int)) len hone
    refine ⟨some x, cap, os, by rw [hol], by omega, hm, fun i hi => ?_⟩
    obtain ⟨a', cap', c1, hp⟩ := ho i (by omega)
    obtain ⟨b, off, spot⟩ := x
    have hspot : spot = none := by
      obtain ⟨_, _, c0, _⟩ := ho 0 (by omega)
      simpa [Addr.add] using World.cell?_spot c0
    subst hspot
    have hadd : ∀ i, (⟨b, off, none⟩ : Addr).add i = ⟨b, off + i, none⟩ := by intro i; unfold Addr.add; split <;> simp_all
    have hlt := World.block_lt_of_cell? W _ c1
    rw [hadd] at c1 hlt
    exact ⟨b, off, a', cap', rfl, hlt, c1, hp⟩

set_option maxRecDepth 100000 in
/-- Regions. -/
theorem open_rgs {H : Type} {enc : TypeId × Value → H} {W : World} {held : Bool} {d : DataW H} {p : List MemPlace} {a : Option Addr} {len cap : Nat} (h : DataW.Trod enc Try.prog W 0 (fun _ => true) held 22 (.slice a len cap) d p) :
    ∃ m : List (List Te), len = m.length ∧ Tzz W a cap m := by
  obtain ⟨fuel, hf⟩ := h
  obtain ⟨a', cap', l, e, hl⟩ := open_rg1 (v := .slice a len cap) (by simpa [Value.cells] using hf)
  cases e
  exact ⟨l, rfl, hl⟩
set_option maxRecDepth 100000 in
/-- A store, by value. -/
theorem open_store {H : Type} {enc : TypeId × Value → H} {W : World} {held : Bool} {r : Reach} {b0 : Nat} {v : Value} {d : DataW H} {p : List MemPlace}
    (hv : Value.okWide Try.prog W r b0 25 v) (h : DataW.Trod enc Try.prog W 0 (fun _ => true) held 25 v d p) :
    ∃ a ca b cb, ∃ s : Sr, v = .agg #[.slice a s.rg.length ca, .slice b s.rw.length cb] ∧ Tzz W a ca s.rg ∧ Rii W b cb s.rw := by
  obtain ⟨v0, v1, y0, y1, n, rfl, _, _, t0, t1⟩ := open_agg2 Try.underlying25 (by kernel_rfl) cellsSt2 hv h
  obtain ⟨a, ca, g, rfl, hg⟩ := open_rg1 t0
  obtain ⟨b, cb, m, rfl, hm⟩ := open_rw1 t1
  exact ⟨a, ca, b, cb, ⟨g, m⟩, rfl, hg, hm⟩
set_option maxRecDepth 100000 in
/-- A slot, by value. -/
theorem open_slot {H : Type} {enc : TypeId × Value → H} {W : World} {held : Bool} {r : Reach} {b0 : Nat} {v : Value} {d : DataW H} {p : List MemPlace}
    (hv : Value.okWide Try.prog W r b0 39 v) (h : DataW.Trod enc Try.prog W 0 (fun _ => true) held 39 v d p) :
    ∃ x y, v = .agg #[.int .i64 x, .int .i64 y] ∧ I64 x ∧ I64 y := by
  obtain ⟨v0, v1, y0, y1, n, rfl, _, _, t0, t1⟩ := open_agg2 Try.underlying39 (by kernel_rfl) cellsSl2 hv h
  obtain ⟨z0, e0, _, w0⟩ := DataW.trod_int Try.underlying3 t0
  obtain ⟨z1, e1, _, w1⟩ := DataW.trod_int Try.underlying3 t1
  simp at e0 e1
  subst e0 e1
  exact ⟨z0, z1, rfl, wfo_i64_bounds w0, wfo_i64_bounds w1⟩

end Go.Proofs.Ytjefaccpmoignaa
