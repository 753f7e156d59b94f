/-
  What a law is told of a list of ints that came in.
  What a law is told of a tent, and of a list of tents, that came in.
  Rows of int16 that are read.
  What a law is told of regions, rows, stores, slots and a pair of rows of int16 that came in.
-/
import Derived.Test.YtjefaccpmoignaaGreatZ9
import Derived.Test.YtjefaccpmoignaaGreatZ21
import Derived.Deep.Slices
import Derived.Lib.SmallJoins
import Derived.ChangeSame
import Derived.Deep.Strs
import Derived.Test.YtjefaccpmoignaaGreatZ10
import Derived.OpenShut
namespace Go.Proofs.YtjefaccpmoignaaGreat
open Go.RowKit
open Go.ChangeShapes Go.WideShapes Go.Joins Go.Deep
set_option linter.unusedSimpArgs false
set_option linter.unusedVariables false

theorem IsRowK.ri {w : World} {a : Option Addr} {len cap : Nat} {zs : List Int} (h : IsRowK .i64 w a len cap zs) : ∃ xs : List Int, len = xs.length ∧ Ri w a cap xs := by
  obtain ⟨ys, h1, h2, h3, h4, h5, h6⟩ := h.cells
  exact ⟨ys, h1, fun y hy => wfo_i64_bounds (h2 y hy), h3, h4, h6⟩

end Go.Proofs.YtjefaccpmoignaaGreat

namespace Go.Proofs.YtjefaccpmoignaaGreat
open Go.RowKit
open Go.ChangeShapes Go.WideShapes Go.Joins Go.Deep
set_option linter.unusedSimpArgs false
set_option linter.unusedVariables false

theorem list_of_ltT {α : Type} {d : α} {p : Nat → α → Prop} : ∀ n, (∀ i, i < n → ∃ o, p i o) → ∃ os : List α, os.length = n ∧ ∀ i, i < n → p i (os.getD i d) := by
  intro n
  induction n with
  | zero => exact fun _ => ⟨[], rfl, fun i hi => by omega⟩
  | succ n ih =>
    intro h
    obtain ⟨os, hl, ho⟩ := ih (fun i hi => h i (by omega))
    obtain ⟨o, h1⟩ := h n (by omega)
    refine ⟨os ++ [o], by simp [hl], fun i hi => ?_⟩
    by_cases hi' : i < n
    · have e : (os ++ [o]).getD i d = os.getD i d := by simp [List.getD, List.getElem?_append_left (show i < os.length by omega)]
      rw [e]
      exact ho i hi'
    · have e : i = n := by omega
      subst e
      have e : (os ++ [o]).getD i d = o := by simp [List.getD, ← hl]
      rw [e]
      exact h1
theorem add0T (y : Addr) : y.add 0 = y := by
  obtain ⟨b, off, spot⟩ := y
  cases spot <;> simp [Addr.add]

theorem cellsTe : Tryz.prog.cellsOf 67 = 3 := by kernel_rfl
theorem cellsTi : Tryz.prog.cellsOf 3 = 1 := by kernel_rfl

set_option maxRecDepth 100000 in
/-- A tent by value. -/
theorem open_tent {H : Type} {enc : TypeId × Value → H} {W : World} {sp : Nat → Bool} {held : Bool} {r : Reach} {b0 : Nat} {v : Value} {d : DataW H} {p : List MemPlace}
    (hv : Value.okWide Tryz.prog W r b0 67 v) (h : DataW.Trod enc Tryz.prog W 0 sp held 67 v d p) :
    ∃ t : Te, v = .agg (teC t) ∧ Tw t := by
  obtain ⟨v0, v1, v2, y0, y1, y2, n, rfl, _, _, t0, t1, t2⟩ := open_agg3 Tryz.underlying67 (by kernel_rfl) cellsTe hv h
  obtain ⟨z0, e0, _, w0⟩ := DataW.trod_int Tryz.underlying3 t0
  obtain ⟨z1, e1, _, w1⟩ := DataW.trod_int Tryz.underlying3 t1
  obtain ⟨z2, e2, _, w2⟩ := DataW.trod_int Tryz.underlying3 t2
  simp at e0 e1 e2
  subst e0 e1 e2
  exact ⟨⟨z0, z1, z2⟩, rfl, wfo_i64_bounds w0, wfo_i64_bounds w1, wfo_i64_bounds w2⟩

set_option maxRecDepth 100000 in
/-- A list of tents. -/
theorem open_tents {H : Type} {enc : TypeId × Value → H} {W : World} {sp : Nat → Bool} {held : Bool} {d : DataW H} {p : List MemPlace} {a : Option Addr} {len cap : Nat} (h : DataW.Trod enc Tryz.prog W 0 sp held 51 (.slice a len cap) d p) :
    ∃ l : List Te, len = l.length ∧ Tz W a cap l := by
  obtain ⟨fuel, hf⟩ := h
  rcases open_slice Tryz.underlying51 hf with ⟨hcs, _⟩ | ⟨x, l, c, m, n, D, Pl, hcs, _, hl, hm, hmm, _, hel⟩
  · simp [Value.cells] at hcs
    obtain ⟨rfl, rfl, rfl⟩ := hcs
    exact ⟨[], rfl, Tz.nil _ _ _ (Nat.zero_le _) (fun _ => rfl)⟩
  · simp [Value.cells] at hcs
    obtain ⟨rfl, rfl, rfl⟩ := hcs
    have hle : len ≤ m := by rw [hmm]; split <;> omega
    have hone : ∀ i, i < len → ∃ o : Te, Tw o ∧ W.cell? (x.add (i * 3)) = some (.int .i64 o.st) ∧ W.cell? ((x.add (i * 3)).add 1) = some (.int .i64 o.pk) ∧ W.cell? ((x.add (i * 3)).add 2) = some (.int .i64 o.en) := by
      intro i hi
      obtain ⟨cs', hc, ht⟩ := hel i (by omega)
      rw [cellsTe] at hc
      obtain ⟨y0, y1, y2, n', hx, hlen, t0, t1, t2⟩ := trod_struct3 Tryz.underlying67 ht
      rw [cellsTe] at hlen
      match cs', hlen with
      | [v0, v1, v2], _ =>
        dsimp only at t0 t1 t2
        rw [cellsTi] at t0 t1 t2
        obtain ⟨z0, e0, _, w0⟩ := DataW.trod_int Tryz.underlying3 t0
        obtain ⟨z1, e1, _, w1⟩ := DataW.trod_int Tryz.underlying3 t1
        obtain ⟨z2, e2, _, w2⟩ := DataW.trod_int Tryz.underlying3 t2
        simp at e0 e1 e2
        subst e0 e1 e2
        obtain ⟨_, _, hcell⟩ := World.cells?_some hc
        refine ⟨⟨z0, z1, z2⟩, ⟨wfo_i64_bounds w0, wfo_i64_bounds w1, wfo_i64_bounds w2⟩, ?_, hcell 1 (by omega), hcell 2 (by omega)⟩
        have := hcell 0 (by omega)
        rw [add0T] at this
        exact this
    obtain ⟨os, hol, ho⟩ := list_of_ltT (d := Te.none) len hone
    refine ⟨os, hol.symm, by omega, hm, fun o hm => ?_, (fun e => by cases e), fun i hi => ?_⟩
    · obtain ⟨i, hi, e⟩ := List.getElem_of_mem hm
      have := (ho i (by omega)).1
      rw [List.getD_eq_getElem?_getD, List.getElem?_eq_getElem hi] at this
      rw [← e]
      exact this
    · obtain ⟨_, c1, c2, c3⟩ := ho i (by omega)
      obtain ⟨b, off, spot⟩ := x
      have hspot : spot = none := by
        have := World.cell?_spot (ho 0 (by omega)).2.1
        simpa [Addr.add] using this
      subst hspot
      have hadd : ∀ i, (⟨b, off, none⟩ : Addr).add i = ⟨b, off + i, none⟩ := by intro i; unfold Addr.add; split <;> simp_all
      have hadd2 : ∀ i j, ((⟨b, off, none⟩ : Addr).add i).add j = ⟨b, off + i + j, none⟩ := by intro i j; rw [hadd]; unfold Addr.add; split <;> simp_all
      have hlt := World.block_lt_of_cell? W _ c1
      rw [hadd] at c1 hlt
      rw [hadd2] at c2 c3
      exact ⟨b, off, rfl, hlt, c1, c2, c3⟩

end Go.Proofs.YtjefaccpmoignaaGreat

namespace Go.Proofs.YtjefaccpmoignaaGreat
open Go.RowKit Go.Maps
set_option linter.unusedSimpArgs false
set_option linter.unusedVariables false

def Rh (w : World) (a : Option Addr) (cap : Nat) (zs : List Int) : Prop :=
  (∀ z ∈ zs, -32768 ≤ z ∧ z ≤ 32767) ∧ zs.length ≤ cap ∧ cap ≤ maxLen ∧
  (zs = [] ∨ ∃ b off, a = some ⟨b, off, none⟩ ∧ b < w.heap.size ∧ ∀ i, i < zs.length → w.cell? ⟨b, off + i, none⟩ = some (.int .i16 (zs.getD i 0)))
theorem Rh.at {w wr : World} {a : Option Addr} {cap : Nat} {zs : List Int} (h : Rh w a cap zs) (hb : Below w.heap.size w wr) (k : Nat) (hk : k < zs.length) :
    ∃ b off, a = some ⟨b, off, none⟩ ∧ b < w.heap.size ∧ wr.cell? ⟨b, off + k, none⟩ = some (.int .i16 (zs.getD k 0)) := by
  rcases h.2.2.2 with rfl | ⟨b, off, h1, h2, h3⟩
  · simp at hk
  · exact ⟨b, off, h1, h2, (hb.cell (p := ⟨b, off + k, none⟩) h2).trans (h3 k hk)⟩
theorem Rh.below {w w' : World} {a : Option Addr} {cap : Nat} {zs : List Int} (h : Rh w a cap zs) (hb : Below w.heap.size w w') : Rh w' a cap zs := by
  obtain ⟨h1, h2, h3, h4⟩ := h
  refine ⟨h1, h2, h3, ?_⟩
  rcases h4 with h4 | ⟨b, off, e, h5, h6⟩
  · exact .inl h4
  · exact .inr ⟨b, off, e, Nat.lt_of_lt_of_le h5 hb.size, fun i hi => (hb.cell (p := ⟨b, off + i, none⟩) h5).trans (h6 i hi)⟩
theorem Rh.in {w : World} {a : Option Addr} {cap : Nat} {zs : List Int} (h : Rh w a cap zs) {k : Nat} (hk : k < zs.length) : -32768 ≤ zs.getD k 0 ∧ zs.getD k 0 ≤ 32767 := by
  refine h.1 _ ?_
  rw [List.getD_eq_getElem?_getD, List.getElem?_eq_getElem hk]
  exact List.getElem_mem hk
theorem Rh.lenB {w : World} {a : Option Addr} {cap : Nat} {zs : List Int} (h : Rh w a cap zs) : zs.length ≤ 9223372036854775807 := by
  have h1 := h.2.1
  have h2 := h.2.2.1
  unfold maxLen at h2
  omega

end Go.Proofs.YtjefaccpmoignaaGreat

namespace Go.Proofs.YtjefaccpmoignaaGreat
open Go.RowKit
open Go.ChangeShapes Go.WideShapes Go.Joins Go.Deep
set_option linter.unusedSimpArgs false
set_option linter.unusedVariables false

theorem cellsTs1 : Tryz.prog.cellsOf 51 = 1 := by kernel_rfl
theorem cellsIs1 : Tryz.prog.cellsOf 28 = 1 := by kernel_rfl
theorem cellsSt2 : Tryz.prog.cellsOf 25 = 2 := by kernel_rfl
theorem cellsSl2 : Tryz.prog.cellsOf 27 = 2 := by kernel_rfl

set_option maxRecDepth 100000 in
theorem open_tes1 {H : Type} {enc : TypeId × Value → H} {W : World} {held : Bool} {fuel : Nat} {v : Value} {x : DataW H × List MemPlace} (hf : DataW.trod enc Tryz.prog W 0 (fun _ => true) held fuel 51 [v] = some x) :
    ∃ a cap, ∃ l : List Te, v = .slice a l.length cap ∧ Tz W a cap l := by
  obtain ⟨a, len, cap, e⟩ := slice_form Tryz.underlying51 hf
  simp only [List.cons.injEq, and_true] at e
  subst e
  obtain ⟨l, rfl, hl⟩ := open_tents (p := x.2) (d := x.1) (a := a) (len := len) (cap := cap) ⟨fuel, by simpa [Value.cells] using hf⟩
  exact ⟨a, cap, l, rfl, hl⟩
set_option maxRecDepth 100000 in
theorem open_is1 {H : Type} {enc : TypeId × Value → H} {W : World} {held : Bool} {fuel : Nat} {v : Value} {x : DataW H × List MemPlace} (hf : DataW.trod enc Tryz.prog W 0 (fun _ => true) held fuel 28 [v] = some x) :
    ∃ a cap, ∃ l : List Int, v = .slice a l.length cap ∧ Ri W a cap l := by
  obtain ⟨a, len, cap, e⟩ := slice_form Tryz.underlying28 hf
  simp only [List.cons.injEq, and_true] at e
  subst e
  obtain ⟨z, w⟩ : ∃ zs, IsRowK .i64 W a len cap zs := by
    rcases open_ints Tryz.underlying28 Tryz.underlying3 (by kernel_rfl) hf with ⟨hcs, _⟩ | ⟨x, l, c, zs, hcs, _, hl, hm, hz, _, hcell, hwz⟩
    · simp at hcs
      obtain ⟨rfl, rfl, rfl⟩ := hcs
      exact ⟨[], .inl ⟨rfl, rfl, rfl, rfl⟩⟩
    · simp at hcs
      obtain ⟨rfl, rfl, rfl⟩ := hcs
      exact ⟨zs, .inr ⟨_, rfl, hl, hm, by simpa using hz, hcell, hwz⟩⟩
  obtain ⟨l, rfl, hl⟩ := w.ri
  exact ⟨a, cap, l, rfl, hl⟩
set_option maxRecDepth 100000 in
theorem open_rg1 {H : Type} {enc : TypeId × Value → H} {W : World} {held : Bool} {fuel : Nat} {v : Value} {x : DataW H × List MemPlace} (hf : DataW.trod enc Tryz.prog W 0 (fun _ => true) held fuel 22 [v] = some x) :
    ∃ a cap, ∃ m : List (List Te), v = .slice a m.length cap ∧ Tzz W a cap m := by
  rcases open_slice Tryz.underlying22 hf with ⟨hcs, _⟩ | ⟨x, len, cap, m, n, D, Pl, hcs, _, hl, hm, hmm, _, hel⟩
  · simp at hcs
    subst hcs
    exact ⟨none, 0, [], rfl, Tzz.nil _ _ _ (Nat.zero_le _)⟩
  · simp at hcs
    subst hcs
    have hle : len ≤ m := by rw [hmm]; split <;> omega
    have hone : ∀ i, i < len → ∃ o : List Te, ∃ a' cap', W.cell? (x.add i) = some (.slice a' o.length cap') ∧ Tz W a' cap' o := by
      intro i hi
      obtain ⟨cs', hc, ht⟩ := hel i (by omega)
      rw [cellsTs1] at hc
      obtain ⟨hlen, _, hcell⟩ := World.cells?_some hc
      match cs', hlen with
      | [v0], _ =>
        obtain ⟨a', cap', o, e, ho⟩ := open_tes1 ht
        subst e
        have := hcell 0 (by omega)
        rw [add0T, Nat.mul_one] at this
        exact ⟨o, a', cap', by simpa using this, ho⟩
    obtain ⟨os, hol, ho⟩ := list_of_ltT (d := ([] : List Te)) len hone
    refine ⟨some x, cap, os, by rw [hol], by omega, hm, fun i hi => ?_⟩
    obtain ⟨a', cap', c1, hp⟩ := ho i (by omega)
    obtain ⟨b, off, spot⟩ := x
    have hspot : spot = none := by
      obtain ⟨_, _, c0, _⟩ := ho 0 (by omega)
      simpa [Addr.add] using World.cell?_spot c0
    subst hspot
    have hadd : ∀ i, (⟨b, off, none⟩ : Addr).add i = ⟨b, off + i, none⟩ := by intro i; unfold Addr.add; split <;> simp_all
    have hlt := World.block_lt_of_cell? W _ c1
    rw [hadd] at c1 hlt
    exact ⟨b, off, a', cap', rfl, hlt, c1, hp⟩

set_option maxRecDepth 100000 in
theorem open_rw1 {H : Type} {enc : TypeId × Value → H} {W : World} {held : Bool} {fuel : Nat} {v : Value} {x : DataW H × List MemPlace} (hf : DataW.trod enc Tryz.prog W 0 (fun _ => true) held fuel 23 [v] = some x) :
    ∃ a cap, ∃ m : List (List Int), v = .slice a m.length cap ∧ Rii W a cap m := by
  rcases open_slice Tryz.underlying23 hf with ⟨hcs, _⟩ | ⟨x, len, cap, m, n, D, Pl, hcs, _, hl, hm, hmm, _, hel⟩
  · simp at hcs
    subst hcs
    exact ⟨none, 0, [], rfl, Rii.nil _ _ _ (Nat.zero_le _)⟩
  · simp at hcs
    subst hcs
    have hle : len ≤ m := by rw [hmm]; split <;> omega
    have hone : ∀ i, i < len → ∃ o : List Int, ∃ a' cap', W.cell? (x.add i) = some (.slice a' o.length cap') ∧ Ri W a' cap' o := by
      intro i hi
      obtain ⟨cs', hc, ht⟩ := hel i (by omega)
      rw [cellsIs1] at hc
      obtain ⟨hlen, _, hcell⟩ := World.cells?_some hc
      match cs', hlen with
      | [v0], _ =>
        obtain ⟨a', cap', o, e, ho⟩ := open_is1 ht
        subst e
        have := hcell 0 (by omega)
        rw [add0T, Nat.mul_one] at this
        exact ⟨o, a', cap', by simpa using this, ho⟩
    obtain ⟨os, hol, ho⟩ := list_of_ltT (d := ([] : List Int)) len hone
    refine ⟨some x, cap, os, by rw [hol], by omega, hm, fun i hi => ?_⟩
    obtain ⟨a', cap', c1, hp⟩ := ho i (by omega)
    obtain ⟨b, off, spot⟩ := x
    have hspot : spot = none := by
      obtain ⟨_, _, c0, _⟩ := ho 0 (by omega)
      simpa [Addr.add] using World.cell?_spot c0
    subst hspot
    have hadd : ∀ i, (⟨b, off, none⟩ : Addr).add i = ⟨b, off + i, none⟩ := by intro i; unfold Addr.add; split <;> simp_all
    have hlt := World.block_lt_of_cell? W _ c1
    rw [hadd] at c1 hlt
    exact ⟨b, off, a', cap', rfl, hlt, c1, hp⟩

set_option maxRecDepth 100000 in
/-- Regions. -/
theorem open_rgs {H : Type} {enc : TypeId × Value → H} {W : World} {held : Bool} {d : DataW H} {p : List MemPlace} {a : Option Addr} {len cap : Nat} (h : DataW.Trod enc Tryz.prog W 0 (fun _ => true) held 22 (.slice a len cap) d p) :
    ∃ m : List (List Te), len = m.length ∧ Tzz W a cap m := by
  obtain ⟨fuel, hf⟩ := h
  obtain ⟨a', cap', l, e, hl⟩ := open_rg1 (v := .slice a len cap) (by simpa [Value.cells] using hf)
  cases e
  exact ⟨l, rfl, hl⟩
set_option maxRecDepth 100000 in
/-- A store, by value. -/
theorem open_store {H : Type} {enc : TypeId × Value → H} {W : World} {held : Bool} {r : Reach} {b0 : Nat} {v : Value} {d : DataW H} {p : List MemPlace}
    (hv : Value.okWide Tryz.prog W r b0 25 v) (h : DataW.Trod enc Tryz.prog W 0 (fun _ => true) held 25 v d p) :
    ∃ a ca b cb, ∃ s : Sr, v = .agg #[.slice a s.rg.length ca, .slice b s.rw.length cb] ∧ Tzz W a ca s.rg ∧ Rii W b cb s.rw := by
  obtain ⟨v0, v1, y0, y1, n, rfl, _, _, t0, t1⟩ := open_agg2 Tryz.underlying25 (by kernel_rfl) cellsSt2 hv h
  obtain ⟨a, ca, g, rfl, hg⟩ := open_rg1 t0
  obtain ⟨b, cb, m, rfl, hm⟩ := open_rw1 t1
  exact ⟨a, ca, b, cb, ⟨g, m⟩, rfl, hg, hm⟩
set_option maxRecDepth 100000 in
/-- A slot, by value. -/
theorem open_slot {H : Type} {enc : TypeId × Value → H} {W : World} {held : Bool} {r : Reach} {b0 : Nat} {v : Value} {d : DataW H} {p : List MemPlace}
    (hv : Value.okWide Tryz.prog W r b0 27 v) (h : DataW.Trod enc Tryz.prog W 0 (fun _ => true) held 27 v d p) :
    ∃ x y, v = .agg #[.int .i64 x, .int .i64 y] ∧ I64 x ∧ I64 y := by
  obtain ⟨v0, v1, y0, y1, n, rfl, _, _, t0, t1⟩ := open_agg2 Tryz.underlying27 (by kernel_rfl) cellsSl2 hv h
  obtain ⟨z0, e0, _, w0⟩ := DataW.trod_int Tryz.underlying3 t0
  obtain ⟨z1, e1, _, w1⟩ := DataW.trod_int Tryz.underlying3 t1
  simp at e0 e1
  subst e0 e1
  exact ⟨z0, z1, rfl, wfo_i64_bounds w0, wfo_i64_bounds w1⟩

end Go.Proofs.YtjefaccpmoignaaGreat
