/-
  What a law is told of an axis, of a list of axes, of a list of ints that came in.
  What a law is told of pairs, and of lists of pairs, that came in.
-/
import Derived.Test.YtdpafdeoepbhaaaGreatZ14
import Derived.Test.YtdpafdeoepbhaaaGreatZ15
import Derived.Test.YtdpafdeoepbhaaaGreatZ29
import Derived.Deep.Slices
import Derived.Lib.SmallJoins
import Derived.ChangeSame
import Derived.Test.YtdpafdeoepbhaaaGreatZ17
namespace Go.Proofs.YtdpafdeoepbhaaaGreat
open Go.RowKit
open Go.ChangeShapes Go.WideShapes Go.Joins Go.Deep
set_option linter.unusedSimpArgs false
set_option linter.unusedVariables false

theorem list_of_ltA {α : Type} {d : α} {p : Nat → α → Prop} : ∀ n, (∀ i, i < n → ∃ o, p i o) → ∃ os : List α, os.length = n ∧ ∀ i, i < n → p i (os.getD i d) := by
  intro n
  induction n with
  | zero => exact fun _ => ⟨[], rfl, fun i hi => by omega⟩
  | succ n ih =>
    intro h
    obtain ⟨os, hl, ho⟩ := ih (fun i hi => h i (by omega))
    obtain ⟨o, h1⟩ := h n (by omega)
    refine ⟨os ++ [o], by simp [hl], fun i hi => ?_⟩
    by_cases hi' : i < n
    · have e : (os ++ [o]).getD i d = os.getD i d := by simp [List.getD, List.getElem?_append_left (show i < os.length by omega)]
      rw [e]
      exact ho i hi'
    · have e : i = n := by omega
      subst e
      have e : (os ++ [o]).getD i d = o := by simp [List.getD, ← hl]
      rw [e]
      exact h1
theorem add0A (y : Addr) : y.add 0 = y := by
  obtain ⟨b, off, spot⟩ := y
  cases spot <;> simp [Addr.add]

theorem cellsAx : Tryz.prog.cellsOf 47 = 4 := by kernel_rfl
theorem cellsAi : Tryz.prog.cellsOf 3 = 1 := by kernel_rfl
theorem cellsAs : Tryz.prog.cellsOf 9 = 1 := by kernel_rfl

set_option maxRecDepth 100000 in
/-- An axis by value. -/
theorem open_axis {H : Type} {enc : TypeId × Value → H} {W : World} {sp : Nat → Bool} {held : Bool} {r : Reach} {b0 : Nat} {v : Value} {d : DataW H} {p : List MemPlace}
    (hv : Value.okWide Tryz.prog W r b0 47 v) (h : DataW.Trod enc Tryz.prog W 0 sp held 47 v d p) :
    ∃ t : Ax, v = .agg (axC t) ∧ Axw t := by
  obtain ⟨v0, v1, v2, v3, y0, y1, y2, y3, n, rfl, _, _, t0, t1, t2, t3⟩ := open_agg4 Tryz.underlying47 (by kernel_rfl) cellsAx hv h
  obtain ⟨tx, e0, _, w0⟩ := DataW.trod_string Tryz.underlying9 t0
  obtain ⟨z1, e1, _, w1⟩ := DataW.trod_int Tryz.underlying3 t1
  obtain ⟨z2, e2, _, w2⟩ := DataW.trod_int Tryz.underlying3 t2
  obtain ⟨z3, e3, _, w3⟩ := DataW.trod_int Tryz.underlying3 t3
  simp at e0 e1 e2 e3
  subst e0 e1 e2 e3
  exact ⟨⟨tx, z1, z2, z3⟩, rfl, w0, wfo_i64_bounds w1, wfo_i64_bounds w2, wfo_i64_bounds w3⟩

set_option maxRecDepth 100000 in
/-- A list of axes. -/
theorem open_axes {H : Type} {enc : TypeId × Value → H} {W : World} {sp : Nat → Bool} {held : Bool} {d : DataW H} {p : List MemPlace} {a : Option Addr} {len cap : Nat} (h : DataW.Trod enc Tryz.prog W 0 sp held 22 (.slice a len cap) d p) :
    ∃ l : List Ax, len = l.length ∧ As W a cap l := by
  obtain ⟨fuel, hf⟩ := h
  rcases open_slice Tryz.underlying22 hf with ⟨hcs, _⟩ | ⟨x, l, c, m, n, D, Pl, hcs, _, hl, hm, hmm, _, hel⟩
  · simp [Value.cells] at hcs
    obtain ⟨rfl, rfl, rfl⟩ := hcs
    exact ⟨[], rfl, As.nil _ _ _ (Nat.zero_le _)⟩
  · simp [Value.cells] at hcs
    obtain ⟨rfl, rfl, rfl⟩ := hcs
    have hle : len ≤ m := by rw [hmm]; split <;> omega
    have hone : ∀ i, i < len → ∃ o : Ax, Axw o ∧ W.cell? (x.add (i * 4)) = some (.string o.tx) ∧ W.cell? ((x.add (i * 4)).add 1) = some (.int .i64 o.lo) ∧ W.cell? ((x.add (i * 4)).add 2) = some (.int .i64 o.us) ∧ W.cell? ((x.add (i * 4)).add 3) = some (.int .i64 o.hi) := by
      intro i hi
      obtain ⟨cs', hc, ht⟩ := hel i (by omega)
      rw [cellsAx] at hc
      obtain ⟨y0, y1, y2, y3, n', hx, hlen, t0, t1, t2, t3⟩ := trod_struct4 Tryz.underlying47 ht
      rw [cellsAx] at hlen
      match cs', hlen with
      | [v0, v1, v2, v3], _ =>
        dsimp only at t0 t1 t2 t3
        rw [cellsAi] at t1 t2 t3
        rw [cellsAs] at t0
        obtain ⟨tx, e0, _, w0⟩ := DataW.trod_string Tryz.underlying9 t0
        obtain ⟨z1, e1, _, w1⟩ := DataW.trod_int Tryz.underlying3 t1
        obtain ⟨z2, e2, _, w2⟩ := DataW.trod_int Tryz.underlying3 t2
        obtain ⟨z3, e3, _, w3⟩ := DataW.trod_int Tryz.underlying3 t3
        simp at e0 e1 e2 e3
        subst e0 e1 e2 e3
        obtain ⟨_, _, hcell⟩ := World.cells?_some hc
        refine ⟨⟨tx, z1, z2, z3⟩, ⟨w0, wfo_i64_bounds w1, wfo_i64_bounds w2, wfo_i64_bounds w3⟩, ?_, hcell 1 (by omega), hcell 2 (by omega), hcell 3 (by omega)⟩
        have := hcell 0 (by omega)
        rw [add0A] at this
        exact this
    obtain ⟨os, hol, ho⟩ := list_of_ltA (d := Ax.none) len hone
    refine ⟨os, hol.symm, by omega, hm, fun o hm => ?_, fun i hi => ?_⟩
    · obtain ⟨i, hi, e⟩ := List.getElem_of_mem hm
      have := (ho i (by omega)).1
      rw [List.getD_eq_getElem?_getD, List.getElem?_eq_getElem hi] at this
      rw [← e]
      exact this
    · obtain ⟨_, c1, c2, c3, c4⟩ := ho i (by omega)
      obtain ⟨b, off, spot⟩ := x
      have hspot : spot = none := by
        have := World.cell?_spot (ho 0 (by omega)).2.1
        simpa [Addr.add] using this
      subst hspot
      have hadd : ∀ i, (⟨b, off, none⟩ : Addr).add i = ⟨b, off + i, none⟩ := by intro i; unfold Addr.add; split <;> simp_all
      have hadd2 : ∀ i j, ((⟨b, off, none⟩ : Addr).add i).add j = ⟨b, off + i + j, none⟩ := by intro i j; rw [hadd]; unfold Addr.add; split <;> simp_all
      have hlt := World.block_lt_of_cell? W _ c1
      rw [hadd] at c1 hlt
      rw [hadd2] at c2 c3 c4
      exact ⟨b, off, rfl, hlt, c1, c2, c3, c4⟩

theorem IsRowK.ri {w : World} {a : Option Addr} {len cap : Nat} {zs : List Int} (h : IsRowK .i64 w a len cap zs) : ∃ xs : List Int, len = xs.length ∧ Ri w a cap xs := by
  obtain ⟨ys, h1, h2, h3, h4, h5, h6⟩ := h.cells
  exact ⟨ys, h1, fun y hy => wfo_i64_bounds (h2 y hy), h3, h4, h6⟩

end Go.Proofs.YtdpafdeoepbhaaaGreat

namespace Go.Proofs.YtdpafdeoepbhaaaGreat
open Go.RowKit
open Go.ChangeShapes Go.WideShapes Go.Joins Go.Deep
set_option linter.unusedSimpArgs false
set_option linter.unusedVariables false

theorem list_of_ltP {α : Type} {d : α} {p : Nat → α → Prop} : ∀ n, (∀ i, i < n → ∃ o, p i o) → ∃ os : List α, os.length = n ∧ ∀ i, i < n → p i (os.getD i d) := by
  intro n
  induction n with
  | zero => exact fun _ => ⟨[], rfl, fun i hi => by omega⟩
  | succ n ih =>
    intro h
    obtain ⟨os, hl, ho⟩ := ih (fun i hi => h i (by omega))
    obtain ⟨o, h1⟩ := h n (by omega)
    refine ⟨os ++ [o], by simp [hl], fun i hi => ?_⟩
    by_cases hi' : i < n
    · have e : (os ++ [o]).getD i d = os.getD i d := by simp [List.getD, List.getElem?_append_left (show i < os.length by omega)]
      rw [e]
      exact ho i hi'
    · have e : i = n := by omega
      subst e
      have e : (os ++ [o]).getD i d = o := by simp [List.getD, ← hl]
      rw [e]
      exact h1
theorem add0P (y : Addr) : y.add 0 = y := by
  obtain ⟨b, off, spot⟩ := y
  cases spot <;> simp [Addr.add]

theorem cellsPr : Tryz.prog.cellsOf 70 = 2 := by kernel_rfl
theorem cellsPi : Tryz.prog.cellsOf 3 = 1 := by kernel_rfl
theorem cellsPs : Tryz.prog.cellsOf 48 = 1 := by kernel_rfl

set_option maxRecDepth 100000 in
theorem open_prs {H : Type} {enc : TypeId × Value → H} {W : World} {sp : Nat → Bool} {held : Bool} {fuel : Nat} {v : Value} {x : DataW H × List MemPlace} (hf : DataW.trod enc Tryz.prog W 0 sp held fuel 48 [v] = some x) :
    ∃ a cap, ∃ l : List Pr, v = .slice a l.length cap ∧ Pz W a cap l := by
  rcases open_slice Tryz.underlying48 hf with ⟨hcs, _⟩ | ⟨x, len, cap, m, n, D, Pl, hcs, _, hl, hm, hmm, _, hel⟩
  · simp at hcs
    subst hcs
    exact ⟨none, 0, [], rfl, Pz.nil _ _ _ (Nat.zero_le _)⟩
  · simp at hcs
    subst hcs
    have hle : len ≤ m := by rw [hmm]; split <;> omega
    have hone : ∀ i, i < len → ∃ o : Pr, (I64 o.1 ∧ I64 o.2) ∧ W.cell? (x.add (i * 2)) = some (.int .i64 o.1) ∧ W.cell? ((x.add (i * 2)).add 1) = some (.int .i64 o.2) := by
      intro i hi
      obtain ⟨cs', hc, ht⟩ := hel i (by omega)
      rw [cellsPr] at hc
      obtain ⟨y0, y1, n', hx, hlen, t0, t1⟩ := trod_struct2 Tryz.underlying70 ht
      rw [cellsPr] at hlen
      match cs', hlen with
      | [v0, v1], _ =>
        dsimp only at t0 t1
        rw [cellsPi] at t0 t1
        obtain ⟨z0, e0, _, w0⟩ := DataW.trod_int Tryz.underlying3 t0
        obtain ⟨z1, e1, _, w1⟩ := DataW.trod_int Tryz.underlying3 t1
        simp at e0 e1
        subst e0 e1
        obtain ⟨_, _, hcell⟩ := World.cells?_some hc
        refine ⟨(z0, z1), ⟨wfo_i64_bounds w0, wfo_i64_bounds w1⟩, ?_, hcell 1 (by omega)⟩
        have := hcell 0 (by omega)
        rw [add0P] at this
        exact this
    obtain ⟨os, hol, ho⟩ := list_of_ltP (d := ((0, 0) : Pr)) len hone
    refine ⟨some x, cap, os, by rw [hol], by omega, hm, fun o hm => ?_, fun i hi => ?_⟩
    · obtain ⟨i, hi, e⟩ := List.getElem_of_mem hm
      have := (ho i (by omega)).1
      rw [List.getD_eq_getElem?_getD, List.getElem?_eq_getElem hi] at this
      rw [← e]
      exact this
    · obtain ⟨_, c1, c2⟩ := ho i (by omega)
      obtain ⟨b, off, spot⟩ := x
      have hspot : spot = none := by
        have := World.cell?_spot (ho 0 (by omega)).2.1
        simpa [Addr.add] using this
      subst hspot
      have hadd : ∀ i, (⟨b, off, none⟩ : Addr).add i = ⟨b, off + i, none⟩ := by intro i; unfold Addr.add; split <;> simp_all
      have hadd2 : ∀ i j, ((⟨b, off, none⟩ : Addr).add i).add j = ⟨b, off + i + j, none⟩ := by intro i j; rw [hadd]; unfold Addr.add; split <;> simp_all
      have hlt := World.block_lt_of_cell? W _ c1
      rw [hadd] at c1 hlt
      rw [hadd2] at c2
      exact ⟨b, off, rfl, hlt, c1, c2⟩

/-- A list of pairs. -/
theorem open_pairs {H : Type} {enc : TypeId × Value → H} {W : World} {sp : Nat → Bool} {held : Bool} {d : DataW H} {p : List MemPlace} {a : Option Addr} {len cap : Nat} (h : DataW.Trod enc Tryz.prog W 0 sp held 48 (.slice a len cap) d p) :
    ∃ l : List Pr, len = l.length ∧ Pz W a cap l := by
  obtain ⟨fuel, hf⟩ := h
  obtain ⟨a', cap', l, e, hl⟩ := open_prs (v := .slice a len cap) (by simpa [Value.cells] using hf)
  cases e
  exact ⟨l, rfl, hl⟩

set_option maxRecDepth 100000 in
/-- A list of bends. -/
theorem open_bends {H : Type} {enc : TypeId × Value → H} {W : World} {sp : Nat → Bool} {held : Bool} {d : DataW H} {p : List MemPlace} {a : Option Addr} {len cap : Nat} (h : DataW.Trod enc Tryz.prog W 0 sp held 23 (.slice a len cap) d p) :
    ∃ m : List (List Pr), len = m.length ∧ Pzz W a cap m := by
  obtain ⟨fuel, hf⟩ := h
  rcases open_slice Tryz.underlying23 hf with ⟨hcs, _⟩ | ⟨x, l, c, m, n, D, Pl, hcs, _, hl, hm, hmm, _, hel⟩
  · simp [Value.cells] at hcs
    obtain ⟨rfl, rfl, rfl⟩ := hcs
    exact ⟨[], rfl, Pzz.nil _ _ _ (Nat.zero_le _)⟩
  · simp [Value.cells] at hcs
    obtain ⟨rfl, rfl, rfl⟩ := hcs
    have hle : len ≤ m := by rw [hmm]; split <;> omega
    have hone : ∀ i, i < len → ∃ o : List Pr, ∃ a' cap', W.cell? (x.add i) = some (.slice a' o.length cap') ∧ Pz W a' cap' o := by
      intro i hi
      obtain ⟨cs', hc, ht⟩ := hel i (by omega)
      rw [cellsPs] at hc
      obtain ⟨hlen, _, hcell⟩ := World.cells?_some hc
      match cs', hlen with
      | [v0], _ =>
        obtain ⟨a', cap', o, e, ho⟩ := open_prs ht
        subst e
        have := hcell 0 (by omega)
        rw [add0P, Nat.mul_one] at this
        exact ⟨o, a', cap', by simpa using this, ho⟩
    obtain ⟨os, hol, ho⟩ := list_of_ltP (d := ([] : List Pr)) len hone
    refine ⟨os, hol.symm, by omega, hm, fun i hi => ?_⟩
    obtain ⟨a', cap', c1, hp⟩ := ho i (by omega)
    obtain ⟨b, off, spot⟩ := x
    have hspot : spot = none := by
      obtain ⟨_, _, c0, _⟩ := ho 0 (by omega)
      simpa [Addr.add] using World.cell?_spot c0
    subst hspot
    have hadd : ∀ i, (⟨b, off, none⟩ : Addr).add i = ⟨b, off + i, none⟩ := by intro i; unfold Addr.add; split <;> simp_all
    have hlt := World.block_lt_of_cell? W _ c1
    rw [hadd] at c1 hlt
    exact ⟨b, off, a', cap', rfl, hlt, c1, hp⟩

end Go.Proofs.YtdpafdeoepbhaaaGreat
