/-
  What a law is told of a script of acts that came in.
-/
import Derived.Test.YtcjomppgllbfpaaOK
import Derived.Test.YtcjomppgllbfpaaOL
import Derived.Deep.Slices
import Derived.Lib.SmallJoins
namespace Go.Proofs.Ytcjomppgllbfpaa
open Go.RowKit
open Go.ChangeShapes Go.WideShapes Go.Joins Go.Deep
set_option linter.unusedSimpArgs false
set_option linter.unusedVariables false

theorem list_of_lt {p : Nat → OpD → Prop} : ∀ n, (∀ i, i < n → ∃ o, p i o) → ∃ os : List OpD, os.length = n ∧ ∀ i, i < n → p i (os.getD i OpD.none) := by
  intro n
  induction n with
  | zero => exact fun _ => ⟨[], rfl, fun i hi => by omega⟩
  | succ n ih =>
    intro h
    obtain ⟨os, hl, ho⟩ := ih (fun i hi => h i (by omega))
    obtain ⟨o, h1⟩ := h n (by omega)
    refine ⟨os ++ [o], by simp [hl], fun i hi => ?_⟩
    by_cases hi' : i < n
    · have e : (os ++ [o]).getD i OpD.none = os.getD i OpD.none := by simp [List.getD, List.getElem?_append_left (show i < os.length by omega)]
      rw [e]
      exact ho i hi'
    · have e : i = n := by omega
      subst e
      have e : (os ++ [o]).getD i OpD.none = o := by simp [List.getD, ← hl]
      rw [e]
      exact h1

theorem add0 (y : Addr) : y.add 0 = y := by
  obtain ⟨b, off, spot⟩ := y
  cases spot <;> simp [Addr.add]

theorem cells4 : Try.prog.cellsOf 46 = 4 := by kernel_rfl
theorem cells1 : Try.prog.cellsOf 3 = 1 := by kernel_rfl
theorem cells1s : Try.prog.cellsOf 9 = 1 := by kernel_rfl

theorem open_ops {H : Type} {enc : TypeId × Value → H} {W : World} {sp : Nat → Bool} {held : Bool} {d : DataW H} {p : List MemPlace} {a : Option Addr} {len cap : Nat} (h : DataW.Trod enc Try.prog W 0 sp held 34 (.slice a len cap) d p) :
    ∃ os : List OpD, len = os.length ∧ Ro W a cap os := by
  obtain ⟨fuel, hf⟩ := h
  rcases open_slice Try.underlying34 hf with ⟨hcs, _⟩ | ⟨x, l, c, m, n, D, Pl, hcs, _, hl, hm, hmm, _, hel⟩
  · simp [Value.cells] at hcs
    obtain ⟨rfl, rfl, rfl⟩ := hcs
    exact ⟨[], rfl, fun o ho => (by cases ho), Nat.le_refl _, Nat.zero_le _, .inl rfl⟩
  · simp [Value.cells] at hcs
    obtain ⟨rfl, rfl, rfl⟩ := hcs
    have hle : len ≤ m := by rw [hmm]; split <;> omega
    have hone : ∀ i, i < len → ∃ o : OpD, o.ok ∧ W.cell? (x.add (i * 4)) = some (.int .i64 o.kd) ∧ W.cell? ((x.add (i * 4)).add 1) = some (.int .i64 o.n) ∧ W.cell? ((x.add (i * 4)).add 2) = some (.int .i64 o.m) ∧ W.cell? ((x.add (i * 4)).add 3) = some (.string o.tx) := by
      intro i hi
      obtain ⟨cs', hc, ht⟩ := hel i (by omega)
      rw [cells4] at hc
      obtain ⟨y0, y1, y2, y3, n', hx, hlen, t0, t1, t2, t3⟩ := trod_struct4 Try.underlying46 ht
      rw [cells4] at hlen
      match cs', hlen with
      | [v0, v1, v2, v3], _ =>
        dsimp only at t0 t1 t2 t3
        rw [cells1] at t0 t1 t2
        rw [cells1s] at t3
        obtain ⟨z0, e0, _, w0⟩ := DataW.trod_int Try.underlying3 t0
        obtain ⟨z1, e1, _, w1⟩ := DataW.trod_int Try.underlying3 t1
        obtain ⟨z2, e2, _, w2⟩ := DataW.trod_int Try.underlying3 t2
        obtain ⟨tx, e3, _, w3⟩ := DataW.trod_string Try.underlying9 t3
        simp at e0 e1 e2 e3
        subst e0 e1 e2 e3
        obtain ⟨_, _, hcell⟩ := World.cells?_some hc
        refine ⟨⟨z0, z1, z2, tx⟩, ⟨wf_i64_bounds w0, wf_i64_bounds w1, wf_i64_bounds w2, w3⟩, ?_, hcell 1 (by omega), hcell 2 (by omega), hcell 3 (by omega)⟩
        have := hcell 0 (by omega)
        rw [add0] at this
        exact this
    obtain ⟨os, hol, ho⟩ := list_of_lt len hone
    refine ⟨os, hol.symm, fun o hm => ?_, by omega, hm, ?_⟩
    · obtain ⟨i, hi, e⟩ := List.getElem_of_mem hm
      have := (ho i (by omega)).1
      rw [List.getD_eq_getElem?_getD, List.getElem?_eq_getElem hi] at this
      rw [← e]
      exact this
    · by_cases h0 : len = 0
      · exact .inl (List.eq_nil_of_length_eq_zero (by omega))
      · obtain ⟨b, off, spot⟩ := x
        have c0 := (ho 0 (by omega)).2.1
        have hspot : spot = none := by
          have := World.cell?_spot c0
          simpa [Addr.add] using this
        subst hspot
        have hadd : ∀ i, (⟨b, off, none⟩ : Addr).add i = ⟨b, off + i, none⟩ := by intro i; unfold Addr.add; split <;> simp_all
        have hadd2 : ∀ i j, ((⟨b, off, none⟩ : Addr).add i).add j = ⟨b, off + i + j, none⟩ := by intro i j; rw [hadd]; unfold Addr.add; split <;> simp_all
        refine .inr ⟨b, off, rfl, ?_, fun i hi => ?_⟩
        · have := World.block_lt_of_cell? W _ c0
          rw [hadd] at this
          exact this
        · obtain ⟨_, c1, c2, c3, c4⟩ := ho i (by omega)
          rw [hadd] at c1
          rw [hadd2] at c2 c3 c4
          exact ⟨c1, c2, c3, c4⟩

end Go.Proofs.Ytcjomppgllbfpaa
