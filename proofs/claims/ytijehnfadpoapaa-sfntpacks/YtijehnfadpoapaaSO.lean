/-
  What a law is told of a list of tables that came in.
-/
import Derived.Test.YtijehnfadpoapaaSR0
import Derived.Test.YtijehnfadpoapaaOL
import Derived.Deep.Slices
import Derived.Lib.SmallJoins
import Derived.ChangeSame
namespace Go.Proofs.Ytijehnfadpoapaa
open Go.RowKit
open Go.ChangeShapes Go.WideShapes Go.Joins Go.Deep
set_option linter.unusedSimpArgs false
set_option linter.unusedVariables false

theorem list_of_ltT {α : Type} {d : α} {p : Nat → α → Prop} : ∀ n, (∀ i, i < n → ∃ o, p i o) → ∃ os : List α, os.length = n ∧ ∀ i, i < n → p i (os.getD i d) := by
  intro n
  induction n with
  | zero => exact fun _ => ⟨[], rfl, fun i hi => by omega⟩
  | succ n ih =>
    intro h
    obtain ⟨os, hl, ho⟩ := ih (fun i hi => h i (by omega))
    obtain ⟨o, h1⟩ := h n (by omega)
    refine ⟨os ++ [o], by simp [hl], fun i hi => ?_⟩
    by_cases hi' : i < n
    · have e : (os ++ [o]).getD i d = os.getD i d := by simp [List.getD, List.getElem?_append_left (show i < os.length by omega)]
      rw [e]
      exact ho i hi'
    · have e : i = n := by omega
      subst e
      have e : (os ++ [o]).getD i d = o := by simp [List.getD, ← hl]
      rw [e]
      exact h1

theorem add0T (y : Addr) : y.add 0 = y := by
  obtain ⟨b, off, spot⟩ := y
  cases spot <;> simp [Addr.add]

theorem cells8 : Try.prog.cellsOf 5 = 1 := by kernel_rfl
theorem cellsB : Try.prog.cellsOf 23 = 1 := by kernel_rfl
theorem cellsS : Try.prog.cellsOf 9 = 1 := by kernel_rfl
theorem cellsT : Try.prog.cellsOf 46 = 2 := by kernel_rfl

theorem open_bytes {H : Type} {enc : TypeId × Value → H} {W : World} {sp : Nat → Bool} {held : Bool} {fuel : Nat} {v : Value} {x : DataW H × List MemPlace} (hf : DataW.trod enc Try.prog W 0 sp held fuel 23 [v] = some x) :
    ∃ a cap xs, v = .slice a xs.length cap ∧ Rb W a cap xs := by
  rcases open_slice Try.underlying23 hf with ⟨hcs, _⟩ | ⟨x, l, c, m, n, D, Pl, hcs, _, hl, hm, hmm, _, hel⟩
  · simp at hcs
    subst hcs
    exact ⟨none, 0, [], rfl, Rb.nil _ _ _ (Nat.zero_le _) (fun _ => rfl)⟩
  · simp at hcs
    subst hcs
    have hle : l ≤ m := by rw [hmm]; split <;> omega
    have hone : ∀ i, i < l → ∃ y : Nat, y < 256 ∧ W.cell? (x.add i) = some (.int .u8 (y : Int)) := by
      intro i hi
      obtain ⟨cs', hc, ht⟩ := hel i (by omega)
      rw [cells8] at hc
      obtain ⟨hlen, _, hcell⟩ := World.cells?_some hc
      obtain ⟨z0, e0, _, w0⟩ := DataW.trod_int Try.underlying5 ht
      subst e0
      have hb := wf_u8_bounds w0
      have := hcell 0 (by omega)
      rw [add0T, Nat.mul_one] at this
      refine ⟨z0.toNat, by omega, ?_⟩
      rw [show ((z0.toNat : Nat) : Int) = z0 by omega]
      simpa using this
    obtain ⟨ys, hyl, hy⟩ := list_of_ltT (d := 0) l hone
    refine ⟨some x, c, ys, by rw [hyl], fun y hm => ?_, by omega, hm, (by simp), ?_⟩
    · obtain ⟨i, hi, e⟩ := List.getElem_of_mem hm
      have := (hy i (by omega)).1
      rw [List.getD_eq_getElem?_getD, List.getElem?_eq_getElem hi] at this
      rw [← e]
      exact this
    · by_cases h0 : l = 0
      · exact .inl (List.eq_nil_of_length_eq_zero (by omega))
      · obtain ⟨b, off, spot⟩ := x
        have c0 := (hy 0 (by omega)).2
        have hspot : spot = none := by simpa [Addr.add] using World.cell?_spot c0
        subst hspot
        have hadd : ∀ i, (⟨b, off, none⟩ : Addr).add i = ⟨b, off + i, none⟩ := by intro i; unfold Addr.add; split <;> simp_all
        refine .inr ⟨b, off, rfl, ?_, fun i hi => ?_⟩
        · have := World.block_lt_of_cell? W _ c0
          rw [hadd] at this
          exact this
        · have := (hy i (by omega)).2
          rw [hadd] at this
          exact this

set_option maxRecDepth 100000 in
theorem open_tabs {H : Type} {enc : TypeId × Value → H} {W : World} {sp : Nat → Bool} {held : Bool} {d : DataW H} {p : List MemPlace} {a : Option Addr} {len cap : Nat} (h : DataW.Trod enc Try.prog W 0 sp held 22 (.slice a len cap) d p) :
    ∃ l : List Tb, len = l.length ∧ Ts W a cap l := by
  obtain ⟨fuel, hf⟩ := h
  rcases open_slice Try.underlying22 hf with ⟨hcs, _⟩ | ⟨x, l, c, m, n, D, Pl, hcs, _, hl, hm, hmm, _, hel⟩
  · simp [Value.cells] at hcs
    obtain ⟨rfl, rfl, rfl⟩ := hcs
    exact ⟨[], rfl, Ts.nil _ _ _ (Nat.zero_le _)⟩
  · simp [Value.cells] at hcs
    obtain ⟨rfl, rfl, rfl⟩ := hcs
    have hle : len ≤ m := by rw [hmm]; split <;> omega
    have hone : ∀ i, i < len → ∃ t : Tb, t.tx.size ≤ maxLen ∧ ∃ c0 c, W.cell? (x.add (i * 2)) = some (.string t.tx) ∧ W.cell? ((x.add (i * 2)).add 1) = some (.slice c0 t.bs.length c) ∧ Rb W c0 c t.bs := by
      intro i hi
      obtain ⟨cs', hc, ht⟩ := hel i (by omega)
      rw [cellsT] at hc
      obtain ⟨y0, y1, n', hx, hlen, t0, t1⟩ := trod_struct2 Try.underlying46 ht
      rw [cellsT] at hlen
      match cs', hlen with
      | [v0, v1], _ =>
        dsimp only at t0 t1
        rw [cellsS] at t0
        rw [cellsB] at t1
        obtain ⟨tx, e0, _, w0⟩ := DataW.trod_string Try.underlying9 t0
        obtain ⟨c0, c1, xs, e1, hr⟩ := open_bytes (v := v1) (by simpa using t1)
        simp at e0
        subst e0 e1
        obtain ⟨_, _, hcell⟩ := World.cells?_some hc
        refine ⟨⟨tx, xs⟩, w0, c0, c1, ?_, hcell 1 (by omega), hr⟩
        have := hcell 0 (by omega)
        rw [add0T] at this
        exact this
    obtain ⟨os, hol, ho⟩ := list_of_ltT (d := Tb.none) len hone
    refine ⟨os, hol.symm, by omega, hm, fun o hm => ?_, fun i hi => ?_⟩
    · obtain ⟨i, hi, e⟩ := List.getElem_of_mem hm
      have := (ho i (by omega)).1
      rw [List.getD_eq_getElem?_getD, List.getElem?_eq_getElem hi] at this
      rw [← e]
      exact this
    · obtain ⟨_, c0, c1, d1, d2, hr⟩ := ho i (by omega)
      obtain ⟨b, off, spot⟩ := x
      have hspot : spot = none := by
        obtain ⟨_, _, _, e1, _, _⟩ := ho 0 (by omega)
        simpa [Addr.add] using World.cell?_spot e1
      subst hspot
      have hadd : ∀ i, (⟨b, off, none⟩ : Addr).add i = ⟨b, off + i, none⟩ := by intro i; unfold Addr.add; split <;> simp_all
      have hadd2 : ∀ i j, ((⟨b, off, none⟩ : Addr).add i).add j = ⟨b, off + i + j, none⟩ := by intro i j; rw [hadd]; unfold Addr.add; split <;> simp_all
      have hlt := World.block_lt_of_cell? W _ d1
      rw [hadd] at d1 hlt
      rw [hadd2] at d2
      exact ⟨b, off, c0, c1, rfl, hlt, d1, d2, hr⟩

end Go.Proofs.Ytijehnfadpoapaa
