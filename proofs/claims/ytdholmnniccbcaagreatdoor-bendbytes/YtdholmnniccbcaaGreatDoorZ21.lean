/-
  foundrylaw03.awake, plain, few; foundryref02.Same of formed fractions: the walks.
  What a law is told of a slice of bytes, or of int32, that came in.
  What a law is told of pairs, and of lists of pairs, that came in.
  foundrylaw01.awake, few: the walks.
  What a law is told of a slice of limbs that came in.
-/
import Derived.Test.YtdholmnniccbcaaGreatDoorZ14
import Derived.Test.YtdholmnniccbcaaGreatDoorZ10
import Derived.ProofKit
import Derived.Deep.Slices
import Derived.Lib.SmallJoins
import Derived.ChangeSame
import Derived.Test.YtdholmnniccbcaaGreatDoorZ1
namespace Go.Proofs.YtdholmnniccbcaaGreatDoor
open Go.RowKit
set_option linter.unusedSimpArgs false
set_option linter.unusedVariables false
/-- foundryref02.Same, of formed fractions of one number. -/
theorem same3_any (k l : Nat) (q r : Rat) (v v' : Value) (w : World) (h : Fr w v k q) (h' : Fr w v' l r) (hqr : q = r) :
    Calls Tryz.prog 12 #[v, v'] w fun e w' => e = .returned (.bool true) ∧ Below w.heap.size w w' := by
  obtain ⟨n, xs, ys, ⟨a, c, a', c', rfl, hx, hy⟩, f1, _, _, e1⟩ := h
  obtain ⟨m, ps, qs, ⟨b, d, b', d', rfl, hp, hq⟩, f2, _, _, e2⟩ := h'
  obtain ⟨rfl, rfl, rfl⟩ := f1.uniq f2 hx.lim hy.lim hp.lim hq.lim (by rw [e1, e2, hqr])
  refine (alike2_any _ _ _ _ _ _ _ _ _ _ _ _ _ _ _ hx hy hp hq).mono ?_
  rintro e u ⟨rfl, hb⟩
  exact ⟨ret_bool (by simp), hb⟩

theorem awake3_third : to14 (((1 : Int) : Rat) / ((3 : Int) : Rat)) = 5461 := by decide +kernel

end Go.Proofs.YtdholmnniccbcaaGreatDoor

namespace Go.Proofs.YtdholmnniccbcaaGreatDoor
open Go.RowKit
set_option linter.unusedSimpArgs false
set_option linter.unusedVariables false

/-- A slice of integers that came in: it is nil; or it leads to a row of 'cap' cells, the numbers 'zs' (the first 'len' are its elements), each fitting its kind. -/
def IsRowK (k : IntKind) (w : World) (a : Option Addr) (len cap : Nat) (zs : List Int) : Prop :=
  (a = none ∧ len = 0 ∧ cap = 0 ∧ zs = []) ∨
  ∃ x, a = some x ∧ len ≤ cap ∧ cap ≤ maxLen ∧ zs.length = cap ∧ (∀ i, i < zs.length → w.cell? (x.add i) = some (.int k (zs.getD i 0))) ∧ ∀ n ∈ zs, (Lit.int k n).wf = true

theorem wfo_u8_bounds {n : Int} (h : (Lit.int .u8 n).wf = true) : 0 ≤ n ∧ n < 256 := by
  simp [Lit.wf, IntKind.min, IntKind.max, IntKind.bits, IntKind.signed] at h
  omega
theorem wfo_i32_bounds {n : Int} (h : (Lit.int .i32 n).wf = true) : -2147483648 ≤ n ∧ n ≤ 2147483647 := by
  simp [Lit.wf, IntKind.min, IntKind.max, IntKind.bits, IntKind.signed] at h
  omega
theorem wfo_i64_bounds {n : Int} (h : (Lit.int .i64 n).wf = true) : -9223372036854775808 ≤ n ∧ n ≤ 9223372036854775807 := by
  simp [Lit.wf, IntKind.min, IntKind.max, IntKind.bits, IntKind.signed] at h
  omega

theorem IsRowK.cells {k : IntKind} {w : World} {a : Option Addr} {len cap : Nat} {zs : List Int} (h : IsRowK k w a len cap zs) :
    ∃ ys : List Int, len = ys.length ∧ (∀ y ∈ ys, (Lit.int k y).wf = true) ∧ ys.length ≤ cap ∧ cap ≤ maxLen ∧ (a = none → cap = 0) ∧
      (ys = [] ∨ ∃ b off, a = some ⟨b, off, none⟩ ∧ b < w.heap.size ∧ ∀ i, i < ys.length → w.cell? ⟨b, off + i, none⟩ = some (.int k (ys.getD i 0))) := by
  rcases h with ⟨rfl, rfl, rfl, rfl⟩ | ⟨x, rfl, h1, h2, h3, hc, hw⟩
  · exact ⟨[], rfl, (fun y hy => by cases hy), Nat.le_refl _, Nat.zero_le _, fun _ => rfl, .inl rfl⟩
  · refine ⟨zs.take len, by simp; omega, fun y hy => hw y (List.mem_of_mem_take hy), by simp; omega, h2, (by simp), ?_⟩
    by_cases h0 : len = 0
    · exact .inl (by simp [h0])
    · obtain ⟨b, off, spot⟩ := x
      have c0 := hc 0 (by omega)
      have hspot : spot = none := by simpa [Addr.add] using World.cell?_spot c0
      subst hspot
      refine .inr ⟨b, off, rfl, ?_, fun i hi => ?_⟩
      · have := World.block_lt_of_cell? w _ c0
        simpa [Addr.add] using this
      · simp at hi
        have hadd : (⟨b, off, none⟩ : Addr).add i = ⟨b, off + i, none⟩ := by unfold Addr.add; split <;> simp_all
        have hci := hc i (by omega)
        rw [hadd] at hci
        rw [hci]
        simp [List.getD, show i < len by omega]

theorem IsRowK.rb {w : World} {a : Option Addr} {len cap : Nat} {zs : List Int} (h : IsRowK .u8 w a len cap zs) : ∃ xs : List Nat, len = xs.length ∧ Rb w a cap xs := by
  obtain ⟨ys, h1, h2, h3, h4, h5, h6⟩ := h.cells
  have hb : ∀ y ∈ ys, 0 ≤ y ∧ y < 256 := fun y hy => wfo_u8_bounds (h2 y hy)
  refine ⟨ys.map Int.toNat, by simp [h1], ?_, by simpa using h3, h4, h5, ?_⟩
  · intro x hx
    obtain ⟨y, hy, rfl⟩ := List.mem_map.1 hx
    have := hb y hy
    omega
  · rcases h6 with rfl | ⟨b, off, e, hlt, hc⟩
    · exact .inl rfl
    · refine .inr ⟨b, off, e, hlt, fun i hi => ?_⟩
      simp at hi
      rw [hc i hi]
      have h0 : ys.getD i 0 = ys[i] := by simp [List.getD, hi]
      have hy := hb ys[i] (List.getElem_mem hi)
      rw [h0]
      simp [List.getD, hi]
      omega

end Go.Proofs.YtdholmnniccbcaaGreatDoor

namespace Go.Proofs.YtdholmnniccbcaaGreatDoor
open Go.RowKit
open Go.ChangeShapes Go.WideShapes Go.Joins Go.Deep
set_option linter.unusedSimpArgs false
set_option linter.unusedVariables false

theorem list_of_ltP {α : Type} {d : α} {p : Nat → α → Prop} : ∀ n, (∀ i, i < n → ∃ o, p i o) → ∃ os : List α, os.length = n ∧ ∀ i, i < n → p i (os.getD i d) := by
  intro n
  induction n with
  | zero => exact fun _ => ⟨[], rfl, fun i hi => by omega⟩
  | succ n ih =>
    intro h
    obtain ⟨os, hl, ho⟩ := ih (fun i hi => h i (by omega))
    obtain ⟨o, h1⟩ := h n (by omega)
    refine ⟨os ++ [o], by simp [hl], fun i hi => ?_⟩
    by_cases hi' : i < n
    · have e : (os ++ [o]).getD i d = os.getD i d := by simp [List.getD, List.getElem?_append_left (show i < os.length by omega)]
      rw [e]
      exact ho i hi'
    · have e : i = n := by omega
      subst e
      have e : (os ++ [o]).getD i d = o := by simp [List.getD, ← hl]
      rw [e]
      exact h1
theorem add0P (y : Addr) : y.add 0 = y := by
  obtain ⟨b, off, spot⟩ := y
  cases spot <;> simp [Addr.add]

theorem cellsPr : Tryz.prog.cellsOf 49 = 2 := by kernel_rfl
theorem cellsPi : Tryz.prog.cellsOf 3 = 1 := by kernel_rfl
theorem cellsPs : Tryz.prog.cellsOf 22 = 1 := by kernel_rfl

set_option maxRecDepth 100000 in
theorem open_prs {H : Type} {enc : TypeId × Value → H} {W : World} {sp : Nat → Bool} {held : Bool} {fuel : Nat} {v : Value} {x : DataW H × List MemPlace} (hf : DataW.trod enc Tryz.prog W 0 sp held fuel 22 [v] = some x) :
    ∃ a cap, ∃ l : List Pr, v = .slice a l.length cap ∧ Pz W a cap l := by
  rcases open_slice Tryz.underlying22 hf with ⟨hcs, _⟩ | ⟨x, len, cap, m, n, D, Pl, hcs, _, hl, hm, hmm, _, hel⟩
  · simp at hcs
    subst hcs
    exact ⟨none, 0, [], rfl, Pz.nil _ _ _ (Nat.zero_le _)⟩
  · simp at hcs
    subst hcs
    have hle : len ≤ m := by rw [hmm]; split <;> omega
    have hone : ∀ i, i < len → ∃ o : Pr, (I64 o.1 ∧ I64 o.2) ∧ W.cell? (x.add (i * 2)) = some (.int .i64 o.1) ∧ W.cell? ((x.add (i * 2)).add 1) = some (.int .i64 o.2) := by
      intro i hi
      obtain ⟨cs', hc, ht⟩ := hel i (by omega)
      rw [cellsPr] at hc
      obtain ⟨y0, y1, n', hx, hlen, t0, t1⟩ := trod_struct2 Tryz.underlying49 ht
      rw [cellsPr] at hlen
      match cs', hlen with
      | [v0, v1], _ =>
        dsimp only at t0 t1
        rw [cellsPi] at t0 t1
        obtain ⟨z0, e0, _, w0⟩ := DataW.trod_int Tryz.underlying3 t0
        obtain ⟨z1, e1, _, w1⟩ := DataW.trod_int Tryz.underlying3 t1
        simp at e0 e1
        subst e0 e1
        obtain ⟨_, _, hcell⟩ := World.cells?_some hc
        refine ⟨(z0, z1), ⟨wfo_i64_bounds w0, wfo_i64_bounds w1⟩, ?_, hcell 1 (by omega)⟩
        have := hcell 0 (by omega)
        rw [add0P] at this
        exact this
    obtain ⟨os, hol, ho⟩ := list_of_ltP (d := ((0, 0) : Pr)) len hone
    refine ⟨some x, cap, os, by rw [hol], by omega, hm, fun o hm => ?_, fun i hi => ?_⟩
    · obtain ⟨i, hi, e⟩ := List.getElem_of_mem hm
      have := (ho i (by omega)).1
      rw [List.getD_eq_getElem?_getD, List.getElem?_eq_getElem hi] at this
      rw [← e]
      exact this
    · obtain ⟨_, c1, c2⟩ := ho i (by omega)
      obtain ⟨b, off, spot⟩ := x
      have hspot : spot = none := by
        have := World.cell?_spot (ho 0 (by omega)).2.1
        simpa [Addr.add] using this
      subst hspot
      have hadd : ∀ i, (⟨b, off, none⟩ : Addr).add i = ⟨b, off + i, none⟩ := by intro i; unfold Addr.add; split <;> simp_all
      have hadd2 : ∀ i j, ((⟨b, off, none⟩ : Addr).add i).add j = ⟨b, off + i + j, none⟩ := by intro i j; rw [hadd]; unfold Addr.add; split <;> simp_all
      have hlt := World.block_lt_of_cell? W _ c1
      rw [hadd] at c1 hlt
      rw [hadd2] at c2
      exact ⟨b, off, rfl, hlt, c1, c2⟩

/-- A list of pairs. -/
theorem open_pairs {H : Type} {enc : TypeId × Value → H} {W : World} {sp : Nat → Bool} {held : Bool} {d : DataW H} {p : List MemPlace} {a : Option Addr} {len cap : Nat} (h : DataW.Trod enc Tryz.prog W 0 sp held 22 (.slice a len cap) d p) :
    ∃ l : List Pr, len = l.length ∧ Pz W a cap l := by
  obtain ⟨fuel, hf⟩ := h
  obtain ⟨a', cap', l, e, hl⟩ := open_prs (v := .slice a len cap) (by simpa [Value.cells] using hf)
  cases e
  exact ⟨l, rfl, hl⟩

set_option maxRecDepth 100000 in
/-- A list of bends. -/
theorem open_bends {H : Type} {enc : TypeId × Value → H} {W : World} {sp : Nat → Bool} {held : Bool} {d : DataW H} {p : List MemPlace} {a : Option Addr} {len cap : Nat} (h : DataW.Trod enc Tryz.prog W 0 sp held 29 (.slice a len cap) d p) :
    ∃ m : List (List Pr), len = m.length ∧ Pzz W a cap m := by
  obtain ⟨fuel, hf⟩ := h
  rcases open_slice Tryz.underlying29 hf with ⟨hcs, _⟩ | ⟨x, l, c, m, n, D, Pl, hcs, _, hl, hm, hmm, _, hel⟩
  · simp [Value.cells] at hcs
    obtain ⟨rfl, rfl, rfl⟩ := hcs
    exact ⟨[], rfl, Pzz.nil _ _ _ (Nat.zero_le _)⟩
  · simp [Value.cells] at hcs
    obtain ⟨rfl, rfl, rfl⟩ := hcs
    have hle : len ≤ m := by rw [hmm]; split <;> omega
    have hone : ∀ i, i < len → ∃ o : List Pr, ∃ a' cap', W.cell? (x.add i) = some (.slice a' o.length cap') ∧ Pz W a' cap' o := by
      intro i hi
      obtain ⟨cs', hc, ht⟩ := hel i (by omega)
      rw [cellsPs] at hc
      obtain ⟨hlen, _, hcell⟩ := World.cells?_some hc
      match cs', hlen with
      | [v0], _ =>
        obtain ⟨a', cap', o, e, ho⟩ := open_prs ht
        subst e
        have := hcell 0 (by omega)
        rw [add0P, Nat.mul_one] at this
        exact ⟨o, a', cap', by simpa using this, ho⟩
    obtain ⟨os, hol, ho⟩ := list_of_ltP (d := ([] : List Pr)) len hone
    refine ⟨os, hol.symm, by omega, hm, fun i hi => ?_⟩
    obtain ⟨a', cap', c1, hp⟩ := ho i (by omega)
    obtain ⟨b, off, spot⟩ := x
    have hspot : spot = none := by
      obtain ⟨_, _, c0, _⟩ := ho 0 (by omega)
      simpa [Addr.add] using World.cell?_spot c0
    subst hspot
    have hadd : ∀ i, (⟨b, off, none⟩ : Addr).add i = ⟨b, off + i, none⟩ := by intro i; unfold Addr.add; split <;> simp_all
    have hlt := World.block_lt_of_cell? W _ c1
    rw [hadd] at c1 hlt
    exact ⟨b, off, a', cap', rfl, hlt, c1, hp⟩

end Go.Proofs.YtdholmnniccbcaaGreatDoor

namespace Go.Proofs.YtdholmnniccbcaaGreatDoor
open Go.RowKit
set_option linter.unusedSimpArgs false
set_option linter.unusedVariables false
end Go.Proofs.YtdholmnniccbcaaGreatDoor

namespace Go.Proofs.YtdholmnniccbcaaGreatDoor
open Go.RowKit
set_option linter.unusedSimpArgs false
set_option linter.unusedVariables false

/-- A slice of integers that came in: it is nil; or it leads to a row of 'cap' cells, the numbers 'zs' (the first 'len' are its elements), each fitting its kind. -/
def IsRow (k : IntKind) (w : World) (a : Option Addr) (len cap : Nat) (zs : List Int) : Prop :=
  (a = none ∧ len = 0 ∧ cap = 0 ∧ zs = []) ∨
  ∃ x, a = some x ∧ len ≤ cap ∧ cap ≤ maxLen ∧ zs.length = cap ∧ (∀ i, i < zs.length → w.cell? (x.add i) = some (.int k (zs.getD i 0))) ∧ ∀ n ∈ zs, (Lit.int k n).wf = true

theorem wf_u32_bounds {n : Int} (h : (Lit.int .u32 n).wf = true) : 0 ≤ n ∧ n < 4294967296 := by
  simp [Lit.wf, IntKind.min, IntKind.max, IntKind.bits, IntKind.signed] at h
  omega

theorem IsRow.rd {w : World} {a : Option Addr} {len cap : Nat} {zs : List Int} (h : IsRow .u32 w a len cap zs) : ∃ xs : List Nat, len = xs.length ∧ Rd w a cap xs := by
  rcases h with ⟨rfl, rfl, rfl, rfl⟩ | ⟨x, rfl, h1, h2, h3, hc, hw⟩
  · exact ⟨[], rfl, Rd.nil _ _ _ (Nat.zero_le _) (fun _ => rfl)⟩
  · have hlim : Lim ((zs.take len).map Int.toNat) := by
      intro y hy
      obtain ⟨z, hz, rfl⟩ := List.mem_map.1 hy
      have := wf_u32_bounds (hw z (List.mem_of_mem_take hz))
      omega
    refine ⟨(zs.take len).map Int.toNat, by simp; omega, hlim, by simp; omega, h2, (by simp), ?_⟩
    by_cases h0 : len = 0
    · exact .inl (by simp [h0])
    · obtain ⟨b, off, spot⟩ := x
      have c0 := hc 0 (by omega)
      have hspot : spot = none := by simpa [Addr.add] using World.cell?_spot c0
      subst hspot
      refine .inr ⟨b, off, rfl, ?_, fun i hi => ?_⟩
      · have := World.block_lt_of_cell? w _ c0
        simpa [Addr.add] using this
      · simp at hi
        have hadd : (⟨b, off, none⟩ : Addr).add i = ⟨b, off + i, none⟩ := by unfold Addr.add; split <;> simp_all
        have hci := hc i (by omega)
        rw [hadd] at hci
        rw [hci]
        have hwi := wf_u32_bounds (hw (zs.getD i 0) (by simp [List.getD, show i < zs.length by omega]))
        have e : ((zs.take len).map Int.toNat).getD i 0 = (zs.getD i 0).toNat := by
          simp [List.getD, show i < len by omega, show i < zs.length by omega]
        rw [e, Int.toNat_of_nonneg hwi.1]

end Go.Proofs.YtdholmnniccbcaaGreatDoor
