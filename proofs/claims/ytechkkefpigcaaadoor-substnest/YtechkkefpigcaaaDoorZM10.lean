/-
  What a law is told of things that came in, one for all (Opens).
  What a law of layer 19 is told of what came in: a line with its marks; what is asked; ints; two ints.
  What a law of layer 20 is told of what came in: lookups; a line with its marks; ints; two and three uint8. What the row's list gives: the table of what each kind of lookup may have.
  Lookups that put glyphs: SubstSplit, SubstNest (plain mathematics).
  subst.All: the walk.
-/
import Derived.Test.YtechkkefpigcaaaDoorZM2
import Derived.Test.YtechkkefpigcaaaDoorZM9
import Derived.Deep.Strs
import Derived.OpenShut
import Derived.SizedLaws
import Derived.Lib.SmallJoins
import Derived.Test.YtechkkefpigcaaaDoorZM3
import Derived.Test.YtechkkefpigcaaaDoorZM6
import Derived.Test.YtechkkefpigcaaaDoorZM7
import Derived.Test.YtechkkefpigcaaaDoorRows
import Derived.LaidLaws
import Derived.Lib.LaidTab
import Derived.Test.YtechkkefpigcaaaDoorZM8
namespace Go.Proofs.YtechkkefpigcaaaDoor
open Go.RowKit
open Go.ChangeShapes Go.WideShapes Go.Joins Go.Deep
set_option linter.unusedSimpArgs false
set_option linter.unusedVariables false

/-- What came in as data of a type lies as such a thing. -/
def Opens {α : Type} (E : El α) (t : TypeId) : Prop :=
  Tryd.prog.cellsOf t = E.sz ∧ ∀ (H : Type) (enc : TypeId × Value → H) (W : World) (held : Bool) (fuel : Nat) (cs : List Value) (x : DataW H × List MemPlace),
    DataW.trod enc Tryd.prog W 0 (fun _ => true) held fuel t cs = some x → (∀ n ∈ x.1.weights Tryd.prog t, n ≤ reachBytes) → ∃ y : α, E.rep (fun k => k < W.heap.size) W cs y
theorem Opens.num {t : TypeId} {k : IntKind} {lo hi : Int} (ht : Tryd.prog.underlying t = some (.int k)) (hc : Tryd.prog.cellsOf t = 1) (hb : ∀ z, (Lit.int k z).wf = true → lo ≤ z ∧ z ≤ hi) : Opens (El.num k lo hi) t :=
  ⟨hc, fun H enc W held fuel cs x h hz => by
    obtain ⟨z, e, _, hw⟩ := DataW.trod_int ht h
    exact ⟨z, e, hb z hw⟩⟩
theorem Opens.int {t : TypeId} (ht : Tryd.prog.underlying t = some (.int .i64)) (hc : Tryd.prog.cellsOf t = 1) : Opens El.int t := Opens.num ht hc (fun z hw => wfo_i64_bounds hw)
theorem Opens.bool {t : TypeId} (ht : Tryd.prog.underlying t = some .bool) (hc : Tryd.prog.cellsOf t = 1) : Opens El.bool t :=
  ⟨hc, fun H enc W held fuel cs x h hz => by
    obtain ⟨z, e, _⟩ := DataW.trod_bool ht h
    exact ⟨z, e⟩⟩
theorem Opens.str {t : TypeId} (ht : Tryd.prog.underlying t = some .string) (hc : Tryd.prog.cellsOf t = 1) : Opens El.str t :=
  ⟨hc, fun H enc W held fuel cs x h hz => by
    obtain ⟨z, e, _, hw⟩ := DataW.trod_string ht h
    exact ⟨z, e, hw⟩⟩
theorem Opens.via {α β : Type} {E : El α} {t : TypeId} (h : Opens E t) {f : β → α} {d : β} (hf : ∀ x, ∃ y, f y = x) : Opens (E.via f d) t :=
  ⟨h.1, fun H enc W held fuel cs x h1 hz => by
    obtain ⟨z, hz⟩ := h.2 H enc W held fuel cs x h1 hz
    obtain ⟨y, rfl⟩ := hf z
    exact ⟨y, hz⟩⟩
theorem list_of_ltG {α : Type} {d : α} {p : Nat → α → Prop} : ∀ n, (∀ i, i < n → ∃ o, p i o) → ∃ os : List α, os.length = n ∧ ∀ i, i < n → p i (os.getD i d) := by
  intro n
  induction n with
  | zero => exact fun _ => ⟨[], rfl, fun i hi => by omega⟩
  | succ n ih =>
    intro h
    obtain ⟨os, hl, ho⟩ := ih (fun i hi => h i (by omega))
    obtain ⟨o, h1⟩ := h n (by omega)
    refine ⟨os ++ [o], by simp [hl], fun i hi => ?_⟩
    by_cases hi' : i < n
    · have e : (os ++ [o]).getD i d = os.getD i d := by simp [List.getD, List.getElem?_append_left (show i < os.length by omega)]
      rw [e]
      exact ho i hi'
    · have e : i = n := by omega
      subst e
      have e : (os ++ [o]).getD i d = o := by simp [List.getD, ← hl]
      rw [e]
      exact h1
theorem weights_all {H : Type} {P : Program} {e : TypeId} {d : DataW H} : ∀ {l : List (DataW H)}, d ∈ l → ∀ {n : Nat}, n ∈ d.weights P e → n ∈ DataW.weightsAll P e l
  | c :: l, h, n, hn => by
    rw [DataW.weightsAll, List.mem_append]
    rcases List.mem_cons.1 h with h | h
    · exact .inl (by rw [← h]; exact hn)
    · exact .inr (weights_all h hn)
theorem Opens.row {α : Type} {E : El α} {t e : TypeId} (h : Opens E e) (ht : Tryd.prog.underlying t = some (.slice e)) (hc : Tryd.prog.cellsOf t = 1) (hsz : 0 < E.sz) (hby : 1 ≤ Tryd.prog.bytesOf e) : Opens E.row t :=
  ⟨hc, fun H enc W held fuel cs x hf hz => by
    rcases open_slice ht hf with ⟨hcs, _⟩ | ⟨ad, len, cap, m, n, D, Pl, hcs, _, hl, hm, hmm, hx, hel⟩
    · exact ⟨[], none, 0, hcs, (fun b o e1 => by cases e1), Gr.nil _ _ _ _ _ (Nat.zero_le _) (fun _ => rfl), Nat.zero_le _⟩
    · have hle : len ≤ m := by rw [hmm]; split <;> omega
      subst hx
      have hzm : ∀ i, i < len → ∀ k ∈ (D i).weights Tryd.prog e, k ≤ reachBytes := by
        intro i hi k hk
        refine hz k ?_
        simp only [DataW.weights, ht, List.mem_cons, List.mem_append]
        exact .inr (.inl (weights_all (List.mem_map.2 ⟨i, List.mem_range.2 hi, rfl⟩) hk))
      have hzl : len ≤ 140737488351232 := by
        have h1 := hz ((((List.range len).map D).length + ((List.range (m - len)).map fun j => D (len + j)).length) * Tryd.prog.bytesOf e) (by simp only [DataW.weights, ht]; exact List.mem_cons_self)
        rw [List.length_map, List.length_map, List.length_range, List.length_range] at h1
        have h2 : (len + (m - len)) * 1 ≤ (len + (m - len)) * Tryd.prog.bytesOf e := Nat.mul_le_mul_left _ hby
        have h3 : reachBytes = 140737488351232 := rfl
        omega
      have hone : ∀ i, i < len → ∃ o : α, ∃ vs, E.rep (fun k => k < W.heap.size) W vs o ∧ ∀ j, j < E.sz → W.cell? ((ad.add (i * E.sz)).add j) = vs[j]? := by
        intro i hi
        obtain ⟨cs', hc', ht'⟩ := hel i (by omega)
        rw [h.1] at hc'
        obtain ⟨hlen, _, hcell⟩ := World.cells?_some hc'
        obtain ⟨o, ho⟩ := h.2 H enc W held n cs' _ ht' (hzm i hi)
        refine ⟨o, cs', ho, fun j hj => ?_⟩
        have := hcell j (by omega)
        rw [this, List.getElem?_eq_getElem (by omega)]
      obtain ⟨os, hol, ho⟩ := list_of_ltG (d := E.dfl) len hone
      have key : ∀ i, i < len → ∃ b off vs, ad = ⟨b, off, none⟩ ∧ b < W.heap.size ∧ E.rep (fun k => k < W.heap.size) W vs (os.getD i E.dfl) ∧ ∀ j, j < E.sz → W.cell? ⟨b, off + i * E.sz + j, none⟩ = vs[j]? := by
        intro i hi
        obtain ⟨vs, h1, h2⟩ := ho i hi
        obtain ⟨b, off, spot⟩ := ad
        have h0 := h2 0 hsz
        have hv : 0 < vs.length := by rw [E.len h1]; exact hsz
        rw [List.getElem?_eq_getElem hv] at h0
        have hspot : spot = none := by
          obtain ⟨vs', h1', h2'⟩ := ho 0 (by omega)
          have h0' := h2' 0 hsz
          rw [List.getElem?_eq_getElem (by rw [E.len h1']; exact hsz)] at h0'
          have := World.cell?_spot h0'
          simpa [Addr.add] using this
        subst hspot
        have hadd : ∀ i, (⟨b, off, none⟩ : Addr).add i = ⟨b, off + i, none⟩ := by intro i; unfold Addr.add; split <;> simp_all
        have hadd2 : ∀ i j, ((⟨b, off, none⟩ : Addr).add i).add j = ⟨b, off + i + j, none⟩ := by intro i j; rw [hadd]; unfold Addr.add; split <;> simp_all
        have hlt := World.block_lt_of_cell? W _ h0
        rw [hadd2] at hlt
        exact ⟨b, off, vs, rfl, hlt, h1, fun j hj => by rw [← hadd2]; exact h2 j hj⟩
      refine ⟨os, some ad, cap, by rw [hcs, hol], fun b o e1 hne => ?_, ⟨by omega, hm, (fun e => by cases e), fun i hi => ?_⟩, by rw [hol]; exact hzl⟩
      · obtain ⟨b', off', _, e2, hb', _⟩ := key 0 (by have := List.length_pos_iff.2 hne; omega)
        rw [e2] at e1
        cases e1
        exact hb'
      · obtain ⟨b, off, vs, e2, hb, h1, h2⟩ := key i (by omega)
        exact ⟨b, off, vs, by rw [e2], hb, h1, h2⟩⟩
/-- Fields, one behind the other. -/
def OpensF {α : Type} (E : El α) (fs : List Field) (off : Nat) : Prop :=
  ∀ (H : Type) (enc : TypeId × Value → H) (W : World) (held : Bool) (n : Nat) (cs : List Value), (∀ f ∈ fs, ∃ y, DataW.trod enc Tryd.prog W 0 (fun _ => true) held n f.type ((cs.drop f.offset).take (Tryd.prog.cellsOf f.type)) = some y ∧ ∀ k ∈ y.1.weights Tryd.prog f.type, k ≤ reachBytes) →
    ∃ x : α, E.rep (fun k => k < W.heap.size) W ((cs.drop off).take E.sz) x
theorem OpensF.last {α : Type} {E : El α} {f : Field} {off : Nat} (h : Opens E f.type) (ho : f.offset = off) : OpensF E [f] off := by
  intro H enc W held n cs hy
  obtain ⟨y, hy, hz⟩ := hy f (by simp)
  rw [h.1, ho] at hy
  exact h.2 H enc W held n _ y hy hz
theorem OpensF.more {α β : Type} {E : El α} {F : El β} {f : Field} {fs : List Field} {off : Nat} (h : Opens E f.type) (ho : f.offset = off) (hs : OpensF F fs (off + E.sz)) : OpensF (E.cat F) (f :: fs) off := by
  intro H enc W held n cs hy
  obtain ⟨y, hy0, hz0⟩ := hy f (by simp)
  rw [h.1, ho] at hy0
  obtain ⟨x, hx⟩ := h.2 H enc W held n _ y hy0 hz0
  obtain ⟨z, hz⟩ := hs H enc W held n cs (fun g hg => hy g (by simp [hg]))
  refine ⟨(x, z), (cs.drop off).take E.sz, (cs.drop (off + E.sz)).take F.sz, ?_, hx, hz⟩
  show (cs.drop off).take (E.sz + F.sz) = _
  rw [List.take_add, List.drop_drop]
theorem Opens.struct {α : Type} {E : El α} {t : TypeId} {fs : Array Field} (ht : Tryd.prog.underlying t = some (.struct fs)) (hc : Tryd.prog.cellsOf t = E.sz) (h : OpensF E fs.toList 0) : Opens E t :=
  ⟨hc, fun H enc W held fuel cs x hf hz => by
    obtain ⟨xs, n, _, hx, hl, hlen, hff⟩ := DataW.trod_struct ht hf
    subst hx
    obtain ⟨y, hy⟩ := h H enc W held n cs (fun f hf' => by
      obtain ⟨i, hi, e⟩ := List.getElem_of_mem hf'
      have := hff i f (by rw [← e]; simp)
      have hix : i < xs.length := by simpa [hlen] using hi
      rw [this]
      refine ⟨xs[i]'hix, by rw [List.getElem?_eq_getElem], fun k hk => hz k ?_⟩
      simp only [DataW.weights, ht]
      refine DataW.weights_mem_each (j := i) (t := f.type) (d := (xs[i]'hix).1) ?_ ?_ k hk
      · rw [List.getElem?_map, List.getElem?_eq_getElem hi, e]
        rfl
      · rw [List.getElem?_map, List.getElem?_eq_getElem hix]
        rfl)
    rw [List.drop_zero, List.take_of_length_le (by rw [hl, hc]; exact Nat.le_refl _)] at hy
    exact ⟨y, hy⟩⟩
set_option maxRecDepth 100000 in
/-- A struct by value. -/
theorem Opens.agg {α : Type} {E : El α} {t : TypeId} (h : Opens E t) {fs : Array Field} (ht : Tryd.prog.underlying t = some (.struct fs)) {H : Type} {enc : TypeId × Value → H} {W : World} {held : Bool} {r : Reach} {b0 : Nat} {v : Value} {d : DataW H} {p : List MemPlace}
    (hv : Value.okWide Tryd.prog W r b0 t v) (hd : DataW.Trod enc Tryd.prog W 0 (fun _ => true) held t v d p) (hz : ∀ n ∈ d.weights Tryd.prog t, n ≤ reachBytes) : ∃ (cs : Array Value) (y : α), v = .agg cs ∧ E.rep (fun k => k < W.heap.size) W cs.toList y := by
  obtain ⟨cs, rfl, hsz⟩ := okWide_struct ht hv
  obtain ⟨fuel, hf⟩ := hd
  obtain ⟨y, hy⟩ := h.2 H enc W held fuel _ _ hf hz
  exact ⟨cs, y, rfl, by simpa [Value.cells] using hy⟩
set_option maxRecDepth 100000 in
/-- Anything of one cell. -/
theorem Opens.cell {α : Type} {E : El α} {t : TypeId} (h : Opens E t) {H : Type} {enc : TypeId × Value → H} {W : World} {held : Bool} {v : Value} {d : DataW H} {p : List MemPlace}
    (hd : DataW.Trod enc Tryd.prog W 0 (fun _ => true) held t v d p) (hz : ∀ n ∈ d.weights Tryd.prog t, n ≤ reachBytes) (hone : v.cells = #[v]) : ∃ y : α, E.rep (fun k => k < W.heap.size) W [v] y := by
  obtain ⟨fuel, hf⟩ := hd
  obtain ⟨y, hy⟩ := h.2 H enc W held fuel _ _ hf hz
  exact ⟨y, by simpa [hone] using hy⟩

end Go.Proofs.YtechkkefpigcaaaDoor

namespace Go.Proofs.YtechkkefpigcaaaDoor
open Go.RowKit
open Go.ChangeShapes Go.WideShapes Go.Joins Go.Deep
set_option linter.unusedSimpArgs false
set_option linter.unusedVariables false

theorem opens_intY : Opens El.int 3 := Opens.int Tryd.underlying3 (by kernel_rfl)
theorem opens_boolY : Opens El.bool 4 := Opens.bool Tryd.underlying4 (by kernel_rfl)
theorem opens_isY : Opens El.int.row 23 := Opens.row opens_intY Tryd.underlying23 (by kernel_rfl) Nat.one_pos (of_decide_eq_true (by kernel_rfl))
theorem opens_bsY : Opens El.bool.row 24 := Opens.row opens_boolY Tryd.underlying24 (by kernel_rfl) Nat.one_pos (of_decide_eq_true (by kernel_rfl))
set_option maxRecDepth 100000 in
theorem open_isY {H : Type} {enc : TypeId × Value → H} {W : World} {held : Bool} {a : Option Addr} {len cap : Nat} {d : DataW H} {p : List MemPlace}
    (hd : DataW.Trod enc Tryd.prog W 0 (fun _ => true) held 23 (.slice a len cap) d p) (hz : ∀ n ∈ d.weights Tryd.prog 23, n ≤ reachBytes) : ∃ l : List Int, len = l.length ∧ Gr El.int (fun k => k < W.heap.size) W a cap l := by
  obtain ⟨l, a', cap', e, _, hg, _⟩ := opens_isY.cell hd hz rfl
  simp at e
  obtain ⟨rfl, rfl, rfl⟩ := e
  exact ⟨l, rfl, hg⟩
theorem array2Y {α : Type} {cs : Array α} (h : cs.size = 2) : ∃ x y, cs = #[x, y] := by
  rcases cs with ⟨l⟩
  rcases l with _ | ⟨x, _ | ⟨y, _ | ⟨z, l⟩⟩⟩
  · simp at h
  · simp at h
  · exact ⟨x, y, rfl⟩
  · simp at h
end Go.Proofs.YtechkkefpigcaaaDoor

namespace Go.Proofs.YtechkkefpigcaaaDoor
open Go.RowKit
open Go.ChangeShapes Go.WideShapes Go.Joins Go.Deep
set_option linter.unusedSimpArgs false
set_option linter.unusedVariables false

theorem opens_slotU : Opens SlU 44 := Opens.struct (E := El.int.cat El.int) Tryd.underlying44 (by kernel_rfl) (OpensF.more opens_intY rfl (OpensF.last opens_intY rfl))
theorem opens_ruleU : Opens RuE 46 :=
  (Opens.struct (E := El.int.row.cat (El.int.row.cat (El.int.cat (El.int.cat (SlU.cat (SlU.cat SlU)))))) Tryd.underlying46 (by kernel_rfl)
    (OpensF.more opens_isY rfl (OpensF.more opens_isY rfl (OpensF.more opens_intY rfl (OpensF.more opens_intY rfl (OpensF.more opens_slotU rfl (OpensF.more opens_slotU rfl (OpensF.last opens_slotU rfl)))))))).via (fun x => ⟨⟨x.1, x.2.1, x.2.2.1, x.2.2.2.1, x.2.2.2.2.1, x.2.2.2.2.2.1, x.2.2.2.2.2.2⟩, rfl⟩)
theorem opens_rulesU : Opens RuE.row 39 := Opens.row opens_ruleU Tryd.underlying39 (by kernel_rfl) (by decide) (of_decide_eq_true (by kernel_rfl))
theorem opens_lookU : Opens LkE 41 :=
  (Opens.struct (E := El.int.cat (El.bool.cat RuE.row)) Tryd.underlying41 (by kernel_rfl) (OpensF.more opens_intY rfl (OpensF.more opens_boolY rfl (OpensF.last opens_rulesU rfl)))).via (fun x => ⟨⟨x.1, x.2.1, x.2.2⟩, rfl⟩)
theorem opens_looksU : Opens LkE.row 22 := Opens.row opens_lookU Tryd.underlying22 (by kernel_rfl) (by decide) (of_decide_eq_true (by kernel_rfl))
set_option maxRecDepth 100000 in
/-- Lookups. -/
theorem open_looksU {H : Type} {enc : TypeId × Value → H} {W : World} {held : Bool} {a : Option Addr} {len cap : Nat} {d : DataW H} {p : List MemPlace}
    (hd : DataW.Trod enc Tryd.prog W 0 (fun _ => true) held 22 (.slice a len cap) d p) (hz : ∀ n ∈ d.weights Tryd.prog 22, n ≤ reachBytes) : ∃ l : List Lk, len = l.length ∧ Gr LkE (fun k => k < W.heap.size) W a cap l := by
  obtain ⟨l, a', cap', e, _, hg, _⟩ := opens_looksU.cell hd hz rfl
  simp at e
  obtain ⟨rfl, rfl, rfl⟩ := e
  exact ⟨l, rfl, hg⟩
theorem opens_lineU : Opens (El.int.row.cat El.bool.row) 26 := Opens.struct Tryd.underlying26 (by kernel_rfl) (OpensF.more opens_isY rfl (OpensF.last opens_bsY rfl))
set_option maxRecDepth 100000 in
/-- A line, by value. -/
theorem open_lineU {H : Type} {enc : TypeId × Value → H} {W : World} {held : Bool} {r : Reach} {b0 : Nat} {v : Value} {d : DataW H} {p : List MemPlace}
    (hv : Value.okWide Tryd.prog W r b0 26 v) (hd : DataW.Trod enc Tryd.prog W 0 (fun _ => true) held 26 v d p) (hz : ∀ n ∈ d.weights Tryd.prog 26, n ≤ reachBytes) :
    ∃ a ca, ∃ l : List Int, ∃ b cb, ∃ m : List Bool, v = .agg #[.slice a l.length ca, .slice b m.length cb] ∧ Gr El.int (fun k => k < W.heap.size) W a ca l ∧ Gr El.bool (fun k => k < W.heap.size) W b cb m := by
  obtain ⟨cs, ⟨l, m⟩, rfl, us, ts, e, ⟨a, ca, h1, _, h2, _⟩, b, cb, h3, _, h4, _⟩ := opens_lineU.agg Tryd.underlying26 hv hd hz
  subst h1 h3
  refine ⟨a, ca, l, b, cb, m, ?_, h2, h4⟩
  congr 1
  apply Array.ext'
  rw [e]
  rfl
theorem array3Y {α : Type} {cs : Array α} (h : cs.size = 3) : ∃ x y z, cs = #[x, y, z] := by
  rcases cs with ⟨l⟩
  rcases l with _ | ⟨x, _ | ⟨y, _ | ⟨z, _ | ⟨u, l⟩⟩⟩⟩
  · simp at h
  · simp at h
  · simp at h
  · exact ⟨x, y, z, rfl⟩
  · simp at h
set_option maxRecDepth 100000 in
/-- Two uint8, by value. -/
theorem open_ggU {H : Type} {enc : TypeId × Value → H} {W : World} {held : Bool} {r : Reach} {b0 : Nat} {v : Value} {d : DataW H} {p : List MemPlace}
    (hv : Value.okWide Tryd.prog W r b0 42 v) (h : DataW.Trod enc Tryd.prog W 0 (fun _ => true) held 42 v d p) :
    ∃ x y : Int, v = .agg #[.int .u8 x, .int .u8 y] ∧ (0 ≤ x ∧ x < 256) ∧ (0 ≤ y ∧ y < 256) := by
  have hC : Tryd.prog.cellsOf 42 = 2 := by kernel_rfl
  have hc : Tryd.prog.cellsOf 5 = 1 := by kernel_rfl
  simp only [Value.okWide, Tryd.underlying42] at hv
  obtain ⟨cs, rfl, hsz, _⟩ := hv
  obtain ⟨c0, c1, rfl⟩ := array2Y (hsz.trans hC)
  obtain ⟨fuel, hf⟩ := h
  obtain ⟨zs, m, _, _, _, hl, ht⟩ := DataW.trod_array Tryd.underlying42 hf
  have h0 := ht 0 (by decide)
  have h1 := ht 1 (by decide)
  rw [hc] at h0 h1
  rw [List.getElem?_eq_getElem (by omega)] at h0 h1
  obtain ⟨x, e0, _, w0⟩ := DataW.trod_int Tryd.underlying5 h0
  obtain ⟨y, e1, _, w1⟩ := DataW.trod_int Tryd.underlying5 h1
  simp [Value.cells] at e0 e1
  subst e0 e1
  simp [Lit.wf, IntKind.min, IntKind.max, IntKind.bits, IntKind.signed] at w0 w1
  exact ⟨x, y, rfl, ⟨by omega, by omega⟩, ⟨by omega, by omega⟩⟩
set_option maxRecDepth 100000 in
/-- Three uint8, by value. -/
theorem open_gggU {H : Type} {enc : TypeId × Value → H} {W : World} {held : Bool} {r : Reach} {b0 : Nat} {v : Value} {d : DataW H} {p : List MemPlace}
    (hv : Value.okWide Tryd.prog W r b0 48 v) (h : DataW.Trod enc Tryd.prog W 0 (fun _ => true) held 48 v d p) :
    ∃ x y z : Int, v = .agg #[.int .u8 x, .int .u8 y, .int .u8 z] ∧ (0 ≤ x ∧ x < 256) ∧ (0 ≤ y ∧ y < 256) ∧ (0 ≤ z ∧ z < 256) := by
  have hC : Tryd.prog.cellsOf 48 = 3 := by kernel_rfl
  have hc : Tryd.prog.cellsOf 5 = 1 := by kernel_rfl
  simp only [Value.okWide, Tryd.underlying48] at hv
  obtain ⟨cs, rfl, hsz, _⟩ := hv
  obtain ⟨c0, c1, c2, rfl⟩ := array3Y (hsz.trans hC)
  obtain ⟨fuel, hf⟩ := h
  obtain ⟨zs, m, _, _, _, hl, ht⟩ := DataW.trod_array Tryd.underlying48 hf
  have h0 := ht 0 (by decide)
  have h1 := ht 1 (by decide)
  have h2 := ht 2 (by decide)
  rw [hc] at h0 h1 h2
  rw [List.getElem?_eq_getElem (by omega)] at h0 h1 h2
  obtain ⟨x, e0, _, w0⟩ := DataW.trod_int Tryd.underlying5 h0
  obtain ⟨y, e1, _, w1⟩ := DataW.trod_int Tryd.underlying5 h1
  obtain ⟨z, e2, _, w2⟩ := DataW.trod_int Tryd.underlying5 h2
  simp [Value.cells] at e0 e1 e2
  subst e0 e1 e2
  simp [Lit.wf, IntKind.min, IntKind.max, IntKind.bits, IntKind.signed] at w0 w1 w2
  exact ⟨x, y, z, rfl, ⟨by omega, by omega⟩, ⟨by omega, by omega⟩, ⟨by omega, by omega⟩⟩

theorem spn_one {H : Type} {enc : TypeId × Value → H} {W : World} {base : Nat} {sp : Nat → Bool} {held : Bool} {fuel : Nat} {cs : List Value} {z : Int} {x : DataW H × List MemPlace} (h : DataW.trod enc Tryd.prog W base sp held fuel 3 cs = some x) (hx : x.1 = .lit (.int .i64 z)) : cs = [.int .i64 z] := by
  obtain ⟨n, e, h2, _⟩ := DataW.trod_int Tryd.underlying3 h
  rw [h2] at hx
  simp at hx
  rw [e, hx]
theorem four_of {α : Type} {l : List α} (h : l.length = 4) : ∃ a b c d, l = [a, b, c, d] := by
  rcases l with _ | ⟨a, _ | ⟨b, _ | ⟨c, _ | ⟨d, _ | ⟨e, l⟩⟩⟩⟩⟩ <;> simp at h
  exact ⟨a, b, c, d, rfl⟩
set_option maxRecDepth 100000 in
/-- What one entry of the table reads as. -/
theorem spn_four {H : Type} {enc : TypeId × Value → H} {W : World} {base : Nat} {sp : Nat → Bool} {held : Bool} {fuel : Nat} {cs : List Value} {z0 z1 z2 z3 : Int} {x : DataW H × List MemPlace}
    (h : DataW.trod enc Tryd.prog W base sp held fuel 69 cs = some x) (hx : x.1 = .agg [.lit (.int .i64 z0), .lit (.int .i64 z1), .lit (.int .i64 z2), .lit (.int .i64 z3)]) : cs = [.int .i64 z0, .int .i64 z1, .int .i64 z2, .int .i64 z3] := by
  obtain ⟨xs, n, _, hxx, hl, hlen, hff⟩ := DataW.trod_struct Tryd.underlying69 h
  have hc4 : Tryd.prog.cellsOf 69 = 4 := by kernel_rfl
  have hc1 : Tryd.prog.cellsOf 3 = 1 := by kernel_rfl
  rw [hc4] at hl
  obtain ⟨x0, x1, x2, x3, rfl⟩ := four_of (l := xs) hlen
  obtain ⟨c0, c1, c2, c3, rfl⟩ := four_of hl
  rw [hxx] at hx
  simp only [List.map_cons, List.map_nil, DataW.agg.injEq, List.cons.injEq, and_true] at hx
  obtain ⟨e0, e1, e2, e3⟩ := hx
  have h0 : DataW.trod enc Tryd.prog W base sp held n 3 (([c0, c1, c2, c3].drop 0).take (Tryd.prog.cellsOf 3)) = some x0 := hff 0 _ rfl
  have h1 : DataW.trod enc Tryd.prog W base sp held n 3 (([c0, c1, c2, c3].drop 1).take (Tryd.prog.cellsOf 3)) = some x1 := hff 1 _ rfl
  have h2 : DataW.trod enc Tryd.prog W base sp held n 3 (([c0, c1, c2, c3].drop 2).take (Tryd.prog.cellsOf 3)) = some x2 := hff 2 _ rfl
  have h3 : DataW.trod enc Tryd.prog W base sp held n 3 (([c0, c1, c2, c3].drop 3).take (Tryd.prog.cellsOf 3)) = some x3 := hff 3 _ rfl
  rw [hc1] at h0 h1 h2 h3
  have r0 := spn_one h0 e0
  have r1 := spn_one h1 e1
  have r2 := spn_one h2 e2
  have r3 := spn_one h3 e3
  simp at r0 r1 r2 r3
  rw [r0, r1, r2, r3]
theorem five_of {α : Type} {l : List α} (h : l.length = 5) : ∃ a b c d e, l = [a, b, c, d, e] := by
  rcases l with _ | ⟨a, _ | ⟨b, _ | ⟨c, _ | ⟨d, _ | ⟨e, _ | ⟨f, l⟩⟩⟩⟩⟩⟩ <;> simp at h
  exact ⟨a, b, c, d, e, rfl⟩
theorem gSpan : Tryd.prog.globalNamed "foundry/subst.spans" = some 0 := by kernel_rfl
theorem gSpanType : (Tryd.prog.globals[0]?).map (·.type) = some 70 := by kernel_rfl
set_option maxRecDepth 100000 in
/-- What the row's list gives: the table. -/
theorem spn_of {W : World} (h : laidMet Tryd.prog [("foundry/subst.spans", Rows.laid_foundry_subst_spans)] W) : Spn W := by
  obtain ⟨ps, ⟨g', t', ⟨cs⟩, fuel, p, q, hg', ht', hvar, hd, _, _⟩, _⟩ := h
  obtain rfl := Option.some.inj (gSpan.symm.trans hg')
  obtain rfl := Option.some.inj (gSpanType.symm.trans ht')
  have hd2 : DataW.trod _ Tryd.prog W _ _ _ fuel 70 cs = some _ := hd
  obtain ⟨xs, m, _, hxx, hl, hlen, ht⟩ := DataW.trod_array Tryd.underlying70 hd2
  have hC : Tryd.prog.cellsOf 70 = 20 := by kernel_rfl
  have hc : Tryd.prog.cellsOf 69 = 4 := by kernel_rfl
  obtain ⟨x0, x1, x2, x3, x4, rfl⟩ := five_of hlen
  have hx := congrArg Prod.fst hxx
  simp only [Rows.laid_foundry_subst_spans, List.map_cons, List.map_nil, DataW.agg.injEq, List.cons.injEq, and_true] at hx
  obtain ⟨e0, e1, e2, e3, e4⟩ := hx
  have h0 := ht 0 (by decide)
  have h1 := ht 1 (by decide)
  have h2 := ht 2 (by decide)
  have h3 := ht 3 (by decide)
  have h4 := ht 4 (by decide)
  rw [hc] at h0 h1 h2 h3 h4
  have r0 := spn_four h0 e0.symm
  have r1 := spn_four h1 e1.symm
  have r2 := spn_four h2 e2.symm
  have r3 := spn_four h3 e3.symm
  have r4 := spn_four h4 e4.symm
  rw [hC] at hl
  have hall : cs = spN.map (fun (z : Nat) => Value.int .i64 (z : Int)) := by
    have hh : cs = ((cs.drop (0 * 4)).take 4) ++ (((cs.drop (1 * 4)).take 4) ++ (((cs.drop (2 * 4)).take 4) ++ (((cs.drop (3 * 4)).take 4) ++ ((cs.drop (4 * 4)).take 4)))) := by
      rw [List.take_of_length_le (l := cs.drop (4 * 4)) (by rw [List.length_drop]; omega)]
      have k3 : (cs.drop (3 * 4)).take 4 ++ cs.drop (4 * 4) = cs.drop (3 * 4) := by
        have := List.take_append_drop 4 (cs.drop (3 * 4))
        rwa [List.drop_drop] at this
      have k2 : (cs.drop (2 * 4)).take 4 ++ cs.drop (3 * 4) = cs.drop (2 * 4) := by
        have := List.take_append_drop 4 (cs.drop (2 * 4))
        rwa [List.drop_drop] at this
      have k1 : (cs.drop (1 * 4)).take 4 ++ cs.drop (2 * 4) = cs.drop (1 * 4) := by
        have := List.take_append_drop 4 (cs.drop (1 * 4))
        rwa [List.drop_drop] at this
      have k0 : (cs.drop (0 * 4)).take 4 ++ cs.drop (1 * 4) = cs := by
        simp
      rw [k3, k2, k1, k0]
    rw [hh, r0, r1, r2, r3, r4]
    rfl
  have hsz : 0 < W.heap.size := by
    unfold World.var? at hvar
    rw [gSpan] at hvar
    simp only [Option.bind_some] at hvar
    cases hb : W.heap[0]? with
    | none => rw [hb] at hvar; cases hvar
    | some o => exact (Array.getElem?_eq_some_iff.1 hb).1
  refine ⟨hsz, fun i hi => ?_⟩
  have h9 := World.var?_cell gSpan hvar i
  rw [hall] at h9
  rw [h9]
  have h20 : i < spN.length := hi
  simp [List.getD, h20]

end Go.Proofs.YtechkkefpigcaaaDoor

namespace Go.Proofs.YtechkkefpigcaaaDoor
set_option linter.unusedSimpArgs false
set_option linter.unusedVariables false

/-- SubstSplit's lookups. -/
def lsT (p q r : Int) : List Lk := [⟨2, false, [⟨[p], [q, r], 0, 0, (0, 0), (0, 0), (0, 0)⟩]⟩, ⟨3, false, [⟨[q, r], [p], 0, 0, (0, 0), (0, 0), (0, 0)⟩]⟩]
theorem lsT_fo {p q r : Int} (h1 : 0 ≤ p ∧ p < 65536) (h2 : 0 ≤ q ∧ q < 65536) (h3 : 0 ≤ r ∧ r < 65536) : foU (lsT p q r) 65536 = true := by
  have e1 : gyB 65536 p = true := gyB_iff.2 h1
  have e2 : gyB 65536 q = true := gyB_iff.2 h2
  have e3 : gyB 65536 r = true := gyB_iff.2 h3
  simp [foU, lsT, loB, puB, ruB, zsB, alB, e1, e2, e3]
def spT (p q r x : Int) : List Int := if x = p then [q, r] else [x]
theorem cons_at {A B : List Int} {x : Int} : (A ++ x :: B).getD A.length 0 = x := by simp [List.getD]
theorem cons_at1 {A B : List Int} {x : Int} : (A ++ x :: B).getD (A.length + 1) 0 = B.getD 0 0 := by rw [List.getD_eq_getElem?_getD, List.getElem?_append_right (by omega), show A.length + 1 - A.length = 1 by omega]; simp [List.getD]
theorem cons_cut {A B : List Int} {x : Int} : (A ++ x :: B).take A.length = A ∧ (A ++ x :: B).drop (A.length + 1) = B := by simp
theorem spT_du {p q r : Int} (A B : List Int) (x : Int) : duL (lsT p q r) [] 7 0 (A ++ x :: B) (A.length : Int) = A ++ spT p q r x ++ B ∧ goO (lsT p q r) [] 0 (A ++ x :: B) (A.length : Int) = ((A ++ spT p q r x).length : Int) := by
  have hi : A.length < (A ++ x :: B).length := by simp
  have hd : duF (lsT p q r) [] 7 0 (A ++ x :: B) (A.length : Int) = if x = p then some (puL (A ++ x :: B) (A.length : Int) ((A.length : Int) + 1) [q, r], (A.length : Int) + 2) else none := by
    rw [duF_eq, if_neg (by show ¬ (false && _) = true; rw [Bool.false_and]; decide)]
    show rsF _ 2 false [] (A ++ x :: B) (A.length : Int) [⟨[p], [q, r], 0, 0, (0, 0), (0, 0), (0, 0)⟩] = _
    rw [rsF, me_one hi, cons_at]
    by_cases h1 : x = p
    · rw [if_pos h1, if_pos h1]; rfl
    · rw [if_neg h1, if_neg h1]; rfl
  unfold goO duL duO duB spT
  rw [hd]
  by_cases h1 : x = p
  · rw [if_pos h1, if_pos h1]
    refine ⟨?_, ?_⟩
    · show puL (A ++ x :: B) (A.length : Int) ((A.length : Int) + 1) [q, r] = _
      rw [puL_one (by omega) (by omega), Int.toNat_natCast, cons_cut.1, cons_cut.2]
    · rw [if_neg (fun h => by
        rcases h with h | h
        · cases h
        · have := h.1; simp at this; omega)]
      show (A.length : Int) + 2 = _
      simp
  · rw [if_neg h1, if_neg h1, if_pos (.inl rfl)]
    refine ⟨?_, ?_⟩
    · show A ++ x :: B = _
      simp
    · simp
theorem spT_len {p q r : Int} (B : List Int) : B.length ≤ (B.flatMap (spT p q r)).length := by
  induction B with
  | nil => exact Nat.le_refl _
  | cons x B ih =>
    rw [List.flatMap_cons, List.length_append, List.length_cons]
    have : 1 ≤ (spT p q r x).length := by unfold spT; split <;> simp
    omega
theorem spT_li {p q r : Int} (h1 : 0 ≤ p ∧ p < 65536) (h2 : 0 ≤ q ∧ q < 65536) (h3 : 0 ≤ r ∧ r < 65536) : ∀ (B A : List Int), (A ++ B.flatMap (spT p q r)).length ≤ 100 → liQ (lsT p q r) [] 0 (A ++ B) (A.length : Int) = some (A ++ B.flatMap (spT p q r)) := by
  intro B
  induction B with
  | nil => intro A _; rw [List.append_nil, liQ_end (by omega) (by omega)]; simp
  | cons x B ih =>
    intro A hl
    obtain ⟨e1, e2⟩ := spT_du (p := p) (q := q) (r := r) A B x
    have hB := spT_len (p := p) (q := q) (r := r) B
    rw [List.flatMap_cons, ← List.append_assoc] at hl ⊢
    have hle : (A ++ spT p q r x ++ B).length ≤ 100 := by
      rw [List.length_append] at hl ⊢
      omega
    rw [liQ_on (lsT_fo h1 h2 h3) (show 0 < 2 by omega) (by rfl) (by omega) (by simp; omega) (by rw [e1]; omega), e1, e2]
    exact ih (A ++ spT p q r x) hl
/-- What is split is put together again. -/
theorem jnT_du {p q r : Int} (A B : List Int) : duL (lsT p q r) [] 7 1 (A ++ q :: r :: B) (A.length : Int) = A ++ [p] ++ B ∧ goO (lsT p q r) [] 1 (A ++ q :: r :: B) (A.length : Int) = ((A ++ [p]).length : Int) := by
  have hi : A.length < (A ++ q :: r :: B).length := by simp
  have hd : duF (lsT p q r) [] 7 1 (A ++ q :: r :: B) (A.length : Int) = some (puL (puL (A ++ q :: r :: B) ((A.length + 1 : Nat) : Int) (((A.length + 1 : Nat) : Int) + 1) []) (A.length : Int) ((A.length : Int) + 1) [p], (A.length : Int) + 1) := by
    rw [duF_eq, if_neg (by show ¬ (false && _) = true; rw [Bool.false_and]; decide)]
    show rsF _ 3 false [] (A ++ q :: r :: B) (A.length : Int) [⟨[q, r], [p], 0, 0, (0, 0), (0, 0), (0, 0)⟩] = _
    rw [rsF, me_two hi, if_pos ⟨cons_at, by simp, by rw [cons_at1]; rfl⟩]
    rfl
  have e0 : puL (A ++ q :: r :: B) ((A.length + 1 : Nat) : Int) (((A.length + 1 : Nat) : Int) + 1) [] = A ++ q :: B := by
    have e9 : A ++ q :: r :: B = (A ++ [q]) ++ r :: B := by simp
    have e8 : A.length + 1 = (A ++ [q]).length := by simp
    rw [e9, e8, puL_one (by omega) (by simp; omega), Int.toNat_natCast, cons_cut.1, cons_cut.2]
    simp
  have e1 : puL (A ++ q :: B) (A.length : Int) ((A.length : Int) + 1) [p] = A ++ [p] ++ B := by
    rw [puL_one (by omega) (by simp; omega), Int.toNat_natCast, cons_cut.1, cons_cut.2]
  rw [e0, e1] at hd
  unfold goO duL duO duB
  rw [hd]
  refine ⟨rfl, ?_⟩
  rw [if_neg (fun h => by
    rcases h with h | h
    · cases h
    · have := h.1; simp at this; omega)]
  show (A.length : Int) + 1 = _
  simp
theorem jnT_no {p q r : Int} (A B : List Int) {x : Int} (hx : x ≠ q) : duL (lsT p q r) [] 7 1 (A ++ x :: B) (A.length : Int) = A ++ x :: B ∧ goO (lsT p q r) [] 1 (A ++ x :: B) (A.length : Int) = ((A ++ [x]).length : Int) := by
  have hi : A.length < (A ++ x :: B).length := by simp
  have hd : duF (lsT p q r) [] 7 1 (A ++ x :: B) (A.length : Int) = none := by
    rw [duF_eq, if_neg (by show ¬ (false && _) = true; rw [Bool.false_and]; decide)]
    show rsF _ 3 false [] (A ++ x :: B) (A.length : Int) [⟨[q, r], [p], 0, 0, (0, 0), (0, 0), (0, 0)⟩] = _
    rw [rsF, me_two hi, if_neg (fun h => by have := h.1; rw [cons_at] at this; exact hx this)]
    rfl
  unfold goO duL duO duB
  rw [hd, if_pos (.inl rfl)]
  refine ⟨rfl, ?_⟩
  simp
theorem jnT_li {p q r : Int} (h1 : 0 ≤ p ∧ p < 65536) (h2 : 0 ≤ q ∧ q < 65536) (h3 : 0 ≤ r ∧ r < 65536) : ∀ (B A : List Int), (∀ x ∈ B, x ≠ q) → (A ++ B.flatMap (spT p q r)).length ≤ 100 → liQ (lsT p q r) [] 1 (A ++ B.flatMap (spT p q r)) (A.length : Int) = some (A ++ B) := by
  intro B
  induction B with
  | nil =>
    intro A _ _
    have e : A ++ ([] : List Int).flatMap (spT p q r) = A := by simp
    rw [e, liQ_end (by omega) (by omega)]
    simp
  | cons x B ih =>
    intro A hq hl
    have hq2 : ∀ y ∈ B, y ≠ q := fun y hy => hq y (List.mem_cons_of_mem _ hy)
    rw [List.flatMap_cons] at hl ⊢
    by_cases hx : x = p
    · have e : spT p q r x = [q, r] := if_pos hx
      rw [e] at hl ⊢
      have e0 : A ++ ([q, r] ++ B.flatMap (spT p q r)) = A ++ q :: r :: B.flatMap (spT p q r) := rfl
      rw [e0] at hl ⊢
      obtain ⟨e1, e2⟩ := jnT_du (p := p) (q := q) (r := r) A (B.flatMap (spT p q r))
      have hle : (A ++ [p] ++ B.flatMap (spT p q r)).length ≤ 100 := by simp at hl ⊢; omega
      rw [liQ_on (lsT_fo h1 h2 h3) (show 1 < 2 by omega) (by rfl) (by omega) (by simp; omega) (by rw [e1]; omega), e1, e2, ih (A ++ [p]) hq2 hle, hx]
      simp
    · have e : spT p q r x = [x] := if_neg hx
      rw [e] at hl ⊢
      have e0 : A ++ ([x] ++ B.flatMap (spT p q r)) = A ++ x :: B.flatMap (spT p q r) := rfl
      rw [e0] at hl ⊢
      obtain ⟨e1, e2⟩ := jnT_no (p := p) (q := q) (r := r) A (B.flatMap (spT p q r)) (hq x (List.mem_cons_self ..))
      have e3 : A ++ x :: B.flatMap (spT p q r) = A ++ [x] ++ B.flatMap (spT p q r) := by simp
      have hle : (A ++ [x] ++ B.flatMap (spT p q r)).length ≤ 100 := by simp at hl ⊢; omega
      rw [liQ_on (lsT_fo h1 h2 h3) (show 1 < 2 by omega) (by rfl) (by omega) (by simp; omega) (by rw [e1]; omega), e1, e2, e3, ih (A ++ [x]) hq2 hle]
      simp
/-- How long what is split comes to be. -/
theorem spT_count {p q r : Int} (B : List Int) : (B.flatMap (spT p q r)).length = B.length + (B.filter (fun x => x == p)).length := by
  induction B with
  | nil => rfl
  | cons x B ih =>
    rw [List.flatMap_cons, List.length_append, ih, List.filter_cons, List.length_cons]
    unfold spT
    by_cases h : x = p
    · rw [if_pos h, h]; simp; omega
    · rw [if_neg h]; simp [h]; omega

/-- SubstNest's lookups. -/
def lsN (n : Nat) : List Lk := (List.range n).map (fun (i : Nat) => (⟨4, false, [⟨[1], [], 0, ((i + 1 : Nat) : Int), (0, 0), (0, 0), (0, 0)⟩]⟩ : Lk)) ++ [⟨1, false, [⟨[1], [2], 0, 0, (0, 0), (0, 0), (0, 0)⟩]⟩]
theorem lsN_fo : ∀ n, n < 9 → foU (lsN n) 65536 = true := by decide +kernel
theorem lsN_li : ∀ n, n < 9 → liQ (lsN n) [] 0 [1, 1] 0 = some (if 8 ≤ n then [1, 1] else [2, 2]) := by decide +kernel

end Go.Proofs.YtechkkefpigcaaaDoor

namespace Go.Proofs.YtechkkefpigcaaaDoor
open Go.RowKit Go.Maps
set_option linter.unusedSimpArgs false
set_option linter.unusedVariables false

/-- One lookup behind the other: the first error, the line. -/
def alP (l : List Lk) (ms : List Bool) : List Int → List Int → Int × List Int
  | [], X => (0, X)
  | k :: t, X => if liE l ms k X = 0 then alP l ms t (liL l ms k X) else (liE l ms k X, [])
theorem alP_on {l : List Lk} {ms : List Bool} {ks X : List Int} {r : Nat} (hr : r < ks.length) (h : liE l ms (ks.getD r 0) X = 0) : alP l ms (ks.drop r) X = alP l ms (ks.drop (r + 1)) (liL l ms (ks.getD r 0) X) := by
  rw [List.getD_eq_getElem?_getD, List.getElem?_eq_getElem hr, Option.getD_some] at h ⊢
  rw [List.drop_eq_getElem_cons hr, alP, if_pos h]
theorem alP_off {l : List Lk} {ms : List Bool} {ks X : List Int} {r : Nat} (hr : r < ks.length) (h : ¬ liE l ms (ks.getD r 0) X = 0) : alP l ms (ks.drop r) X = (liE l ms (ks.getD r 0) X, []) := by
  rw [List.getD_eq_getElem?_getD, List.getElem?_eq_getElem hr, Option.getD_some] at h ⊢
  rw [List.drop_eq_getElem_cons hr, alP, if_neg h]
theorem alP_end {l : List Lk} {ms : List Bool} {ks X : List Int} : alP l ms (ks.drop ks.length) X = (0, X) := by rw [List.drop_length]; rfl
theorem li_len {l : List Lk} {ms : List Bool} {k : Int} {L : List Int} (h : liE l ms k L = 0) : L.length ≤ 100 := by
  unfold liE at h
  cases hf : foU l 65536 with
  | false => rw [hf] at h; cases h
  | true =>
    rw [hf, if_pos rfl] at h
    by_cases h1 : 100 < L.length
    · rw [if_pos h1] at h; cases h
    · omega
theorem liF_le {l : List Lk} {ms : List Bool} {k : Nat} : ∀ (n : Nat) (L : List Int) (i : Int) (X : List Int), L.length ≤ 100 → liF l ms k n L i = some X → X.length ≤ 100 := by
  intro n
  induction n with
  | zero => intro L i X hL h; rw [liF] at h; injection h with h; rw [← h]; exact hL
  | succ n ih =>
    intro L i X hL h
    rw [liF] at h
    by_cases hi : i < (L.length : Int)
    · rw [if_pos hi] at h
      by_cases hl : 100 < (duL l ms 7 k L i).length
      · rw [if_pos hl] at h; cases h
      · rw [if_neg hl] at h
        exact ih _ _ X (by omega) h
    · rw [if_neg hi] at h; injection h with h; rw [← h]; exact hL
theorem li_le {l : List Lk} {ms : List Bool} {k : Int} {L : List Int} (h : liE l ms k L = 0) : (liL l ms k L).length ≤ 100 := by
  have hL := li_len h
  unfold liL
  split
  · split
    · simp
    · split
      · split
        · cases hq : liQ l ms k.toNat L 0 with
          | none => simp
          | some X => exact liF_le _ _ _ X hL hq
        · exact hL
      · simp
  · simp
/-- What All answers. -/
structure AlA (l : List Lk) (ms : List Bool) (ks L : List Int) (w' : World) (e : Ending) : Prop where
  out : ∃ a c, e = .returned (.tuple #[.slice a (alP l ms ks L).2.length c, .int .i64 (alP l ms ks L).1]) ∧ Gr El.int (fun _ => True) w' a c (alP l ms ks L).2
theorem AlA.yes {l : List Lk} {ms : List Bool} {ks L X : List Int} {e : Int} {w' : World} (h : alP l ms ks L = (e, X)) {a : Option Addr} {c : Nat} (hg : Gr El.int (fun _ => True) w' a c X) : AlA l ms ks L w' (.returned (.tuple #[.slice a X.length c, .int .i64 e])) := by
  refine ⟨a, c, ?_, ?_⟩
  · rw [h]
  · rw [h]; exact hg

set_option maxHeartbeats 4000000 in
set_option maxRecDepth 100000 in
theorem callU_any (l : List Lk) (ms : List Bool) (Sl Sm S : Nat → Prop) (la : Option Addr) (lc : Nat) (mb : Option Addr) (mc : Nat) (ka : Option Addr) (kc : Nat) (ks : List Int) (a : Option Addr) (ca : Nat) (L : List Int) (w : World)
    (hl : Gr LkE Sl w la lc l) (hms : Gr El.bool Sm w mb mc ms) (hk : Ri w ka kc ks) (hL : Gr El.int S w a ca L) (hle : L.length ≤ 200) (hT : Spn w) :
    Calls Tryd.prog 14 #[.slice la l.length lc, .slice ka ks.length kc, .slice mb ms.length mc, .slice a L.length ca] w fun e w' => AlA l ms ks L w' e ∧ Below w.heap.size w w' := by
  have kl := hL.lenB
  have kk := hk.lenB
  have hcl := ccloneI_any S a ca L w hL (by omega)
  have HK : Hid (Ri w ka kc ks) := hk
  have HLI : Hid (∀ U, Below w.heap.size w U → ∀ (k : Int) xa xc X, I64 k → Gr El.int (fun _ => True) U xa xc X → X.length ≤ 200 → Calls Tryd.prog 18 #[.slice la l.length lc, .int .i64 k, .slice mb ms.length mc, .slice xa X.length xc] U fun e w' => LiA l ms k X w' e ∧ Below U.heap.size U w') := fun U hU k xa xc X hk hX hXl => clineU_any l ms Sl Sm (fun _ => True) la lc mb mc k xa xc X U (hl.below hU) (hms.below hU) hX hk hXl (hT.below hU)
  clear hl hms hk hL hT
  go_enter Tryd.func14, Tryd.ntmps14
  go_wp2_with fail
  refine hcl.mono ?_
  rintro e u ⟨⟨v, rfl, hv⟩, hbu⟩
  obtain ⟨va, vc, rfl, hvg⟩ := hv.io.grL (S := fun _ => True)
  clear hcl hv
  go_wp2
  go_loopw [3, 18] (fun vl vi wr => ∃ (X : List Int) (xa : Option Addr) (xc : Nat) (r : Nat), vl = .slice xa X.length xc ∧ vi = .int .i64 r ∧ r ≤ ks.length ∧ Hid (Gr El.int (fun _ => True) wr xa xc X) ∧ X.length ≤ 200 ∧ Hid (alP l ms ks L = alP l ms (ks.drop r) X) ∧ Below w.heap.size w wr) (fun _ vi _ => ks.length - (intOf vi).toNat)
  case atStart => exact ⟨L, va, vc, 0, rfl, rfl, Nat.zero_le _, hvg, hle, rfl, hbu⟩
  case round =>
    clear hvg hbu
    obtain ⟨X, xa, xc, r, rfl, rfl, hr, HG, hX, HQ, hB⟩ := hrel
    by_cases hrn : r < ks.length
    · obtain ⟨kb, ko, rfl, hkb, c0⟩ := HK.out.at hB r hrn
      have hkr := HK.out.i64 hrn
      have HON : Hid (liE l ms (ks.getD r 0) X = 0 → alP l ms ks L = alP l ms (ks.drop (r + 1)) (liL l ms (ks.getD r 0) X)) := fun h => by rw [HQ.out, alP_on hrn h]
      have HOF : Hid (¬ liE l ms (ks.getD r 0) X = 0 → alP l ms ks L = (liE l ms (ks.getD r 0) X, [])) := fun h => by rw [HQ.out, alP_off hrn h]
      have HLE : Hid (liE l ms (ks.getD r 0) X = 0 → (liL l ms (ks.getD r 0) X).length ≤ 100) := li_le
      have hli := HLI.out wr hB (ks.getD r 0) xa xc X hkr HG.out hX
      obtain ⟨k, hk⟩ : ∃ k, ks.getD r 0 = k := ⟨_, rfl⟩
      rw [hk] at hli HON HOF HLE c0
      have i1 : (0 : Int) ≤ (r : Int) := by omega
      have i2 : (r : Int) < (ks.length : Int) := by omega
      clear HG HQ hk hkr
      go_wp2_with fail
      refine hli.mono ?_
      rintro e u2 ⟨⟨oa, oc, rfl, hgr⟩, hb2⟩
      have hfin := hB.trans (hb2.mono hB.size)
      generalize liL l ms k X = o at hgr HON HLE
      generalize liE l ms k X = ee at HON HOF HLE
      have HGR : Hid (Gr El.int (fun _ => True) u2 oa oc o) := hgr
      clear hli hgr hb2 c0 hB
      by_cases he : ee = 0
      · subst he
        have HQ2 : Hid (alP l ms ks L = alP l ms (ks.drop (r + 1)) o) := HON.out rfl
        have hol := HLE.out rfl
        clear HON HOF HLE
        go_wp2
        go_roundw
        case rel => exact ⟨o, oa, oc, r + 1, rfl, by go_num, by omega, HGR, by omega, HQ2, hfin⟩
        case measure => simp [intOf]; omega
      · have HV : Hid (AlA l ms ks L u2 (.returned (.tuple #[.slice none 0 0, .int .i64 ee]))) := AlA.yes (X := []) (HOF.out he) (Gr.nil _ _ _ _ _ (Nat.zero_le _) (fun _ => rfl))
        have g1 : (ee != 0) = true := bne_iff_ne.2 he
        clear HON HOF HLE he
        go_wp2
        go_ret2
        exact ⟨HV.out, hfin⟩
    · have HV : Hid (AlA l ms ks L wr (.returned (.tuple #[.slice xa X.length xc, .int .i64 0]))) := AlA.yes (by rw [HQ.out, show r = ks.length by omega]; exact alP_end) HG.out
      have g4 : ¬ (r : Int) < (ks.length : Int) := by omega
      clear HG HQ
      go_wp2
      go_ret2
      exact ⟨HV.out, hB⟩

end Go.Proofs.YtechkkefpigcaaaDoor
