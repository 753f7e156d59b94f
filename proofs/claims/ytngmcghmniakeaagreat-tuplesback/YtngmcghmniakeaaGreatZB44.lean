/-
  What a law is told of a slice of bytes, or of int32, that came in.
  What a law is told of things that came in, one for all (Opens).
  What a law is told of an outline that came in.
  Rows of int16 that are read.
  What a law of layer 13 is told of what came in: rows of ints, int16 and bools; structs of them.
-/
import Derived.Test.YtngmcghmniakeaaGreatZB9
import Derived.ProofKit
import Derived.Test.YtngmcghmniakeaaGreatZB12
import Derived.Deep.Strs
import Derived.OpenShut
import Derived.SizedLaws
import Derived.Lib.SmallJoins
import Derived.Test.YtngmcghmniakeaaGreatZB18
import Derived.Test.YtngmcghmniakeaaGreatZB20
namespace Go.Proofs.YtngmcghmniakeaaGreat
open Go.RowKit
set_option linter.unusedSimpArgs false
set_option linter.unusedVariables false

/-- A slice of integers that came in: it is nil; or it leads to a row of 'cap' cells, the numbers 'zs' (the first 'len' are its elements), each fitting its kind. -/
def IsRowK (k : IntKind) (w : World) (a : Option Addr) (len cap : Nat) (zs : List Int) : Prop :=
  (a = none ∧ len = 0 ∧ cap = 0 ∧ zs = []) ∨
  ∃ x, a = some x ∧ len ≤ cap ∧ cap ≤ maxLen ∧ zs.length = cap ∧ (∀ i, i < zs.length → w.cell? (x.add i) = some (.int k (zs.getD i 0))) ∧ ∀ n ∈ zs, (Lit.int k n).wf = true

theorem wfo_u8_bounds {n : Int} (h : (Lit.int .u8 n).wf = true) : 0 ≤ n ∧ n < 256 := by
  simp [Lit.wf, IntKind.min, IntKind.max, IntKind.bits, IntKind.signed] at h
  omega
theorem wfo_i64_bounds {n : Int} (h : (Lit.int .i64 n).wf = true) : -9223372036854775808 ≤ n ∧ n ≤ 9223372036854775807 := by
  simp [Lit.wf, IntKind.min, IntKind.max, IntKind.bits, IntKind.signed] at h
  omega

theorem IsRowK.cells {k : IntKind} {w : World} {a : Option Addr} {len cap : Nat} {zs : List Int} (h : IsRowK k w a len cap zs) :
    ∃ ys : List Int, len = ys.length ∧ (∀ y ∈ ys, (Lit.int k y).wf = true) ∧ ys.length ≤ cap ∧ cap ≤ maxLen ∧ (a = none → cap = 0) ∧
      (ys = [] ∨ ∃ b off, a = some ⟨b, off, none⟩ ∧ b < w.heap.size ∧ ∀ i, i < ys.length → w.cell? ⟨b, off + i, none⟩ = some (.int k (ys.getD i 0))) := by
  rcases h with ⟨rfl, rfl, rfl, rfl⟩ | ⟨x, rfl, h1, h2, h3, hc, hw⟩
  · exact ⟨[], rfl, (fun y hy => by cases hy), Nat.le_refl _, Nat.zero_le _, fun _ => rfl, .inl rfl⟩
  · refine ⟨zs.take len, by simp; omega, fun y hy => hw y (List.mem_of_mem_take hy), by simp; omega, h2, (by simp), ?_⟩
    by_cases h0 : len = 0
    · exact .inl (by simp [h0])
    · obtain ⟨b, off, spot⟩ := x
      have c0 := hc 0 (by omega)
      have hspot : spot = none := by simpa [Addr.add] using World.cell?_spot c0
      subst hspot
      refine .inr ⟨b, off, rfl, ?_, fun i hi => ?_⟩
      · have := World.block_lt_of_cell? w _ c0
        simpa [Addr.add] using this
      · simp at hi
        have hadd : (⟨b, off, none⟩ : Addr).add i = ⟨b, off + i, none⟩ := by unfold Addr.add; split <;> simp_all
        have hci := hc i (by omega)
        rw [hadd] at hci
        rw [hci]
        simp [List.getD, show i < len by omega]

theorem IsRowK.rb {w : World} {a : Option Addr} {len cap : Nat} {zs : List Int} (h : IsRowK .u8 w a len cap zs) : ∃ xs : List Nat, len = xs.length ∧ Rb w a cap xs := by
  obtain ⟨ys, h1, h2, h3, h4, h5, h6⟩ := h.cells
  have hb : ∀ y ∈ ys, 0 ≤ y ∧ y < 256 := fun y hy => wfo_u8_bounds (h2 y hy)
  refine ⟨ys.map Int.toNat, by simp [h1], ?_, by simpa using h3, h4, h5, ?_⟩
  · intro x hx
    obtain ⟨y, hy, rfl⟩ := List.mem_map.1 hx
    have := hb y hy
    omega
  · rcases h6 with rfl | ⟨b, off, e, hlt, hc⟩
    · exact .inl rfl
    · refine .inr ⟨b, off, e, hlt, fun i hi => ?_⟩
      simp at hi
      rw [hc i hi]
      have h0 : ys.getD i 0 = ys[i] := by simp [List.getD, hi]
      have hy := hb ys[i] (List.getElem_mem hi)
      rw [h0]
      simp [List.getD, hi]
      omega

end Go.Proofs.YtngmcghmniakeaaGreat

namespace Go.Proofs.YtngmcghmniakeaaGreat
open Go.RowKit
open Go.ChangeShapes Go.WideShapes Go.Joins Go.Deep
set_option linter.unusedSimpArgs false
set_option linter.unusedVariables false

/-- What came in as data of a type lies as such a thing. -/
def Opens {α : Type} (E : El α) (t : TypeId) : Prop :=
  Tryz.prog.cellsOf t = E.sz ∧ ∀ (H : Type) (enc : TypeId × Value → H) (W : World) (held : Bool) (fuel : Nat) (cs : List Value) (x : DataW H × List MemPlace),
    DataW.trod enc Tryz.prog W 0 (fun _ => true) held fuel t cs = some x → (∀ n ∈ x.1.weights Tryz.prog t, n ≤ reachBytes) → ∃ y : α, E.rep (fun k => k < W.heap.size) W cs y
theorem Opens.num {t : TypeId} {k : IntKind} {lo hi : Int} (ht : Tryz.prog.underlying t = some (.int k)) (hc : Tryz.prog.cellsOf t = 1) (hb : ∀ z, (Lit.int k z).wf = true → lo ≤ z ∧ z ≤ hi) : Opens (El.num k lo hi) t :=
  ⟨hc, fun H enc W held fuel cs x h hz => by
    obtain ⟨z, e, _, hw⟩ := DataW.trod_int ht h
    exact ⟨z, e, hb z hw⟩⟩
theorem Opens.int {t : TypeId} (ht : Tryz.prog.underlying t = some (.int .i64)) (hc : Tryz.prog.cellsOf t = 1) : Opens El.int t := Opens.num ht hc (fun z hw => wfo_i64_bounds hw)
theorem Opens.bool {t : TypeId} (ht : Tryz.prog.underlying t = some .bool) (hc : Tryz.prog.cellsOf t = 1) : Opens El.bool t :=
  ⟨hc, fun H enc W held fuel cs x h hz => by
    obtain ⟨z, e, _⟩ := DataW.trod_bool ht h
    exact ⟨z, e⟩⟩
theorem Opens.str {t : TypeId} (ht : Tryz.prog.underlying t = some .string) (hc : Tryz.prog.cellsOf t = 1) : Opens El.str t :=
  ⟨hc, fun H enc W held fuel cs x h hz => by
    obtain ⟨z, e, _, hw⟩ := DataW.trod_string ht h
    exact ⟨z, e, hw⟩⟩
theorem Opens.via {α β : Type} {E : El α} {t : TypeId} (h : Opens E t) {f : β → α} {d : β} (hf : ∀ x, ∃ y, f y = x) : Opens (E.via f d) t :=
  ⟨h.1, fun H enc W held fuel cs x h1 hz => by
    obtain ⟨z, hz⟩ := h.2 H enc W held fuel cs x h1 hz
    obtain ⟨y, rfl⟩ := hf z
    exact ⟨y, hz⟩⟩
theorem list_of_ltG {α : Type} {d : α} {p : Nat → α → Prop} : ∀ n, (∀ i, i < n → ∃ o, p i o) → ∃ os : List α, os.length = n ∧ ∀ i, i < n → p i (os.getD i d) := by
  intro n
  induction n with
  | zero => exact fun _ => ⟨[], rfl, fun i hi => by omega⟩
  | succ n ih =>
    intro h
    obtain ⟨os, hl, ho⟩ := ih (fun i hi => h i (by omega))
    obtain ⟨o, h1⟩ := h n (by omega)
    refine ⟨os ++ [o], by simp [hl], fun i hi => ?_⟩
    by_cases hi' : i < n
    · have e : (os ++ [o]).getD i d = os.getD i d := by simp [List.getD, List.getElem?_append_left (show i < os.length by omega)]
      rw [e]
      exact ho i hi'
    · have e : i = n := by omega
      subst e
      have e : (os ++ [o]).getD i d = o := by simp [List.getD, ← hl]
      rw [e]
      exact h1
theorem weights_all {H : Type} {P : Program} {e : TypeId} {d : DataW H} : ∀ {l : List (DataW H)}, d ∈ l → ∀ {n : Nat}, n ∈ d.weights P e → n ∈ DataW.weightsAll P e l
  | c :: l, h, n, hn => by
    rw [DataW.weightsAll, List.mem_append]
    rcases List.mem_cons.1 h with h | h
    · exact .inl (by rw [← h]; exact hn)
    · exact .inr (weights_all h hn)
theorem Opens.row {α : Type} {E : El α} {t e : TypeId} (h : Opens E e) (ht : Tryz.prog.underlying t = some (.slice e)) (hc : Tryz.prog.cellsOf t = 1) (hsz : 0 < E.sz) (hby : 1 ≤ Tryz.prog.bytesOf e) : Opens E.row t :=
  ⟨hc, fun H enc W held fuel cs x hf hz => by
    rcases open_slice ht hf with ⟨hcs, _⟩ | ⟨ad, len, cap, m, n, D, Pl, hcs, _, hl, hm, hmm, hx, hel⟩
    · exact ⟨[], none, 0, hcs, (fun b o e1 => by cases e1), Gr.nil _ _ _ _ _ (Nat.zero_le _) (fun _ => rfl), Nat.zero_le _⟩
    · have hle : len ≤ m := by rw [hmm]; split <;> omega
      subst hx
      have hzm : ∀ i, i < len → ∀ k ∈ (D i).weights Tryz.prog e, k ≤ reachBytes := by
        intro i hi k hk
        refine hz k ?_
        simp only [DataW.weights, ht, List.mem_cons, List.mem_append]
        exact .inr (.inl (weights_all (List.mem_map.2 ⟨i, List.mem_range.2 hi, rfl⟩) hk))
      have hzl : len ≤ 140737488351232 := by
        have h1 := hz ((((List.range len).map D).length + ((List.range (m - len)).map fun j => D (len + j)).length) * Tryz.prog.bytesOf e) (by simp only [DataW.weights, ht]; exact List.mem_cons_self)
        rw [List.length_map, List.length_map, List.length_range, List.length_range] at h1
        have h2 : (len + (m - len)) * 1 ≤ (len + (m - len)) * Tryz.prog.bytesOf e := Nat.mul_le_mul_left _ hby
        have h3 : reachBytes = 140737488351232 := rfl
        omega
      have hone : ∀ i, i < len → ∃ o : α, ∃ vs, E.rep (fun k => k < W.heap.size) W vs o ∧ ∀ j, j < E.sz → W.cell? ((ad.add (i * E.sz)).add j) = vs[j]? := by
        intro i hi
        obtain ⟨cs', hc', ht'⟩ := hel i (by omega)
        rw [h.1] at hc'
        obtain ⟨hlen, _, hcell⟩ := World.cells?_some hc'
        obtain ⟨o, ho⟩ := h.2 H enc W held n cs' _ ht' (hzm i hi)
        refine ⟨o, cs', ho, fun j hj => ?_⟩
        have := hcell j (by omega)
        rw [this, List.getElem?_eq_getElem (by omega)]
      obtain ⟨os, hol, ho⟩ := list_of_ltG (d := E.dfl) len hone
      have key : ∀ i, i < len → ∃ b off vs, ad = ⟨b, off, none⟩ ∧ b < W.heap.size ∧ E.rep (fun k => k < W.heap.size) W vs (os.getD i E.dfl) ∧ ∀ j, j < E.sz → W.cell? ⟨b, off + i * E.sz + j, none⟩ = vs[j]? := by
        intro i hi
        obtain ⟨vs, h1, h2⟩ := ho i hi
        obtain ⟨b, off, spot⟩ := ad
        have h0 := h2 0 hsz
        have hv : 0 < vs.length := by rw [E.len h1]; exact hsz
        rw [List.getElem?_eq_getElem hv] at h0
        have hspot : spot = none := by
          obtain ⟨vs', h1', h2'⟩ := ho 0 (by omega)
          have h0' := h2' 0 hsz
          rw [List.getElem?_eq_getElem (by rw [E.len h1']; exact hsz)] at h0'
          have := World.cell?_spot h0'
          simpa [Addr.add] using this
        subst hspot
        have hadd : ∀ i, (⟨b, off, none⟩ : Addr).add i = ⟨b, off + i, none⟩ := by intro i; unfold Addr.add; split <;> simp_all
        have hadd2 : ∀ i j, ((⟨b, off, none⟩ : Addr).add i).add j = ⟨b, off + i + j, none⟩ := by intro i j; rw [hadd]; unfold Addr.add; split <;> simp_all
        have hlt := World.block_lt_of_cell? W _ h0
        rw [hadd2] at hlt
        exact ⟨b, off, vs, rfl, hlt, h1, fun j hj => by rw [← hadd2]; exact h2 j hj⟩
      refine ⟨os, some ad, cap, by rw [hcs, hol], fun b o e1 hne => ?_, ⟨by omega, hm, (fun e => by cases e), fun i hi => ?_⟩, by rw [hol]; exact hzl⟩
      · obtain ⟨b', off', _, e2, hb', _⟩ := key 0 (by have := List.length_pos_iff.2 hne; omega)
        rw [e2] at e1
        cases e1
        exact hb'
      · obtain ⟨b, off, vs, e2, hb, h1, h2⟩ := key i (by omega)
        exact ⟨b, off, vs, by rw [e2], hb, h1, h2⟩⟩
/-- Fields, one behind the other. -/
def OpensF {α : Type} (E : El α) (fs : List Field) (off : Nat) : Prop :=
  ∀ (H : Type) (enc : TypeId × Value → H) (W : World) (held : Bool) (n : Nat) (cs : List Value), (∀ f ∈ fs, ∃ y, DataW.trod enc Tryz.prog W 0 (fun _ => true) held n f.type ((cs.drop f.offset).take (Tryz.prog.cellsOf f.type)) = some y ∧ ∀ k ∈ y.1.weights Tryz.prog f.type, k ≤ reachBytes) →
    ∃ x : α, E.rep (fun k => k < W.heap.size) W ((cs.drop off).take E.sz) x
theorem OpensF.last {α : Type} {E : El α} {f : Field} {off : Nat} (h : Opens E f.type) (ho : f.offset = off) : OpensF E [f] off := by
  intro H enc W held n cs hy
  obtain ⟨y, hy, hz⟩ := hy f (by simp)
  rw [h.1, ho] at hy
  exact h.2 H enc W held n _ y hy hz
theorem OpensF.more {α β : Type} {E : El α} {F : El β} {f : Field} {fs : List Field} {off : Nat} (h : Opens E f.type) (ho : f.offset = off) (hs : OpensF F fs (off + E.sz)) : OpensF (E.cat F) (f :: fs) off := by
  intro H enc W held n cs hy
  obtain ⟨y, hy0, hz0⟩ := hy f (by simp)
  rw [h.1, ho] at hy0
  obtain ⟨x, hx⟩ := h.2 H enc W held n _ y hy0 hz0
  obtain ⟨z, hz⟩ := hs H enc W held n cs (fun g hg => hy g (by simp [hg]))
  refine ⟨(x, z), (cs.drop off).take E.sz, (cs.drop (off + E.sz)).take F.sz, ?_, hx, hz⟩
  show (cs.drop off).take (E.sz + F.sz) = _
  rw [List.take_add, List.drop_drop]
theorem Opens.struct {α : Type} {E : El α} {t : TypeId} {fs : Array Field} (ht : Tryz.prog.underlying t = some (.struct fs)) (hc : Tryz.prog.cellsOf t = E.sz) (h : OpensF E fs.toList 0) : Opens E t :=
  ⟨hc, fun H enc W held fuel cs x hf hz => by
    obtain ⟨xs, n, _, hx, hl, hlen, hff⟩ := DataW.trod_struct ht hf
    subst hx
    obtain ⟨y, hy⟩ := h H enc W held n cs (fun f hf' => by
      obtain ⟨i, hi, e⟩ := List.getElem_of_mem hf'
      have := hff i f (by rw [← e]; simp)
      have hix : i < xs.length := by simpa [hlen] using hi
      rw [this]
      refine ⟨xs[i]'hix, by rw [List.getElem?_eq_getElem], fun k hk => hz k ?_⟩
      simp only [DataW.weights, ht]
      refine DataW.weights_mem_each (j := i) (t := f.type) (d := (xs[i]'hix).1) ?_ ?_ k hk
      · rw [List.getElem?_map, List.getElem?_eq_getElem hi, e]
        rfl
      · rw [List.getElem?_map, List.getElem?_eq_getElem hix]
        rfl)
    rw [List.drop_zero, List.take_of_length_le (by rw [hl, hc]; exact Nat.le_refl _)] at hy
    exact ⟨y, hy⟩⟩
set_option maxRecDepth 100000 in
/-- A struct by value. -/
theorem Opens.agg {α : Type} {E : El α} {t : TypeId} (h : Opens E t) {fs : Array Field} (ht : Tryz.prog.underlying t = some (.struct fs)) {H : Type} {enc : TypeId × Value → H} {W : World} {held : Bool} {r : Reach} {b0 : Nat} {v : Value} {d : DataW H} {p : List MemPlace}
    (hv : Value.okWide Tryz.prog W r b0 t v) (hd : DataW.Trod enc Tryz.prog W 0 (fun _ => true) held t v d p) (hz : ∀ n ∈ d.weights Tryz.prog t, n ≤ reachBytes) : ∃ (cs : Array Value) (y : α), v = .agg cs ∧ E.rep (fun k => k < W.heap.size) W cs.toList y := by
  obtain ⟨cs, rfl, hsz⟩ := okWide_struct ht hv
  obtain ⟨fuel, hf⟩ := hd
  obtain ⟨y, hy⟩ := h.2 H enc W held fuel _ _ hf hz
  exact ⟨cs, y, rfl, by simpa [Value.cells] using hy⟩
set_option maxRecDepth 100000 in
/-- Anything of one cell. -/
theorem Opens.cell {α : Type} {E : El α} {t : TypeId} (h : Opens E t) {H : Type} {enc : TypeId × Value → H} {W : World} {held : Bool} {v : Value} {d : DataW H} {p : List MemPlace}
    (hd : DataW.Trod enc Tryz.prog W 0 (fun _ => true) held t v d p) (hz : ∀ n ∈ d.weights Tryz.prog t, n ≤ reachBytes) (hone : v.cells = #[v]) : ∃ y : α, E.rep (fun k => k < W.heap.size) W [v] y := by
  obtain ⟨fuel, hf⟩ := hd
  obtain ⟨y, hy⟩ := h.2 H enc W held fuel _ _ hf hz
  exact ⟨y, by simpa [hone] using hy⟩

end Go.Proofs.YtngmcghmniakeaaGreat

namespace Go.Proofs.YtngmcghmniakeaaGreat
open Go.RowKit
open Go.ChangeShapes Go.WideShapes Go.Joins Go.Deep
set_option linter.unusedSimpArgs false
set_option linter.unusedVariables false

theorem opens_int : Opens El.int 3 := Opens.int Tryz.underlying3 (by kernel_rfl)
theorem opens_bool : Opens El.bool 4 := Opens.bool Tryz.underlying4 (by kernel_rfl)
theorem opens_pn : Opens PnE 54 :=
  (Opens.struct (E := El.int.cat (El.int.cat El.bool)) Tryz.underlying54 (by kernel_rfl) (OpensF.more opens_int rfl (OpensF.more opens_int rfl (OpensF.last opens_bool rfl)))).via (fun x => ⟨⟨x.1, x.2.1, x.2.2⟩, rfl⟩)
theorem opens_pa : Opens PaE 91 :=
  (Opens.struct (E := El.int.cat (El.int.cat El.int)) Tryz.underlying91 (by kernel_rfl) (OpensF.more opens_int rfl (OpensF.more opens_int rfl (OpensF.last opens_int rfl)))).via (fun x => ⟨⟨x.1, x.2.1, x.2.2⟩, rfl⟩)
theorem opens_pns : Opens PnE.row 55 := Opens.row opens_pn Tryz.underlying55 (by kernel_rfl) (by decide) (of_decide_eq_true (by kernel_rfl))
theorem opens_pnss : Opens PnE.row.row 22 := Opens.row opens_pns Tryz.underlying22 (by kernel_rfl) Nat.one_pos (of_decide_eq_true (by kernel_rfl))
theorem opens_pas : Opens PaE.row 23 := Opens.row opens_pa Tryz.underlying23 (by kernel_rfl) (by decide) (of_decide_eq_true (by kernel_rfl))
theorem opens_outline : Opens (PnE.row.row.cat PaE.row) 25 :=
  Opens.struct Tryz.underlying25 (by kernel_rfl) (OpensF.more opens_pnss rfl (OpensF.last opens_pas rfl))
end Go.Proofs.YtngmcghmniakeaaGreat

namespace Go.Proofs.YtngmcghmniakeaaGreat
open Go.RowKit Go.Maps
set_option linter.unusedSimpArgs false
set_option linter.unusedVariables false

def Rh (w : World) (a : Option Addr) (cap : Nat) (zs : List Int) : Prop :=
  (∀ z ∈ zs, -32768 ≤ z ∧ z ≤ 32767) ∧ zs.length ≤ cap ∧ cap ≤ maxLen ∧
  (zs = [] ∨ ∃ b off, a = some ⟨b, off, none⟩ ∧ b < w.heap.size ∧ ∀ i, i < zs.length → w.cell? ⟨b, off + i, none⟩ = some (.int .i16 (zs.getD i 0)))
theorem Rh.at {w wr : World} {a : Option Addr} {cap : Nat} {zs : List Int} (h : Rh w a cap zs) (hb : Below w.heap.size w wr) (k : Nat) (hk : k < zs.length) :
    ∃ b off, a = some ⟨b, off, none⟩ ∧ b < w.heap.size ∧ wr.cell? ⟨b, off + k, none⟩ = some (.int .i16 (zs.getD k 0)) := by
  rcases h.2.2.2 with rfl | ⟨b, off, h1, h2, h3⟩
  · simp at hk
  · exact ⟨b, off, h1, h2, (hb.cell (p := ⟨b, off + k, none⟩) h2).trans (h3 k hk)⟩
theorem Rh.below {w w' : World} {a : Option Addr} {cap : Nat} {zs : List Int} (h : Rh w a cap zs) (hb : Below w.heap.size w w') : Rh w' a cap zs := by
  obtain ⟨h1, h2, h3, h4⟩ := h
  refine ⟨h1, h2, h3, ?_⟩
  rcases h4 with h4 | ⟨b, off, e, h5, h6⟩
  · exact .inl h4
  · exact .inr ⟨b, off, e, Nat.lt_of_lt_of_le h5 hb.size, fun i hi => (hb.cell (p := ⟨b, off + i, none⟩) h5).trans (h6 i hi)⟩
theorem Rh.in {w : World} {a : Option Addr} {cap : Nat} {zs : List Int} (h : Rh w a cap zs) {k : Nat} (hk : k < zs.length) : -32768 ≤ zs.getD k 0 ∧ zs.getD k 0 ≤ 32767 := by
  refine h.1 _ ?_
  rw [List.getD_eq_getElem?_getD, List.getElem?_eq_getElem hk]
  exact List.getElem_mem hk
theorem Rh.lenB {w : World} {a : Option Addr} {cap : Nat} {zs : List Int} (h : Rh w a cap zs) : zs.length ≤ 9223372036854775807 := by
  have h1 := h.2.1
  have h2 := h.2.2.1
  unfold maxLen at h2
  omega

end Go.Proofs.YtngmcghmniakeaaGreat

namespace Go.Proofs.YtngmcghmniakeaaGreat
open Go.RowKit
open Go.ChangeShapes Go.WideShapes Go.Joins Go.Deep
set_option linter.unusedSimpArgs false
set_option linter.unusedVariables false
/-- An int16. -/
def El.i16 : El Int := El.num .i16 (-32768) 32767
theorem opens_is : Opens El.int.row 29 := Opens.row opens_int Tryz.underlying29 (by kernel_rfl) Nat.one_pos (of_decide_eq_true (by kernel_rfl))
end Go.Proofs.YtngmcghmniakeaaGreat
