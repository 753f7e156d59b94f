/-
  What a law is told of things that came in, one for all (Opens).
  What a law of layer 21 is told of what came in: lookups and which are done; a scene; a laid line; two int8.
  Bytes as ints; what the laws of layer 21 ask of the lines that they make (plain mathematics).
  Rows of the call's own, side by side.
-/
import Derived.Test.YtchdoakoelfenaaZJ3
import Derived.Test.YtchdoakoelfenaaZJ25
import Derived.Deep.Strs
import Derived.OpenShut
import Derived.SizedLaws
import Derived.Lib.SmallJoins
import Derived.Test.YtchdoakoelfenaaZJ5
import Derived.Test.YtchdoakoelfenaaZJ4
import Derived.Test.YtchdoakoelfenaaZJ14
namespace Go.Proofs.Ytchdoakoelfenaa
open Go.RowKit
open Go.ChangeShapes Go.WideShapes Go.Joins Go.Deep
set_option linter.unusedSimpArgs false
set_option linter.unusedVariables false

/-- What came in as data of a type lies as such a thing. -/
def Opens {α : Type} (E : El α) (t : TypeId) : Prop :=
  Try.prog.cellsOf t = E.sz ∧ ∀ (H : Type) (enc : TypeId × Value → H) (W : World) (held : Bool) (fuel : Nat) (cs : List Value) (x : DataW H × List MemPlace),
    DataW.trod enc Try.prog W 0 (fun _ => true) held fuel t cs = some x → (∀ n ∈ x.1.weights Try.prog t, n ≤ reachBytes) → ∃ y : α, E.rep (fun k => k < W.heap.size) W cs y
theorem Opens.num {t : TypeId} {k : IntKind} {lo hi : Int} (ht : Try.prog.underlying t = some (.int k)) (hc : Try.prog.cellsOf t = 1) (hb : ∀ z, (Lit.int k z).wf = true → lo ≤ z ∧ z ≤ hi) : Opens (El.num k lo hi) t :=
  ⟨hc, fun H enc W held fuel cs x h hz => by
    obtain ⟨z, e, _, hw⟩ := DataW.trod_int ht h
    exact ⟨z, e, hb z hw⟩⟩
theorem Opens.int {t : TypeId} (ht : Try.prog.underlying t = some (.int .i64)) (hc : Try.prog.cellsOf t = 1) : Opens El.int t := Opens.num ht hc (fun z hw => wfo_i64_bounds hw)
theorem Opens.bool {t : TypeId} (ht : Try.prog.underlying t = some .bool) (hc : Try.prog.cellsOf t = 1) : Opens El.bool t :=
  ⟨hc, fun H enc W held fuel cs x h hz => by
    obtain ⟨z, e, _⟩ := DataW.trod_bool ht h
    exact ⟨z, e⟩⟩
theorem Opens.str {t : TypeId} (ht : Try.prog.underlying t = some .string) (hc : Try.prog.cellsOf t = 1) : Opens El.str t :=
  ⟨hc, fun H enc W held fuel cs x h hz => by
    obtain ⟨z, e, _, hw⟩ := DataW.trod_string ht h
    exact ⟨z, e, hw⟩⟩
theorem Opens.via {α β : Type} {E : El α} {t : TypeId} (h : Opens E t) {f : β → α} {d : β} (hf : ∀ x, ∃ y, f y = x) : Opens (E.via f d) t :=
  ⟨h.1, fun H enc W held fuel cs x h1 hz => by
    obtain ⟨z, hz⟩ := h.2 H enc W held fuel cs x h1 hz
    obtain ⟨y, rfl⟩ := hf z
    exact ⟨y, hz⟩⟩
theorem list_of_ltG {α : Type} {d : α} {p : Nat → α → Prop} : ∀ n, (∀ i, i < n → ∃ o, p i o) → ∃ os : List α, os.length = n ∧ ∀ i, i < n → p i (os.getD i d) := by
  intro n
  induction n with
  | zero => exact fun _ => ⟨[], rfl, fun i hi => by omega⟩
  | succ n ih =>
    intro h
    obtain ⟨os, hl, ho⟩ := ih (fun i hi => h i (by omega))
    obtain ⟨o, h1⟩ := h n (by omega)
    refine ⟨os ++ [o], by simp [hl], fun i hi => ?_⟩
    by_cases hi' : i < n
    · have e : (os ++ [o]).getD i d = os.getD i d := by simp [List.getD, List.getElem?_append_left (show i < os.length by omega)]
      rw [e]
      exact ho i hi'
    · have e : i = n := by omega
      subst e
      have e : (os ++ [o]).getD i d = o := by simp [List.getD, ← hl]
      rw [e]
      exact h1
theorem weights_all {H : Type} {P : Program} {e : TypeId} {d : DataW H} : ∀ {l : List (DataW H)}, d ∈ l → ∀ {n : Nat}, n ∈ d.weights P e → n ∈ DataW.weightsAll P e l
  | c :: l, h, n, hn => by
    rw [DataW.weightsAll, List.mem_append]
    rcases List.mem_cons.1 h with h | h
    · exact .inl (by rw [← h]; exact hn)
    · exact .inr (weights_all h hn)
theorem Opens.row {α : Type} {E : El α} {t e : TypeId} (h : Opens E e) (ht : Try.prog.underlying t = some (.slice e)) (hc : Try.prog.cellsOf t = 1) (hsz : 0 < E.sz) (hby : 1 ≤ Try.prog.bytesOf e) : Opens E.row t :=
  ⟨hc, fun H enc W held fuel cs x hf hz => by
    rcases open_slice ht hf with ⟨hcs, _⟩ | ⟨ad, len, cap, m, n, D, Pl, hcs, _, hl, hm, hmm, hx, hel⟩
    · exact ⟨[], none, 0, hcs, (fun b o e1 => by cases e1), Gr.nil _ _ _ _ _ (Nat.zero_le _) (fun _ => rfl), Nat.zero_le _⟩
    · have hle : len ≤ m := by rw [hmm]; split <;> omega
      subst hx
      have hzm : ∀ i, i < len → ∀ k ∈ (D i).weights Try.prog e, k ≤ reachBytes := by
        intro i hi k hk
        refine hz k ?_
        simp only [DataW.weights, ht, List.mem_cons, List.mem_append]
        exact .inr (.inl (weights_all (List.mem_map.2 ⟨i, List.mem_range.2 hi, rfl⟩) hk))
      have hzl : len ≤ 140737488351232 := by
        have h1 := hz ((((List.range len).map D).length + ((List.range (m - len)).map fun j => D (len + j)).length) * Try.prog.bytesOf e) (by simp only [DataW.weights, ht]; exact List.mem_cons_self)
        rw [List.length_map, List.length_map, List.length_range, List.length_range] at h1
        have h2 : (len + (m - len)) * 1 ≤ (len + (m - len)) * Try.prog.bytesOf e := Nat.mul_le_mul_left _ hby
        have h3 : reachBytes = 140737488351232 := rfl
        omega
      have hone : ∀ i, i < len → ∃ o : α, ∃ vs, E.rep (fun k => k < W.heap.size) W vs o ∧ ∀ j, j < E.sz → W.cell? ((ad.add (i * E.sz)).add j) = vs[j]? := by
        intro i hi
        obtain ⟨cs', hc', ht'⟩ := hel i (by omega)
        rw [h.1] at hc'
        obtain ⟨hlen, _, hcell⟩ := World.cells?_some hc'
        obtain ⟨o, ho⟩ := h.2 H enc W held n cs' _ ht' (hzm i hi)
        refine ⟨o, cs', ho, fun j hj => ?_⟩
        have := hcell j (by omega)
        rw [this, List.getElem?_eq_getElem (by omega)]
      obtain ⟨os, hol, ho⟩ := list_of_ltG (d := E.dfl) len hone
      have key : ∀ i, i < len → ∃ b off vs, ad = ⟨b, off, none⟩ ∧ b < W.heap.size ∧ E.rep (fun k => k < W.heap.size) W vs (os.getD i E.dfl) ∧ ∀ j, j < E.sz → W.cell? ⟨b, off + i * E.sz + j, none⟩ = vs[j]? := by
        intro i hi
        obtain ⟨vs, h1, h2⟩ := ho i hi
        obtain ⟨b, off, spot⟩ := ad
        have h0 := h2 0 hsz
        have hv : 0 < vs.length := by rw [E.len h1]; exact hsz
        rw [List.getElem?_eq_getElem hv] at h0
        have hspot : spot = none := by
          obtain ⟨vs', h1', h2'⟩ := ho 0 (by omega)
          have h0' := h2' 0 hsz
          rw [List.getElem?_eq_getElem (by rw [E.len h1']; exact hsz)] at h0'
          have := World.cell?_spot h0'
          simpa [Addr.add] using this
        subst hspot
        have hadd : ∀ i, (⟨b, off, none⟩ : Addr).add i = ⟨b, off + i, none⟩ := by intro i; unfold Addr.add; split <;> simp_all
        have hadd2 : ∀ i j, ((⟨b, off, none⟩ : Addr).add i).add j = ⟨b, off + i + j, none⟩ := by intro i j; rw [hadd]; unfold Addr.add; split <;> simp_all
        have hlt := World.block_lt_of_cell? W _ h0
        rw [hadd2] at hlt
        exact ⟨b, off, vs, rfl, hlt, h1, fun j hj => by rw [← hadd2]; exact h2 j hj⟩
      refine ⟨os, some ad, cap, by rw [hcs, hol], fun b o e1 hne => ?_, ⟨by omega, hm, (fun e => by cases e), fun i hi => ?_⟩, by rw [hol]; exact hzl⟩
      · obtain ⟨b', off', _, e2, hb', _⟩ := key 0 (by have := List.length_pos_iff.2 hne; omega)
        rw [e2] at e1
        cases e1
        exact hb'
      · obtain ⟨b, off, vs, e2, hb, h1, h2⟩ := key i (by omega)
        exact ⟨b, off, vs, by rw [e2], hb, h1, h2⟩⟩
/-- Fields, one behind the other. -/
def OpensF {α : Type} (E : El α) (fs : List Field) (off : Nat) : Prop :=
  ∀ (H : Type) (enc : TypeId × Value → H) (W : World) (held : Bool) (n : Nat) (cs : List Value), (∀ f ∈ fs, ∃ y, DataW.trod enc Try.prog W 0 (fun _ => true) held n f.type ((cs.drop f.offset).take (Try.prog.cellsOf f.type)) = some y ∧ ∀ k ∈ y.1.weights Try.prog f.type, k ≤ reachBytes) →
    ∃ x : α, E.rep (fun k => k < W.heap.size) W ((cs.drop off).take E.sz) x
theorem OpensF.last {α : Type} {E : El α} {f : Field} {off : Nat} (h : Opens E f.type) (ho : f.offset = off) : OpensF E [f] off := by
  intro H enc W held n cs hy
  obtain ⟨y, hy, hz⟩ := hy f (by simp)
  rw [h.1, ho] at hy
  exact h.2 H enc W held n _ y hy hz
theorem OpensF.more {α β : Type} {E : El α} {F : El β} {f : Field} {fs : List Field} {off : Nat} (h : Opens E f.type) (ho : f.offset = off) (hs : OpensF F fs (off + E.sz)) : OpensF (E.cat F) (f :: fs) off := by
  intro H enc W held n cs hy
  obtain ⟨y, hy0, hz0⟩ := hy f (by simp)
  rw [h.1, ho] at hy0
  obtain ⟨x, hx⟩ := h.2 H enc W held n _ y hy0 hz0
  obtain ⟨z, hz⟩ := hs H enc W held n cs (fun g hg => hy g (by simp [hg]))
  refine ⟨(x, z), (cs.drop off).take E.sz, (cs.drop (off + E.sz)).take F.sz, ?_, hx, hz⟩
  show (cs.drop off).take (E.sz + F.sz) = _
  rw [List.take_add, List.drop_drop]
theorem Opens.struct {α : Type} {E : El α} {t : TypeId} {fs : Array Field} (ht : Try.prog.underlying t = some (.struct fs)) (hc : Try.prog.cellsOf t = E.sz) (h : OpensF E fs.toList 0) : Opens E t :=
  ⟨hc, fun H enc W held fuel cs x hf hz => by
    obtain ⟨xs, n, _, hx, hl, hlen, hff⟩ := DataW.trod_struct ht hf
    subst hx
    obtain ⟨y, hy⟩ := h H enc W held n cs (fun f hf' => by
      obtain ⟨i, hi, e⟩ := List.getElem_of_mem hf'
      have := hff i f (by rw [← e]; simp)
      have hix : i < xs.length := by simpa [hlen] using hi
      rw [this]
      refine ⟨xs[i]'hix, by rw [List.getElem?_eq_getElem], fun k hk => hz k ?_⟩
      simp only [DataW.weights, ht]
      refine DataW.weights_mem_each (j := i) (t := f.type) (d := (xs[i]'hix).1) ?_ ?_ k hk
      · rw [List.getElem?_map, List.getElem?_eq_getElem hi, e]
        rfl
      · rw [List.getElem?_map, List.getElem?_eq_getElem hix]
        rfl)
    rw [List.drop_zero, List.take_of_length_le (by rw [hl, hc]; exact Nat.le_refl _)] at hy
    exact ⟨y, hy⟩⟩
set_option maxRecDepth 100000 in
/-- A struct by value. -/
theorem Opens.agg {α : Type} {E : El α} {t : TypeId} (h : Opens E t) {fs : Array Field} (ht : Try.prog.underlying t = some (.struct fs)) {H : Type} {enc : TypeId × Value → H} {W : World} {held : Bool} {r : Reach} {b0 : Nat} {v : Value} {d : DataW H} {p : List MemPlace}
    (hv : Value.okWide Try.prog W r b0 t v) (hd : DataW.Trod enc Try.prog W 0 (fun _ => true) held t v d p) (hz : ∀ n ∈ d.weights Try.prog t, n ≤ reachBytes) : ∃ (cs : Array Value) (y : α), v = .agg cs ∧ E.rep (fun k => k < W.heap.size) W cs.toList y := by
  obtain ⟨cs, rfl, hsz⟩ := okWide_struct ht hv
  obtain ⟨fuel, hf⟩ := hd
  obtain ⟨y, hy⟩ := h.2 H enc W held fuel _ _ hf hz
  exact ⟨cs, y, rfl, by simpa [Value.cells] using hy⟩
set_option maxRecDepth 100000 in
/-- Anything of one cell. -/
theorem Opens.cell {α : Type} {E : El α} {t : TypeId} (h : Opens E t) {H : Type} {enc : TypeId × Value → H} {W : World} {held : Bool} {v : Value} {d : DataW H} {p : List MemPlace}
    (hd : DataW.Trod enc Try.prog W 0 (fun _ => true) held t v d p) (hz : ∀ n ∈ d.weights Try.prog t, n ≤ reachBytes) (hone : v.cells = #[v]) : ∃ y : α, E.rep (fun k => k < W.heap.size) W [v] y := by
  obtain ⟨fuel, hf⟩ := hd
  obtain ⟨y, hy⟩ := h.2 H enc W held fuel _ _ hf hz
  exact ⟨y, by simpa [hone] using hy⟩

end Go.Proofs.Ytchdoakoelfenaa

namespace Go.Proofs.Ytchdoakoelfenaa
open Go.RowKit
open Go.ChangeShapes Go.WideShapes Go.Joins Go.Deep
set_option linter.unusedSimpArgs false
set_option linter.unusedVariables false

/-- An element of a row of rows. -/
theorem Gr.rwJ {α : Type} {E : El α} {S : Nat → Prop} {w wr : World} {a : Option Addr} {cap : Nat} {m : List (List α)} (h : Gr E.row S w a cap m) (hb : Below w.heap.size w wr) (k : Nat) (hk : k < m.length) :
    ∃ b off a' cap', a = some ⟨b, off, none⟩ ∧ b < w.heap.size ∧ wr.cell? ⟨b, off + k, none⟩ = some (.slice a' (m.getD k []).length cap') ∧ Gr E S wr a' cap' (m.getD k []) ∧ (m.getD k []).length ≤ 140737488351232 ∧ ∀ b o, a' = some ⟨b, o, none⟩ → m.getD k [] ≠ [] → S b := by
  obtain ⟨b, off, vs, e, hl, ⟨a', cap', hv, hS, hr, hlb⟩, hc⟩ := h.at hb k hk
  have := hc 0 Nat.one_pos
  rw [hv, show k * E.row.sz = k from Nat.mul_one k] at this
  exact ⟨b, off, a', cap', e, hl, this, hr, hlb, hS⟩
def TeJ : El Te := (El.int.cat (El.int.cat El.int)).via (fun t => (t.st, t.pk, t.en)) Te.none
theorem TeJ_rep {S : Nat → Prop} {w : World} {vs : List Value} {p : Te} : TeJ.rep S w vs p ↔ vs = [.int .i64 p.st, .int .i64 p.pk, .int .i64 p.en] ∧ Tw p := by
  constructor
  · rintro ⟨us, ts, rfl, ⟨rfl, h1⟩, us2, ts2, rfl, ⟨rfl, h2⟩, ⟨rfl, h3⟩⟩
    exact ⟨rfl, h1, h2, h3⟩
  · rintro ⟨rfl, h1, h2, h3⟩
    exact ⟨[_], _, rfl, ⟨rfl, h1⟩, [_], [_], rfl, ⟨rfl, h2⟩, ⟨rfl, h3⟩⟩
theorem Gr.tzJ {S : Nat → Prop} {w : World} {a : Option Addr} {cap : Nat} {l : List Te} (h : Gr TeJ S w a cap l) : Tz w a cap l := by
  refine ⟨h.1, h.2.1, fun t ht => ?_, h.2.2.1, fun i hi => ?_⟩
  · obtain ⟨i, hi, e⟩ := List.getElem_of_mem ht
    obtain ⟨b, off, vs, e1, hb, hr, hc⟩ := h.2.2.2 i hi
    have h2 := (TeJ_rep.1 hr).2
    rw [List.getD_eq_getElem?_getD, List.getElem?_eq_getElem hi, Option.getD_some, e] at h2
    exact h2
  · obtain ⟨b, off, vs, e1, hb, hr, hc⟩ := h.2.2.2 i hi
    obtain ⟨rfl, h2⟩ := TeJ_rep.1 hr
    exact ⟨b, off, e1, hb, hc 0 (by decide), hc 1 (by decide), hc 2 (by decide)⟩
theorem Gr.tzzJ {S : Nat → Prop} {w : World} {a : Option Addr} {cap : Nat} {m : List (List Te)} (h : Gr TeJ.row S w a cap m) : Tzz w a cap m := by
  refine ⟨h.1, h.2.1, fun i hi => ?_⟩
  obtain ⟨b, off, a', cap', h1, h2, h3, h4, -, -⟩ := h.rwJ (Below.refl _ _) i hi
  exact ⟨b, off, a', cap', h1, h2, h3, h4.tzJ⟩
theorem Gr.riiJ {S : Nat → Prop} {w : World} {a : Option Addr} {cap : Nat} {m : List (List Int)} (h : Gr El.int.row S w a cap m) : Rii w a cap m := by
  refine ⟨h.1, h.2.1, fun i hi => ?_⟩
  obtain ⟨b, off, a', cap', h1, h2, h3, h4, -, -⟩ := h.rwJ (Below.refl _ _) i hi
  exact ⟨b, off, a', cap', h1, h2, h3, h4.ri⟩
theorem opens_intJ : Opens El.int 3 := Opens.int Try.underlying3 (by kernel_rfl)
theorem opens_isJ : Opens El.int.row 22 := Opens.row opens_intJ Try.underlying22 (by kernel_rfl) Nat.one_pos (of_decide_eq_true (by kernel_rfl))
theorem opens_teJ : Opens TeJ 125 :=
  (Opens.struct (E := El.int.cat (El.int.cat El.int)) Try.underlying125 (by kernel_rfl) (OpensF.more opens_intJ rfl (OpensF.more opens_intJ rfl (OpensF.last opens_intJ rfl)))).via (fun x => ⟨⟨x.1, x.2.1, x.2.2⟩, rfl⟩)
theorem opens_tesJ : Opens TeJ.row 66 := Opens.row opens_teJ Try.underlying66 (by kernel_rfl) (by decide) (of_decide_eq_true (by kernel_rfl))
theorem opens_tessJ : Opens TeJ.row.row 31 := Opens.row opens_tesJ Try.underlying31 (by kernel_rfl) Nat.one_pos (of_decide_eq_true (by kernel_rfl))
theorem opens_issJ : Opens El.int.row.row 32 := Opens.row opens_isJ Try.underlying32 (by kernel_rfl) Nat.one_pos (of_decide_eq_true (by kernel_rfl))
theorem opens_storeJ : Opens (TeJ.row.row.cat El.int.row.row) 34 := Opens.struct Try.underlying34 (by kernel_rfl) (OpensF.more opens_tessJ rfl (OpensF.last opens_issJ rfl))
theorem opens_boolJ : Opens El.bool 4 := Opens.bool Try.underlying4 (by kernel_rfl)
theorem opens_bsJ : Opens El.bool.row 35 := Opens.row opens_boolJ Try.underlying35 (by kernel_rfl) Nat.one_pos (of_decide_eq_true (by kernel_rfl))
theorem opens_slotJ : Opens SlU 49 := Opens.struct (E := El.int.cat El.int) Try.underlying49 (by kernel_rfl) (OpensF.more opens_intJ rfl (OpensF.last opens_intJ rfl))
theorem opens_ruleJ : Opens RuE 52 :=
  (Opens.struct (E := El.int.row.cat (El.int.row.cat (El.int.cat (El.int.cat (SlU.cat (SlU.cat SlU)))))) Try.underlying52 (by kernel_rfl)
    (OpensF.more opens_isJ rfl (OpensF.more opens_isJ rfl (OpensF.more opens_intJ rfl (OpensF.more opens_intJ rfl (OpensF.more opens_slotJ rfl (OpensF.more opens_slotJ rfl (OpensF.last opens_slotJ rfl)))))))).via (fun x => ⟨⟨x.1, x.2.1, x.2.2.1, x.2.2.2.1, x.2.2.2.2.1, x.2.2.2.2.2.1, x.2.2.2.2.2.2⟩, rfl⟩)
theorem opens_rulesJ : Opens RuE.row 53 := Opens.row opens_ruleJ Try.underlying53 (by kernel_rfl) (by decide) (of_decide_eq_true (by kernel_rfl))
theorem opens_lookJ : Opens LkE 55 :=
  (Opens.struct (E := El.int.cat (El.bool.cat RuE.row)) Try.underlying55 (by kernel_rfl) (OpensF.more opens_intJ rfl (OpensF.more opens_boolJ rfl (OpensF.last opens_rulesJ rfl)))).via (fun x => ⟨⟨x.1, x.2.1, x.2.2⟩, rfl⟩)
theorem opens_looksJ : Opens LkE.row 28 := Opens.row opens_lookJ Try.underlying28 (by kernel_rfl) (by decide) (of_decide_eq_true (by kernel_rfl))
theorem opens_pdJ : Opens PdE 43 :=
  (Opens.struct (E := El.int.cat (El.int.cat (El.int.cat El.int))) Try.underlying43 (by kernel_rfl) (OpensF.more opens_intJ rfl (OpensF.more opens_intJ rfl (OpensF.more opens_intJ rfl (OpensF.last opens_intJ rfl))))).via (fun x => ⟨⟨x.1, x.2.1, x.2.2.1, x.2.2.2⟩, rfl⟩)
theorem opens_pdsJ : Opens PdE.row 25 := Opens.row opens_pdJ Try.underlying25 (by kernel_rfl) (by decide) (of_decide_eq_true (by kernel_rfl))
theorem opens_sceneJ : Opens ((TeJ.row.row.cat El.int.row.row).cat (El.bool.row.cat El.int.row)) 37 := Opens.struct Try.underlying37 (by kernel_rfl) (OpensF.more opens_storeJ rfl (OpensF.more opens_bsJ rfl (OpensF.last opens_isJ rfl)))
theorem opens_toldJ : Opens (LkE.row.cat El.int.row) 30 := Opens.struct Try.underlying30 (by kernel_rfl) (OpensF.more opens_looksJ rfl (OpensF.last opens_isJ rfl))
set_option maxRecDepth 100000 in
/-- A laid line. -/
theorem open_pdsJ {H : Type} {enc : TypeId × Value → H} {W : World} {held : Bool} {a : Option Addr} {len cap : Nat} {d : DataW H} {p : List MemPlace}
    (hd : DataW.Trod enc Try.prog W 0 (fun _ => true) held 25 (.slice a len cap) d p) (hz : ∀ n ∈ d.weights Try.prog 25, n ≤ reachBytes) : ∃ l : List Pd, len = l.length ∧ Gr PdE (fun k => k < W.heap.size) W a cap l := by
  obtain ⟨l, a', cap', e, _, hg, _⟩ := opens_pdsJ.cell hd hz rfl
  simp at e
  obtain ⟨rfl, rfl, rfl⟩ := e
  exact ⟨l, rfl, hg⟩
set_option maxRecDepth 100000 in
/-- A scene, by value. -/
theorem open_sceneJ {H : Type} {enc : TypeId × Value → H} {W : World} {held : Bool} {r : Reach} {b0 : Nat} {v : Value} {d : DataW H} {p : List MemPlace}
    (hv : Value.okWide Try.prog W r b0 37 v) (hd : DataW.Trod enc Try.prog W 0 (fun _ => true) held 37 v d p) (hz : ∀ n ∈ d.weights Try.prog 37, n ≤ reachBytes) :
    ∃ ga gc ma mc, ∃ s : Sr, ∃ ka kc, ∃ ms : List Bool, ∃ pa pc, ∃ cs : List Int, v = .agg #[.slice ga s.rg.length gc, .slice ma s.rw.length mc, .slice ka ms.length kc, .slice pa cs.length pc] ∧ Tzz W ga gc s.rg ∧ Rii W ma mc s.rw ∧ Gr El.bool (fun k => k < W.heap.size) W ka kc ms ∧ Ri W pa pc cs := by
  obtain ⟨xs, ⟨⟨m, n⟩, bs, cs⟩, rfl, us, ts, e, ⟨us1, ts1, e1, ⟨a, ca, h1, _, h2, _⟩, ⟨b, cb, h3, _, h4, _⟩⟩, us2, ts2, e2, ⟨c, cc, h5, _, h6, _⟩, d', cd, h7, _, h8, _⟩ := opens_sceneJ.agg Try.underlying37 hv hd hz
  subst h1 h3 h5 h7
  refine ⟨a, ca, b, cb, ⟨m, n⟩, c, cc, bs, d', cd, cs, ?_, h2.tzzJ, h4.riiJ, h6, h8.ri⟩
  congr 1
  apply Array.ext'
  rw [e, e1, e2]
  rfl
set_option maxRecDepth 100000 in
/-- Lookups, and which are done, by value. -/
theorem open_toldJ {H : Type} {enc : TypeId × Value → H} {W : World} {held : Bool} {r : Reach} {b0 : Nat} {v : Value} {d : DataW H} {p : List MemPlace}
    (hv : Value.okWide Try.prog W r b0 30 v) (hd : DataW.Trod enc Try.prog W 0 (fun _ => true) held 30 v d p) (hz : ∀ n ∈ d.weights Try.prog 30, n ≤ reachBytes) :
    ∃ la lc, ∃ l : List Lk, ∃ xa xc, ∃ ks : List Int, v = .agg #[.slice la l.length lc, .slice xa ks.length xc] ∧ Gr LkE (fun k => k < W.heap.size) W la lc l ∧ Ri W xa xc ks := by
  obtain ⟨xs, ⟨l, ks⟩, rfl, us, ts, e, ⟨a, ca, h1, _, h2, _⟩, b, cb, h3, _, h4, _⟩ := opens_toldJ.agg Try.underlying30 hv hd hz
  subst h1 h3
  refine ⟨a, ca, l, b, cb, ks, ?_, h2, h4.ri⟩
  congr 1
  apply Array.ext'
  rw [e]
  rfl
theorem array2J {α : Type} {cs : Array α} (h : cs.size = 2) : ∃ x y, cs = #[x, y] := by
  rcases cs with ⟨l⟩
  rcases l with _ | ⟨x, _ | ⟨y, _ | ⟨z, l⟩⟩⟩
  · simp at h
  · simp at h
  · exact ⟨x, y, rfl⟩
  · simp at h
set_option maxRecDepth 100000 in
/-- Two int8, by value. -/
theorem open_byJ {H : Type} {enc : TypeId × Value → H} {W : World} {held : Bool} {r : Reach} {b0 : Nat} {v : Value} {d : DataW H} {p : List MemPlace}
    (hv : Value.okWide Try.prog W r b0 47 v) (h : DataW.Trod enc Try.prog W 0 (fun _ => true) held 47 v d p) :
    ∃ x y : Int, v = .agg #[.int .i8 x, .int .i8 y] ∧ (-128 ≤ x ∧ x < 128) ∧ (-128 ≤ y ∧ y < 128) := by
  have hC : Try.prog.cellsOf 47 = 2 := by kernel_rfl
  have hc : Try.prog.cellsOf 46 = 1 := by kernel_rfl
  simp only [Value.okWide, Try.underlying47] at hv
  obtain ⟨cs, rfl, hsz, _⟩ := hv
  obtain ⟨c0, c1, rfl⟩ := array2J (hsz.trans hC)
  obtain ⟨fuel, hf⟩ := h
  obtain ⟨zs, m, _, _, _, hl, ht⟩ := DataW.trod_array Try.underlying47 hf
  have h0 := ht 0 (by decide)
  have h1 := ht 1 (by decide)
  rw [hc] at h0 h1
  rw [List.getElem?_eq_getElem (by omega)] at h0 h1
  obtain ⟨x, e0, _, w0⟩ := DataW.trod_int Try.underlying46 h0
  obtain ⟨y, e1, _, w1⟩ := DataW.trod_int Try.underlying46 h1
  simp [Value.cells] at e0 e1
  subst e0 e1
  simp [Lit.wf, IntKind.min, IntKind.max, IntKind.bits, IntKind.signed] at w0 w1
  exact ⟨x, y, rfl, by omega, by omega⟩

end Go.Proofs.Ytchdoakoelfenaa

namespace Go.Proofs.Ytchdoakoelfenaa
set_option linter.unusedSimpArgs false
set_option linter.unusedVariables false

/-- The first k bytes as ints. -/
def biL (xs : List Nat) (k : Nat) : List Int := (List.range k).map (fun i => ((xs.getD i 0 : Nat) : Int))
theorem biL_succ (xs : List Nat) (k : Nat) : biL xs (k + 1) = biL xs k ++ [((xs.getD k 0 : Nat) : Int)] := by unfold biL; rw [List.range_succ, List.map_append]; rfl
theorem biL_len (xs : List Nat) (k : Nat) : (biL xs k).length = k := by simp [biL]
theorem biL_at (xs : List Nat) {k i : Nat} (h : i < k) : (biL xs k).getD i 0 = ((xs.getD i 0 : Nat) : Int) := by simp [biL, List.getD, h]
theorem biL_in {xs : List Nat} (hx : Byt xs) (k : Nat) : ∀ z ∈ biL xs k, 0 ≤ z ∧ z ≤ 255 := by
  intro z hz
  unfold biL at hz
  obtain ⟨i, _, rfl⟩ := List.mem_map.1 hz
  have := hx.getD i
  exact ⟨by omega, by omega⟩
/-- What PlaceAdds expects of a glyph. -/
def ppJ (a b : Int) (g : Int) : Pd := if g = 3 then ⟨3, a + b, 1, -5⟩ else ⟨g, 0, 0, 0⟩
def rrJ (a : Int) (r : Nat) (g : Int) : Pd := if g = 3 then ⟨3, (r : Int) * a, (r : Int), 2 * (r : Int)⟩ else ⟨g, 0, 0, 0⟩
theorem ad_p {a b : Int} (ha : -128 ≤ a ∧ a ≤ 127) (hb : -128 ≤ b ∧ b ≤ 127) (g : Int) : ([0, 1] : List Int).foldl (fun q k => stJ a b k q) (⟨g, 0, 0, 0⟩ : Pd) = ppJ a b g := by
  unfold ppJ
  by_cases hg : g = 3
  · subst hg; rw [if_pos rfl]; exact (ad_pq ha hb).1
  · rw [if_neg hg]; exact ad_other hg _
theorem ad_q {a b : Int} (ha : -128 ≤ a ∧ a ≤ 127) (hb : -128 ≤ b ∧ b ≤ 127) (g : Int) : ([1, 0] : List Int).foldl (fun q k => stJ a b k q) (⟨g, 0, 0, 0⟩ : Pd) = ppJ a b g := by
  unfold ppJ
  by_cases hg : g = 3
  · subst hg; rw [if_pos rfl]; exact (ad_pq ha hb).2
  · rw [if_neg hg]; exact ad_other hg _
theorem ad_r {a b : Int} (ha : -128 ≤ a ∧ a ≤ 127) {r : Nat} (hr : r ≤ 20) (g : Int) : (List.replicate r (0 : Int)).foldl (fun q k => stJ a b k q) (⟨g, 0, 0, 0⟩ : Pd) = rrJ a r g := by
  unfold rrJ
  by_cases hg : g = 3
  · subst hg; rw [if_pos rfl]; exact ad_rep ha r hr
  · rw [if_neg hg]; exact ad_other hg _
theorem getM {L : List Int} {f : Int → Pd} {k : Nat} (hk : k < L.length) : (L.map f).getD k Pd.none = f (L.getD k 0) := by simp [List.getD, hk]
/-- The first k glyphs of the line of PlaceAnchors. -/
def anP (n b k : Nat) : List Int := (List.range k).map (anG n b)
theorem anP_succ (n b k : Nat) : anP n b (k + 1) = anP n b k ++ [anG n b k] := by unfold anP; rw [List.range_succ, List.map_append]; rfl
theorem anP_len (n b k : Nat) : (anP n b k).length = k := by simp [anP]
theorem anP_all (n b : Nat) : anP n b n = anL n b := rfl
theorem anG_one {n b i : Nat} (h1 : ¬ b < i) (h2 : i ≠ n - 1) : anG n b i = 1 := by unfold anG; rw [if_neg h2, if_neg h1]
theorem anG_two {n b i : Nat} (h1 : b < i) (h2 : i ≠ n - 1) : anG n b i = 2 := by unfold anG; rw [if_neg h2, if_pos h1]
theorem anG_three {n b i : Nat} (h2 : i = n - 1) : anG n b i = 3 := by unfold anG; rw [if_pos h2]

end Go.Proofs.Ytchdoakoelfenaa

namespace Go.Proofs.Ytchdoakoelfenaa
open Go.RowKit Go.Maps
set_option linter.unusedSimpArgs false
set_option linter.unusedVariables false

/-- No row at all. -/
def nilV : Value := .slice none 0 0
/-- Rows of one kind, each in a block of its own. -/
def Fam {α : Type} (E : El α) (t : TypeId) (base : Nat) (w : World) (vs : List Value) (ls : List (List α)) : Prop :=
  vs.length = ls.length ∧ (∀ i, i < vs.length → Gw E t base (fun _ => False) w (vs.getD i nilV) (ls.getD i [])) ∧
    ∀ i j g, i < vs.length → j < vs.length → i ≠ j → (vs.getD i nilV).ownBlock = some g → (vs.getD j nilV).ownBlock ≠ some g
theorem Fam.row {α : Type} {E : El α} {t : TypeId} {base : Nat} {w : World} {vs : List Value} {ls : List (List α)} (h : Fam E t base w vs ls) (k : Nat) (hk : k < vs.length) : Gw E t base (fun _ => False) w (vs.getD k nilV) (ls.getD k []) := h.2.1 k hk
theorem Fam.below {α : Type} {E : El α} {t : TypeId} {base : Nat} {w w' : World} {vs : List Value} {ls : List (List α)} (h : Fam E t base w vs ls) (hb : Below w.heap.size w w') : Fam E t base w' vs ls := ⟨h.1, fun i hi => (h.2.1 i hi).below hb, h.2.2⟩
/-- One of them has grown. -/
theorem Fam.grow {α : Type} {E : El α} {t : TypeId} {base : Nat} {w w' : World} {vs : List Value} {ls : List (List α)} (h : Fam E t base w vs ls) (k : Nat) (hk : k < vs.length) {v' : Value} {l' : List α} (h1 : Gw E t base (fun _ => False) w' v' l') (hg : w.grownBy w' (vs.getD k nilV).ownBlock) (ho : v'.ownBlock = (vs.getD k nilV).ownBlock ∨ v'.ownBlock = some w.heap.size) : Fam E t base w' (vs.set k v') (ls.set k l') := by
  have e1 : ∀ i, i ≠ k → (vs.set k v').getD i nilV = vs.getD i nilV := fun i hi => by simp [List.getD, List.getElem?_set_ne (fun e => hi e.symm)]
  have e2 : (vs.set k v').getD k nilV = v' := by simp [List.getD, hk]
  have e3 : ∀ i, i ≠ k → (ls.set k l').getD i [] = ls.getD i [] := fun i hi => by simp [List.getD, List.getElem?_set_ne (fun e => hi e.symm)]
  have e4 : (ls.set k l').getD k [] = l' := by have := h.1; simp [List.getD, show k < ls.length by omega]
  have hlt : ∀ i g, i < vs.length → (vs.getD i nilV).ownBlock = some g → g < w.heap.size := fun i g hi e => ((h.2.1 i hi).lo e).2
  have hnew : ∀ j g, j < vs.length → j ≠ k → (vs.getD j nilV).ownBlock = some g → v'.ownBlock ≠ some g := fun j g hj hjk e e5 => by
    rcases ho with ho | ho
    · rw [ho] at e5
      exact h.2.2 j k g hj hk hjk e e5
    · rw [ho] at e5
      injection e5 with e5
      have := hlt j g hj e
      omega
  refine ⟨by rw [List.length_set, List.length_set]; exact h.1, fun i hi => ?_, fun i j g hi hj hij e => ?_⟩
  · rw [List.length_set] at hi
    by_cases hik : i = k
    · subst hik
      rw [e2, e4]
      exact h1
    · rw [e1 i hik, e3 i hik]
      exact (h.2.1 i hi).stay hg.size (fun k hk => hk.elim) (fun g eg => hg.block g (hlt i g hi eg) (fun e => h.2.2 i k g hi hk hik eg e.symm))
  · rw [List.length_set] at hi hj
    by_cases hik : i = k
    · subst hik
      rw [e2] at e
      rw [e1 j (fun x => hij x.symm)]
      intro e5
      exact hnew j g hj (fun x => hij x.symm) e5 e
    · rw [e1 i hik] at e
      by_cases hjk : j = k
      · subst hjk
        rw [e2]
        exact hnew i g hi hik e
      · rw [e1 j hjk]
        exact h.2.2 i j g hi hj hij e
/-- A row of another kind has grown. -/
theorem Fam.beside {α β : Type} {E : El α} {F : El β} {t u : TypeId} {base base2 : Nat} {S : Nat → Prop} {w w' : World} {vs : List Value} {ls : List (List α)} {x : Value} {m : List β} (h : Fam E t base w vs ls) (h2 : Gw F u base2 S w x m) (ht : t ≠ u) (hg : w.grownBy w' x.ownBlock) : Fam E t base w' vs ls :=
  ⟨h.1, fun i hi => (h.2.1 i hi).beside h2 ht (fun k hk => hk.elim) hg, h.2.2⟩
theorem Fam.two {α : Type} (E : El α) (t : TypeId) (base : Nat) (w : World) : Fam E t base w [nilV, nilV] [[], []] :=
  ⟨rfl, fun i hi => by
    have : i = 0 ∨ i = 1 := by simp at hi; omega
    rcases this with rfl | rfl <;> exact Gw.nil _ _ _ _ _, fun i j g hi hj hij e => by
    have : i = 0 ∨ i = 1 := by simp at hi; omega
    rcases this with rfl | rfl <;> cases e⟩
theorem Fam.three {α : Type} (E : El α) (t : TypeId) (base : Nat) (w : World) : Fam E t base w [nilV, nilV, nilV] [[], [], []] :=
  ⟨rfl, fun i hi => by
    have : i = 0 ∨ i = 1 ∨ i = 2 := by simp at hi; omega
    rcases this with rfl | rfl | rfl <;> exact Gw.nil _ _ _ _ _, fun i j g hi hj hij e => by
    have : i = 0 ∨ i = 1 ∨ i = 2 := by simp at hi; omega
    rcases this with rfl | rfl | rfl <;> cases e⟩
theorem Fam.four {α : Type} (E : El α) (t : TypeId) (base : Nat) (w : World) : Fam E t base w [nilV, nilV, nilV, nilV] [[], [], [], []] :=
  ⟨rfl, fun i hi => by
    have : i = 0 ∨ i = 1 ∨ i = 2 ∨ i = 3 := by simp at hi; omega
    rcases this with rfl | rfl | rfl | rfl <;> exact Gw.nil _ _ _ _ _, fun i j g hi hj hij e => by
    have : i = 0 ∨ i = 1 ∨ i = 2 ∨ i = 3 := by simp at hi; omega
    rcases this with rfl | rfl | rfl | rfl <;> cases e⟩
/-- Bools of the call's own, and append to them. -/
theorem infoA_bool : (Try.prog.info? 4).map (fun i => (i.zero, i.size, i.bytes)) = some (some (.bool false), 1, 1) := by kernel_rfl
theorem wpList_append_gb {w : World} {ops : Array Oper} {rest : List Oper} {o : Oper} {a : Act} {Q : Exit → Act → World → Prop}
    (hgd : o.guard = none) (s x : Operand) (ho : o.op = .call { callee := .builtin .append, args := #[s, x], argTypes := #[35, 35] })
    (base : Nat) (v : Value) (l : List Bool) (hs : a.eval s = v) (hown : Gw El.bool 4 base (fun _ => False) w v l) (g : Nat) (z : Bool) (hx : a.eval x = .slice (some ⟨g, 0, none⟩) 1 1)
    (hg : g < w.heap.size) (c0 : w.cell? ⟨g, 0, none⟩ = some (.bool z)) (hlen : l.length + 1 ≤ 1000000) (hbase : base ≤ w.heap.size)
    (h : ∀ v' w', Gw El.bool 4 base (fun _ => False) w' v' (l ++ [z]) → w.grownBy w' v.ownBlock → (v'.ownBlock = v.ownBlock ∨ v'.ownBlock = some w.heap.size) → wpList Try.prog ops Q rest (a.put o.dst v') w') : wpList Try.prog ops Q (o :: rest) a w := by
  refine wpList_append_el 35 4 Try.underlying35 infoA_bool rfl Nat.one_pos (by decide) hgd s x ho base (fun _ => False) v l hs hown (some ⟨g, 0, none⟩) 1 1 [z] rfl hx ?_ hlen hbase (fun v' w' k1 k2 k3 => h v' w' k1 k2 k3)
  refine Gr.one (vs := [.bool z]) rfl hg (fun j hj => ?_)
  obtain rfl : j = 0 := by simp [El.bool] at hj; exact hj
  exact c0

end Go.Proofs.Ytchdoakoelfenaa
