/-
  What a law is told of things that came in, one for all (Opens).
  What a law of layer 22 is told of what came in: features and swaps, with two numbers; conds; ints; texts.
  foundrylaw04.awake; OctetsReads: the walks.
  octets.Page: Later: the walk.
  octets.Page: Now: the walk.
-/
import Derived.Test.YtaejlopkdkaphaaZE7
import Derived.Test.YtaejlopkdkaphaaZE12
import Derived.Deep.Strs
import Derived.OpenShut
import Derived.SizedLaws
import Derived.Lib.SmallJoins
import Derived.Test.YtaejlopkdkaphaaZE8
import Derived.Test.YtaejlopkdkaphaaZE3
import Derived.WalkSpells
import Derived.Test.YtaejlopkdkaphaaZE10
namespace Go.Proofs.Ytaejlopkdkaphaa
open Go.RowKit
open Go.ChangeShapes Go.WideShapes Go.Joins Go.Deep
set_option linter.unusedSimpArgs false
set_option linter.unusedVariables false

/-- What came in as data of a type lies as such a thing. -/
def Opens {α : Type} (E : El α) (t : TypeId) : Prop :=
  Try.prog.cellsOf t = E.sz ∧ ∀ (H : Type) (enc : TypeId × Value → H) (W : World) (held : Bool) (fuel : Nat) (cs : List Value) (x : DataW H × List MemPlace),
    DataW.trod enc Try.prog W 0 (fun _ => true) held fuel t cs = some x → (∀ n ∈ x.1.weights Try.prog t, n ≤ reachBytes) → ∃ y : α, E.rep (fun k => k < W.heap.size) W cs y
theorem Opens.num {t : TypeId} {k : IntKind} {lo hi : Int} (ht : Try.prog.underlying t = some (.int k)) (hc : Try.prog.cellsOf t = 1) (hb : ∀ z, (Lit.int k z).wf = true → lo ≤ z ∧ z ≤ hi) : Opens (El.num k lo hi) t :=
  ⟨hc, fun H enc W held fuel cs x h hz => by
    obtain ⟨z, e, _, hw⟩ := DataW.trod_int ht h
    exact ⟨z, e, hb z hw⟩⟩
theorem Opens.int {t : TypeId} (ht : Try.prog.underlying t = some (.int .i64)) (hc : Try.prog.cellsOf t = 1) : Opens El.int t := Opens.num ht hc (fun z hw => wfo_i64_bounds hw)
theorem Opens.bool {t : TypeId} (ht : Try.prog.underlying t = some .bool) (hc : Try.prog.cellsOf t = 1) : Opens El.bool t :=
  ⟨hc, fun H enc W held fuel cs x h hz => by
    obtain ⟨z, e, _⟩ := DataW.trod_bool ht h
    exact ⟨z, e⟩⟩
theorem Opens.str {t : TypeId} (ht : Try.prog.underlying t = some .string) (hc : Try.prog.cellsOf t = 1) : Opens El.str t :=
  ⟨hc, fun H enc W held fuel cs x h hz => by
    obtain ⟨z, e, _, hw⟩ := DataW.trod_string ht h
    exact ⟨z, e, hw⟩⟩
theorem Opens.via {α β : Type} {E : El α} {t : TypeId} (h : Opens E t) {f : β → α} {d : β} (hf : ∀ x, ∃ y, f y = x) : Opens (E.via f d) t :=
  ⟨h.1, fun H enc W held fuel cs x h1 hz => by
    obtain ⟨z, hz⟩ := h.2 H enc W held fuel cs x h1 hz
    obtain ⟨y, rfl⟩ := hf z
    exact ⟨y, hz⟩⟩
theorem list_of_ltG {α : Type} {d : α} {p : Nat → α → Prop} : ∀ n, (∀ i, i < n → ∃ o, p i o) → ∃ os : List α, os.length = n ∧ ∀ i, i < n → p i (os.getD i d) := by
  intro n
  induction n with
  | zero => exact fun _ => ⟨[], rfl, fun i hi => by omega⟩
  | succ n ih =>
    intro h
    obtain ⟨os, hl, ho⟩ := ih (fun i hi => h i (by omega))
    obtain ⟨o, h1⟩ := h n (by omega)
    refine ⟨os ++ [o], by simp [hl], fun i hi => ?_⟩
    by_cases hi' : i < n
    · have e : (os ++ [o]).getD i d = os.getD i d := by simp [List.getD, List.getElem?_append_left (show i < os.length by omega)]
      rw [e]
      exact ho i hi'
    · have e : i = n := by omega
      subst e
      have e : (os ++ [o]).getD i d = o := by simp [List.getD, ← hl]
      rw [e]
      exact h1
theorem weights_all {H : Type} {P : Program} {e : TypeId} {d : DataW H} : ∀ {l : List (DataW H)}, d ∈ l → ∀ {n : Nat}, n ∈ d.weights P e → n ∈ DataW.weightsAll P e l
  | c :: l, h, n, hn => by
    rw [DataW.weightsAll, List.mem_append]
    rcases List.mem_cons.1 h with h | h
    · exact .inl (by rw [← h]; exact hn)
    · exact .inr (weights_all h hn)
theorem Opens.row {α : Type} {E : El α} {t e : TypeId} (h : Opens E e) (ht : Try.prog.underlying t = some (.slice e)) (hc : Try.prog.cellsOf t = 1) (hsz : 0 < E.sz) (hby : 1 ≤ Try.prog.bytesOf e) : Opens E.row t :=
  ⟨hc, fun H enc W held fuel cs x hf hz => by
    rcases open_slice ht hf with ⟨hcs, _⟩ | ⟨ad, len, cap, m, n, D, Pl, hcs, _, hl, hm, hmm, hx, hel⟩
    · exact ⟨[], none, 0, hcs, (fun b o e1 => by cases e1), Gr.nil _ _ _ _ _ (Nat.zero_le _) (fun _ => rfl), Nat.zero_le _⟩
    · have hle : len ≤ m := by rw [hmm]; split <;> omega
      subst hx
      have hzm : ∀ i, i < len → ∀ k ∈ (D i).weights Try.prog e, k ≤ reachBytes := by
        intro i hi k hk
        refine hz k ?_
        simp only [DataW.weights, ht, List.mem_cons, List.mem_append]
        exact .inr (.inl (weights_all (List.mem_map.2 ⟨i, List.mem_range.2 hi, rfl⟩) hk))
      have hzl : len ≤ 140737488351232 := by
        have h1 := hz ((((List.range len).map D).length + ((List.range (m - len)).map fun j => D (len + j)).length) * Try.prog.bytesOf e) (by simp only [DataW.weights, ht]; exact List.mem_cons_self)
        rw [List.length_map, List.length_map, List.length_range, List.length_range] at h1
        have h2 : (len + (m - len)) * 1 ≤ (len + (m - len)) * Try.prog.bytesOf e := Nat.mul_le_mul_left _ hby
        have h3 : reachBytes = 140737488351232 := rfl
        omega
      have hone : ∀ i, i < len → ∃ o : α, ∃ vs, E.rep (fun k => k < W.heap.size) W vs o ∧ ∀ j, j < E.sz → W.cell? ((ad.add (i * E.sz)).add j) = vs[j]? := by
        intro i hi
        obtain ⟨cs', hc', ht'⟩ := hel i (by omega)
        rw [h.1] at hc'
        obtain ⟨hlen, _, hcell⟩ := World.cells?_some hc'
        obtain ⟨o, ho⟩ := h.2 H enc W held n cs' _ ht' (hzm i hi)
        refine ⟨o, cs', ho, fun j hj => ?_⟩
        have := hcell j (by omega)
        rw [this, List.getElem?_eq_getElem (by omega)]
      obtain ⟨os, hol, ho⟩ := list_of_ltG (d := E.dfl) len hone
      have key : ∀ i, i < len → ∃ b off vs, ad = ⟨b, off, none⟩ ∧ b < W.heap.size ∧ E.rep (fun k => k < W.heap.size) W vs (os.getD i E.dfl) ∧ ∀ j, j < E.sz → W.cell? ⟨b, off + i * E.sz + j, none⟩ = vs[j]? := by
        intro i hi
        obtain ⟨vs, h1, h2⟩ := ho i hi
        obtain ⟨b, off, spot⟩ := ad
        have h0 := h2 0 hsz
        have hv : 0 < vs.length := by rw [E.len h1]; exact hsz
        rw [List.getElem?_eq_getElem hv] at h0
        have hspot : spot = none := by
          obtain ⟨vs', h1', h2'⟩ := ho 0 (by omega)
          have h0' := h2' 0 hsz
          rw [List.getElem?_eq_getElem (by rw [E.len h1']; exact hsz)] at h0'
          have := World.cell?_spot h0'
          simpa [Addr.add] using this
        subst hspot
        have hadd : ∀ i, (⟨b, off, none⟩ : Addr).add i = ⟨b, off + i, none⟩ := by intro i; unfold Addr.add; split <;> simp_all
        have hadd2 : ∀ i j, ((⟨b, off, none⟩ : Addr).add i).add j = ⟨b, off + i + j, none⟩ := by intro i j; rw [hadd]; unfold Addr.add; split <;> simp_all
        have hlt := World.block_lt_of_cell? W _ h0
        rw [hadd2] at hlt
        exact ⟨b, off, vs, rfl, hlt, h1, fun j hj => by rw [← hadd2]; exact h2 j hj⟩
      refine ⟨os, some ad, cap, by rw [hcs, hol], fun b o e1 hne => ?_, ⟨by omega, hm, (fun e => by cases e), fun i hi => ?_⟩, by rw [hol]; exact hzl⟩
      · obtain ⟨b', off', _, e2, hb', _⟩ := key 0 (by have := List.length_pos_iff.2 hne; omega)
        rw [e2] at e1
        cases e1
        exact hb'
      · obtain ⟨b, off, vs, e2, hb, h1, h2⟩ := key i (by omega)
        exact ⟨b, off, vs, by rw [e2], hb, h1, h2⟩⟩
/-- Fields, one behind the other. -/
def OpensF {α : Type} (E : El α) (fs : List Field) (off : Nat) : Prop :=
  ∀ (H : Type) (enc : TypeId × Value → H) (W : World) (held : Bool) (n : Nat) (cs : List Value), (∀ f ∈ fs, ∃ y, DataW.trod enc Try.prog W 0 (fun _ => true) held n f.type ((cs.drop f.offset).take (Try.prog.cellsOf f.type)) = some y ∧ ∀ k ∈ y.1.weights Try.prog f.type, k ≤ reachBytes) →
    ∃ x : α, E.rep (fun k => k < W.heap.size) W ((cs.drop off).take E.sz) x
theorem OpensF.last {α : Type} {E : El α} {f : Field} {off : Nat} (h : Opens E f.type) (ho : f.offset = off) : OpensF E [f] off := by
  intro H enc W held n cs hy
  obtain ⟨y, hy, hz⟩ := hy f (by simp)
  rw [h.1, ho] at hy
  exact h.2 H enc W held n _ y hy hz
theorem OpensF.more {α β : Type} {E : El α} {F : El β} {f : Field} {fs : List Field} {off : Nat} (h : Opens E f.type) (ho : f.offset = off) (hs : OpensF F fs (off + E.sz)) : OpensF (E.cat F) (f :: fs) off := by
  intro H enc W held n cs hy
  obtain ⟨y, hy0, hz0⟩ := hy f (by simp)
  rw [h.1, ho] at hy0
  obtain ⟨x, hx⟩ := h.2 H enc W held n _ y hy0 hz0
  obtain ⟨z, hz⟩ := hs H enc W held n cs (fun g hg => hy g (by simp [hg]))
  refine ⟨(x, z), (cs.drop off).take E.sz, (cs.drop (off + E.sz)).take F.sz, ?_, hx, hz⟩
  show (cs.drop off).take (E.sz + F.sz) = _
  rw [List.take_add, List.drop_drop]
theorem Opens.struct {α : Type} {E : El α} {t : TypeId} {fs : Array Field} (ht : Try.prog.underlying t = some (.struct fs)) (hc : Try.prog.cellsOf t = E.sz) (h : OpensF E fs.toList 0) : Opens E t :=
  ⟨hc, fun H enc W held fuel cs x hf hz => by
    obtain ⟨xs, n, _, hx, hl, hlen, hff⟩ := DataW.trod_struct ht hf
    subst hx
    obtain ⟨y, hy⟩ := h H enc W held n cs (fun f hf' => by
      obtain ⟨i, hi, e⟩ := List.getElem_of_mem hf'
      have := hff i f (by rw [← e]; simp)
      have hix : i < xs.length := by simpa [hlen] using hi
      rw [this]
      refine ⟨xs[i]'hix, by rw [List.getElem?_eq_getElem], fun k hk => hz k ?_⟩
      simp only [DataW.weights, ht]
      refine DataW.weights_mem_each (j := i) (t := f.type) (d := (xs[i]'hix).1) ?_ ?_ k hk
      · rw [List.getElem?_map, List.getElem?_eq_getElem hi, e]
        rfl
      · rw [List.getElem?_map, List.getElem?_eq_getElem hix]
        rfl)
    rw [List.drop_zero, List.take_of_length_le (by rw [hl, hc]; exact Nat.le_refl _)] at hy
    exact ⟨y, hy⟩⟩
set_option maxRecDepth 100000 in
/-- A struct by value. -/
theorem Opens.agg {α : Type} {E : El α} {t : TypeId} (h : Opens E t) {fs : Array Field} (ht : Try.prog.underlying t = some (.struct fs)) {H : Type} {enc : TypeId × Value → H} {W : World} {held : Bool} {r : Reach} {b0 : Nat} {v : Value} {d : DataW H} {p : List MemPlace}
    (hv : Value.okWide Try.prog W r b0 t v) (hd : DataW.Trod enc Try.prog W 0 (fun _ => true) held t v d p) (hz : ∀ n ∈ d.weights Try.prog t, n ≤ reachBytes) : ∃ (cs : Array Value) (y : α), v = .agg cs ∧ E.rep (fun k => k < W.heap.size) W cs.toList y := by
  obtain ⟨cs, rfl, hsz⟩ := okWide_struct ht hv
  obtain ⟨fuel, hf⟩ := hd
  obtain ⟨y, hy⟩ := h.2 H enc W held fuel _ _ hf hz
  exact ⟨cs, y, rfl, by simpa [Value.cells] using hy⟩
set_option maxRecDepth 100000 in
/-- Anything of one cell. -/
theorem Opens.cell {α : Type} {E : El α} {t : TypeId} (h : Opens E t) {H : Type} {enc : TypeId × Value → H} {W : World} {held : Bool} {v : Value} {d : DataW H} {p : List MemPlace}
    (hd : DataW.Trod enc Try.prog W 0 (fun _ => true) held t v d p) (hz : ∀ n ∈ d.weights Try.prog t, n ≤ reachBytes) (hone : v.cells = #[v]) : ∃ y : α, E.rep (fun k => k < W.heap.size) W [v] y := by
  obtain ⟨fuel, hf⟩ := hd
  obtain ⟨y, hy⟩ := h.2 H enc W held fuel _ _ hf hz
  exact ⟨y, by simpa [hone] using hy⟩

end Go.Proofs.Ytaejlopkdkaphaa

namespace Go.Proofs.Ytaejlopkdkaphaa
open Go.RowKit
open Go.ChangeShapes Go.WideShapes Go.Joins Go.Deep
set_option linter.unusedSimpArgs false
set_option linter.unusedVariables false

theorem opens_intE : Opens El.int 3 := Opens.int Try.underlying3 (by kernel_rfl)
theorem opens_isE : Opens El.int.row 26 := Opens.row opens_intE Try.underlying26 (by kernel_rfl) Nat.one_pos (of_decide_eq_true (by kernel_rfl))
theorem opens_strE : Opens El.str 9 := Opens.str Try.underlying9 (by kernel_rfl)
theorem opens_ssE : Opens El.str.row 27 := Opens.row opens_strE Try.underlying27 (by kernel_rfl) Nat.one_pos (of_decide_eq_true (by kernel_rfl))
theorem opens_cnE : Opens CnE 46 :=
  (Opens.struct (E := El.int.cat (El.int.cat El.int)) Try.underlying46 (by kernel_rfl) (OpensF.more opens_intE rfl (OpensF.more opens_intE rfl (OpensF.last opens_intE rfl)))).via (fun x => ⟨⟨x.1, x.2.1, x.2.2⟩, rfl⟩)
theorem opens_cnsE : Opens CnE.row 43 := Opens.row opens_cnE Try.underlying43 (by kernel_rfl) (by decide) (of_decide_eq_true (by kernel_rfl))
theorem opens_ftE : Opens FtE 49 :=
  (Opens.struct (E := El.str.cat El.int.row) Try.underlying49 (by kernel_rfl) (OpensF.more opens_strE rfl (OpensF.last opens_isE rfl))).via (fun x => ⟨⟨x.1, x.2⟩, rfl⟩)
theorem opens_ftsE : Opens FtE.row 22 := Opens.row opens_ftE Try.underlying22 (by kernel_rfl) (by decide) (of_decide_eq_true (by kernel_rfl))
theorem opens_swE : Opens SwE 53 :=
  (Opens.struct (E := CnE.row.cat (El.int.cat El.int.row)) Try.underlying53 (by kernel_rfl) (OpensF.more opens_cnsE rfl (OpensF.more opens_intE rfl (OpensF.last opens_isE rfl)))).via (fun x => ⟨⟨x.1, x.2.1, x.2.2⟩, rfl⟩)
theorem opens_swsE : Opens SwE.row 23 := Opens.row opens_swE Try.underlying23 (by kernel_rfl) (by decide) (of_decide_eq_true (by kernel_rfl))

theorem opens_setE : Opens (FtE.row.cat (SwE.row.cat (El.int.cat El.int))) 25 :=
  Opens.struct Try.underlying25 (by kernel_rfl) (OpensF.more opens_ftsE rfl (OpensF.more opens_swsE rfl (OpensF.more opens_intE rfl (OpensF.last opens_intE rfl))))
set_option maxRecDepth 100000 in
/-- A row. -/
theorem open_rowE {α : Type} {E : El α} {t : TypeId} (ho : Opens E.row t) {H : Type} {enc : TypeId × Value → H} {W : World} {held : Bool} {a : Option Addr} {len cap : Nat} {d : DataW H} {p : List MemPlace}
    (hd : DataW.Trod enc Try.prog W 0 (fun _ => true) held t (.slice a len cap) d p) (hz : ∀ n ∈ d.weights Try.prog t, n ≤ reachBytes) : ∃ l : List α, len = l.length ∧ Gr E (fun k => k < W.heap.size) W a cap l := by
  obtain ⟨l, a', cap', e, _, hg, _⟩ := ho.cell hd hz rfl
  simp at e
  obtain ⟨rfl, rfl, rfl⟩ := e
  exact ⟨l, rfl, hg⟩
set_option maxRecDepth 100000 in
/-- Features, swaps and two numbers, by value. -/
theorem open_setE {H : Type} {enc : TypeId × Value → H} {W : World} {held : Bool} {r : Reach} {b0 : Nat} {v : Value} {d : DataW H} {p : List MemPlace}
    (hv : Value.okWide Try.prog W r b0 25 v) (hd : DataW.Trod enc Try.prog W 0 (fun _ => true) held 25 v d p) (hz : ∀ n ∈ d.weights Try.prog 25, n ≤ reachBytes) :
    ∃ a ca, ∃ l : List Ft, ∃ b cb, ∃ s : List Sw, ∃ n ax : Int, v = .agg #[.slice a l.length ca, .slice b s.length cb, .int .i64 n, .int .i64 ax] ∧ FtE.row.rep (fun k => k < W.heap.size) W [.slice a l.length ca] l ∧ SwE.row.rep (fun k => k < W.heap.size) W [.slice b s.length cb] s ∧ I64 n ∧ I64 ax := by
  obtain ⟨xs, ⟨l, s, n, ax⟩, rfl, us, ts, e, h1, us2, ts2, e2, h2, us3, ts3, e3, ⟨h3, i3⟩, ⟨h4, i4⟩⟩ := opens_setE.agg Try.underlying25 hv hd hz
  have r1 := h1
  have r2 := h2
  obtain ⟨a, ca, ea, _⟩ := h1
  obtain ⟨b, cb, eb, _⟩ := h2
  subst ea eb h3 h4
  refine ⟨a, ca, l, b, cb, s, n, ax, ?_, r1, r2, i3, i4⟩
  congr 1
  apply Array.ext'
  rw [e, e2, e3]
  rfl

end Go.Proofs.Ytaejlopkdkaphaa

namespace Go.Proofs.Ytaejlopkdkaphaa
open Go.RowKit Go.Maps
set_option linter.unusedSimpArgs false
set_option linter.unusedVariables false

/-- A new page. -/
theorem pc_new (w : World) (G : Nat → Prop) (hG : ∀ k, G k → k < w.heap.size) : Pc (w.alloc (.cells #[.slice none 0 0, .int .i64 0, .map none, .bool false] 66)) w.heap.size G St.zero := by
  refine ⟨fun k hk => by have := hG k hk; simp; omega, fun h => by have := hG _ h; omega, Wf.zero, _, _, heap_alloc_new w _, fun h => (by cases h), fun _ => ⟨⟨World.ownsRow_nil _ _ _ _, fun g hg => (by cases hg)⟩, .inl ⟨rfl, rfl⟩⟩⟩

end Go.Proofs.Ytaejlopkdkaphaa

namespace Go.Proofs.Ytaejlopkdkaphaa
open Go.RowKit Go.Maps
set_option linter.unusedSimpArgs false
set_option linter.unusedVariables false

def St.later (s : St) : St := if s.no then s else { s with bs := s.bs ++ be4 0, ws := s.ws ++ [(s.bs.length : Int)] }
theorem Wf.later {s : St} (h : Wf s) : Wf s.later := by
  unfold St.later
  split
  · exact h
  · refine ⟨h.1.append (byt_be4 0), ?_, ?_, ?_⟩
    · rw [List.nodup_append]
      refine ⟨h.2.1, by simp, ?_⟩
      intro a ha b hb e
      have := h.2.2.1 a ha
      simp at hb
      omega
    · intro x hx
      simp at hx
      rcases hx with hx | hx
      · have := h.2.2.1 x hx
        simp [be4]; omega
      · simp [be4]; omega
    · have := h.2.2.2
      simp [be4]
      omega
theorem St.later_bad {s : St} (h : s.no = true) : s.later = s := by simp [St.later, h]
theorem St.later_ok {s : St} (h : s.no = false) : s.later = { s with bs := s.bs ++ be4 0, ws := s.ws ++ [(s.bs.length : Int)] } := by simp [St.later, h]

theorem wf64 {n : Int} (h : I64 n) : (Lit.int .i64 n).wf = true := WalkArith.wf_i64 h
theorem keyI : Keyed Try.prog 3 := int_keyed Try.underlying3
theorem zeroU (w : World) : (zeroValue 57).run Try.prog w = .ok (.agg #[]) w := by kernel_rfl

/-- A place more that waits. -/
theorem has_more {D : DataW Unit} {ws : List Int} {l : Int} (hm : IsMap D) (h : ∀ x : Int, Maps.has D (.int .i64 x) = decide (x ∈ ws)) (x : Int) :
    Maps.has (D.put (.int .i64 l) (.agg [])) (.int .i64 x) = decide (x ∈ ws ++ [l]) := by
  by_cases e : x = l
  · subst e
    rw [has_put_same hm (show WideAt.IsKeyLit (.int .i64 x) from trivial)]
    simp
  · rw [has_put_other (by intro e2; injection e2 with _ e3; exact e e3), h x]
    simp [e]
theorem size_more {D : DataW Unit} {ws : List Int} {l : Int} (hm : Tidy D) (h : ∀ x : Int, Maps.has D (.int .i64 x) = decide (x ∈ ws)) (hs : Maps.size D = ws.length) (hl : l ∉ ws) :
    Maps.size (D.put (.int .i64 l) (.agg [])) = (ws ++ [l]).length := by
  rw [size_put hm, h l, hs]
  simp [hl]

end Go.Proofs.Ytaejlopkdkaphaa

namespace Go.Proofs.Ytaejlopkdkaphaa
open Go.RowKit Go.Maps
set_option linter.unusedSimpArgs false
set_option linter.unusedVariables false

/-- Bytes are laid over others. -/
def ovr (bs : List Nat) (q : Nat) (xs : List Nat) : List Nat := bs.take q ++ xs ++ bs.drop (q + xs.length)
theorem ovr_len {bs : List Nat} {q : Nat} {xs : List Nat} (h : q + xs.length ≤ bs.length) : (ovr bs q xs).length = bs.length := by simp [ovr]; omega
theorem byt_ovr {bs : List Nat} {q : Nat} {xs : List Nat} (h : Byt bs) (hx : Byt xs) : Byt (ovr bs q xs) := ((h.take q).append hx).append (h.drop _)

def St.now (s : St) (m b : Int) : St :=
  if s.no then s else if m ∈ s.ws ∧ -2147483648 ≤ b ∧ b ≤ (s.bs.length : Int) then { s with bs := ovr s.bs m.toNat (be4 ((s.bs.length : Int) - b)), ws := s.ws.filter (fun x => decide (x ≠ m)) } else s.fail
theorem St.now_bad {s : St} (h : s.no = true) (m b : Int) : s.now m b = s := by simp [St.now, h]
theorem St.now_ok {s : St} (h : s.no = false) {m b : Int} (hc : m ∈ s.ws ∧ -2147483648 ≤ b ∧ b ≤ (s.bs.length : Int)) :
    s.now m b = { s with bs := ovr s.bs m.toNat (be4 ((s.bs.length : Int) - b)), ws := s.ws.filter (fun x => decide (x ≠ m)) } := by
  unfold St.now
  rw [h, if_pos hc]
  simp
theorem St.now_no {s : St} (h : s.no = false) {m b : Int} (hc : ¬ (m ∈ s.ws ∧ -2147483648 ≤ b ∧ b ≤ (s.bs.length : Int))) : s.now m b = s.fail := by
  unfold St.now
  rw [h, if_neg hc]
  simp
theorem Wf.now {s : St} (h : Wf s) (m b : Int) : Wf (s.now m b) := by
  unfold St.now
  split
  · exact h
  · split
    · rename_i hc
      obtain ⟨hm, _, _⟩ := hc
      have h1 := h.2.2.1 m hm
      have hlen : (ovr s.bs m.toNat (be4 ((s.bs.length : Int) - b))).length = s.bs.length := ovr_len (by simp [be4]; omega)
      refine ⟨byt_ovr h.1 (byt_be4 _), h.2.1.filter _, fun x hx => ?_, ?_⟩
      · rw [List.mem_filter] at hx
        have := h.2.2.1 x hx.1
        dsimp only
        rw [hlen]
        exact this
      · dsimp only
        rw [hlen]
        have := List.length_filter_le (fun x => decide (x ≠ m)) s.ws
        have := h.2.2.2
        omega
    · exact h

theorem has_less {D : DataW Unit} {ws : List Int} {m : Int} (h : ∀ x : Int, Maps.has D (.int .i64 x) = decide (x ∈ ws)) (x : Int) :
    Maps.has (D.del (.int .i64 m)) (.int .i64 x) = decide (x ∈ ws.filter (fun x => decide (x ≠ m))) := by
  by_cases e : x = m
  · subst e
    rw [has_del_same]
    simp
  · rw [has_del_other (by intro e2; injection e2 with _ e3; exact e e3), h x]
    simp [e]
theorem length_less : ∀ {ws : List Int} {m : Int}, ws.Nodup → m ∈ ws → (ws.filter (fun x => decide (x ≠ m))).length + 1 = ws.length := by
  intro ws m hn hm
  have e : ws.filter (fun x => decide (x ≠ m)) = ws.erase m := by
    rw [hn.erase_eq_filter]
    apply List.filter_congr
    intro x _
    by_cases h : x = m <;> simp [h]
  rw [e, List.length_erase_of_mem hm]
  have := List.length_pos_of_mem hm
  omega
theorem size_less {D : DataW Unit} {ws : List Int} {m : Int} (ht : Tidy D) (h : ∀ x : Int, Maps.has D (.int .i64 x) = decide (x ∈ ws)) (hs : Maps.size D = ws.length) (hn : ws.Nodup) (hm : m ∈ ws) :
    Maps.size (D.del (.int .i64 m)) = (ws.filter (fun x => decide (x ≠ m))).length := by
  have e := size_del (k := .int .i64 m) ht
  rw [h m, hs] at e
  have := length_less hn hm
  simp only [hm, decide_true, if_true] at e
  omega
theorem ownsMap_tight {w : World} {k : TypeId} {b n : Nat} {D : DataW Unit} (h : w.ownsMap Try.prog k unitElem b n D) : w.ownsMap Try.prog k unitElem b (Maps.size D) D := by
  obtain ⟨es, clock, hb, F, hs, rfl⟩ := h
  exact ⟨es, clock, hb, F, by simp [Maps.size, length_sorted], rfl⟩

theorem copyEq (u : World) (g q l cap : Nat) (cur : Array Value) (a : Option Addr) (c : Nat) (xs : List Nat) (ty : TypeId) (hg : u.heap[g]? = some (.cells cur 5 (0, 0))) (hr : Rb u a c xs) (hx : xs.length = 4) (hq : q + 4 ≤ l) (hl : l ≤ cur.size) :
    (Builtin.copy_ #[34, 34] ty #[.slice (some ⟨g, q, none⟩) (l - q) (cap - q), .slice a xs.length c]).run Try.prog u = .ok (goInt 4) (u.setRow g (cur.toList.take q ++ xs.map Y ++ cur.toList.drop (q + 4)).toArray) := by
  rcases hr.fm with h0 | ⟨b, off, rfl, hb, hc⟩
  · rw [h0] at hx; cases hx
  · have h := run_copy_row (P := Try.prog) u 34 34 ty 5 g q (l - q) (cap - q) ⟨b, off, none⟩ xs.length c cur 5 (xs.map Y) Try.underlying34 (by kernel_rfl) hg (by rw [List.length_map, hx]; show 4 = min 4 (l - q); omega) (by
      intro j v hj
      have hjl : j < xs.length := by
        rcases Nat.lt_or_ge j xs.length with h1 | h1
        · exact h1
        · rw [List.getElem?_eq_none (by simpa using h1)] at hj; cases hj
      have hadd : (⟨b, off, none⟩ : Addr).add j = ⟨b, off + j, none⟩ := by unfold Addr.add; split <;> simp_all
      rw [hadd, hc j hjl]
      rw [List.getElem?_map, List.getElem?_eq_getElem hjl] at hj
      simp at hj
      rw [← hj]
      simp [List.getD, hjl, Y]) (by simp [hx]; omega) (oneCell_Y xs)
    rw [List.length_map, hx] at h
    rw [hx]
    exact h

theorem now_fin {u : World} {B g m q l cap : Nat} {G : Nat → Prop} {s s' : St} {cur : Array Value} {D : DataW Unit} {xs : List Nat} (hGs : ∀ k, G k → k < u.heap.size) (hGB : ¬ G B)
    (hQ : Bx4 u B (.slice (some ⟨g, 0, none⟩) l cap) (.int .i64 (l : Int)) (.map (some m)) (.bool false)) (hR : Row u G (.slice (some ⟨g, 0, none⟩) l cap) s.bs) (hg : u.heap[g]? = some (.cells cur 5 (0, 0)))
    (hcur : cur.toList.take l = s.bs.map Y) (hcs : l ≤ cur.size) (hl : s.bs.length = l)
    (hmG : ¬ G m) (hown : u.ownsMap Try.prog 3 (unitElem (H := Unit)) m s'.ws.length D) (hhas : ∀ x : Int, Maps.has D (.int .i64 x) = decide (x ∈ s'.ws)) (hsize : Maps.size D = s'.ws.length)
    (hx : xs.length = 4) (hq : q + 4 ≤ l) (hb : s'.bs = ovr s.bs q xs) (hno : s'.no = false) (hw : Wf s') :
    Pc (u.setRow g (cur.toList.take q ++ xs.map Y ++ cur.toList.drop (q + 4)).toArray) B G s' ∧ Keep G u (u.setRow g (cur.toList.take q ++ xs.map Y ++ cur.toList.drop (q + 4)).toArray) := by
  have hgG : ¬ G g := hR.2 g rfl
  have hgB : B ≠ g := fun e => hR.ne hQ (by decide) (by rw [e]; rfl)
  have hlen : s'.bs.length = l := by rw [hb, ovr_len (by omega), hl]
  obtain ⟨es, clock, hbm, hF⟩ := hown
  have hgm : m ≠ g := fun e => hR.ne_map hbm (by rw [e]; rfl)
  have hrow := setRow_heap u g cur (cur.toList.take q ++ xs.map Y ++ cur.toList.drop (q + 4)).toArray _ _ hg
  refine ⟨⟨fun k hk => by simpa using hGs k hk, hGB, hw, .slice (some ⟨g, 0, none⟩) l cap, .map (some m), ?_, (fun hn => by rw [hno] at hn; cases hn), fun _ => ⟨⟨⟨?_, .inr ?_⟩, hR.2⟩, .inr ⟨m, D, rfl, hmG, ⟨es, clock, (setRow_other u g m _ hgm).trans hbm, hF⟩, hhas, hsize⟩⟩⟩, ⟨rfl, rfl, rfl, by simp, fun k hk => setRow_other u g k _ (fun e => hgG (e ▸ hk))⟩⟩
  · rw [hlen, hno]
    exact (setRow_other u g B _ hgB).trans hQ
  · simp
  · rcases hR.1.2 with ⟨e, _⟩ | ⟨g', cap', cur', e, h1, h2, h3, h4, h5, h6⟩
    · cases e
    · simp at e
      obtain ⟨rfl, _, rfl⟩ := e
      rw [hg] at h2
      simp at h2
      subst h2
      refine ⟨g, cap, _, by rw [hlen], Nat.zero_le _, hrow, by rw [hlen, ← hl]; exact h3, h4, ?_, ?_⟩
      · rw [← h5]
        simp [hx]
        omega
      · rw [Nat.mul_one, hlen, hb, ovr, hx, List.map_append, List.map_append]
        have e1 : (s.bs.take q).map Y = cur.toList.take q := by
          rw [List.map_take, ← hcur, List.take_take, Nat.min_eq_left (by omega)]
        have e2 : (s.bs.drop (q + 4)).map Y = (cur.toList.take l).drop (q + 4) := by
          rw [List.map_drop, ← hcur]
        have hcl : cur.toList.length = cur.size := Array.length_toList
        rw [e1, e2, List.take_append, List.take_of_length_le (by simp [hx]; omega), List.drop_take]
        congr 1
        congr 1
        simp [hx]
        omega

end Go.Proofs.Ytaejlopkdkaphaa
