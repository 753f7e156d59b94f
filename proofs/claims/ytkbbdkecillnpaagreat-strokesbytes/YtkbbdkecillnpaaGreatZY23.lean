/-
  Contours of the call's own, each in a block of its own, told by its number; maps of values. Nothing here is a walk.
  Contours of a pen: each a row of the call's own (or nil); a point more at the end of the last one. Nothing here is a walk.
  (*strokes.pen).move: the walk.
-/
import Derived.Test.YtkbbdkecillnpaaGreatZY22
import Derived.Maps.OwnSet
import Derived.Test.YtkbbdkecillnpaaGreatZY8
namespace Go.Proofs.YtkbbdkecillnpaaGreat
open Go.RowKit Go.Maps
set_option linter.unusedSimpArgs false
set_option linter.unusedVariables false

theorem Gw.low {α : Type} {E : El α} {t : TypeId} {base base' : Nat} {S : Nat → Prop} {w : World} {v : Value} {l : List α} (h : Gw E t base S w v l) (hb : base' ≤ base) : Gw E t base' S w v l := by
  obtain ⟨vss, hl, ⟨k1, k2⟩, h4⟩ := h
  refine ⟨vss, hl, ⟨k1, ?_⟩, h4⟩
  rcases k2 with k2 | ⟨g, cap, cur, e, hg, r⟩
  · exact .inl k2
  · exact .inr ⟨g, cap, cur, e, Nat.le_trans hb hg, r⟩
theorem Gw.form {α : Type} {E : El α} {t : TypeId} {base : Nat} {S : Nat → Prop} {w : World} {v : Value} {l : List α} (h : Gw E t base S w v l) {q : Nat} (hq : v.ownBlock = some q) : ∃ cap, v = .slice (some ⟨q, 0, none⟩) l.length cap := by
  obtain ⟨vss, hl, ⟨k1, k2⟩, h4⟩ := h
  rcases k2 with ⟨e, _⟩ | ⟨g, cap, cur, e, hg, r⟩
  · rw [e] at hq; cases hq
  · rw [e] at hq
    have : some g = some q := hq
    injection this with this
    subst this
    exact ⟨cap, e⟩
theorem Gw.widenU {α : Type} {E : El α} {t : TypeId} {base : Nat} {S S' : Nat → Prop} {w : World} {v : Value} {l : List α} (h : Gw E t base S w v l) (hS : ∀ k, S k → k < w.heap.size → S' k) : Gw E t base S' w v l :=
  h.stay (Nat.le_refl _) (fun k h1 _ h2 => ⟨hS k h1 h2, rfl⟩) (fun _ _ => rfl)
theorem Bk.set2U {t : TypeId} {w : World} {g : Nat} {x y : Value} (h : Bk t w g [x, y]) (x' y' : Value) : Bk t ((w.setCell ⟨g, 0, none⟩ x').setCell ⟨g, 1, none⟩ y') g [x', y'] := (h.set 0 x').set 1 y'
theorem set2_otherU {w : World} {g b : Nat} (x' y' : Value) (hb : b ≠ g) : ((w.setCell ⟨g, 0, none⟩ x').setCell ⟨g, 1, none⟩ y').heap[b]? = w.heap[b]? := by
  rw [Below.heap_setCell _ _ _ _ (fun e => hb e), Below.heap_setCell _ _ _ _ (fun e => hb e)]
theorem set2_sizeU {w : World} {g : Nat} (x' y' : Value) : ((w.setCell ⟨g, 0, none⟩ x').setCell ⟨g, 1, none⟩ y').heap.size = w.heap.size := by simp [World.setCell]
/-- A contour of the call's own, with its block's number. -/
def PkE : El (Nat × List Pn) where
  sz := 1
  dfl := (0, [])
  rep := fun S w vs x => ∃ cap, vs = [.slice (some ⟨x.1, 0, none⟩) x.2.length cap] ∧ S x.1 ∧ Gw PnE 54 0 (fun _ => False) w (.slice (some ⟨x.1, 0, none⟩) x.2.length cap) x.2 ∧ x.2.length ≤ 140737488351232
  len := fun ⟨cap, e, _⟩ => by rw [e]; rfl
  one := fun ⟨cap, e, _⟩ u hu => by rw [e] at hu; rw [List.mem_singleton.1 hu]; rfl
  stay := fun {S S' w w' vs x} ⟨cap, e, hS, h, hb⟩ hs hk => by
    have hlt := (h.lo (g := x.1) rfl).2
    refine ⟨cap, e, (hk x.1 hS hlt).1, h.stay hs (fun k h => h.elim) (fun k hk' => ?_), hb⟩
    have hk2 : some x.1 = some k := hk'
    injection hk2 with hk2
    subst hk2
    exact (hk x.1 hS hlt).2
theorem PkE_row {S : Nat → Prop} {w : World} {vs : List Value} {x : Nat × List Pn} (h : PkE.rep S w vs x) : PnE.row.rep S w vs x.2 := by
  obtain ⟨cap, e, hS, hg, hb⟩ := h
  obtain ⟨a, c, e2, hr, _⟩ := hg.slice
  injection e2 with e3 e4 e5
  subst e3 e5
  refine ⟨_, _, e, fun b o e6 _ => ?_, hr.anyP, hb⟩
  cases e6
  exact hS
theorem getD_snd {L : List (Nat × List Pn)} {i : Nat} (hi : i < L.length) : (L.map Prod.snd).getD i [] = (L.getD i (0, [])).2 := by simp [List.getD, hi]
theorem Gr.rows {S : Nat → Prop} {w : World} {a : Option Addr} {cap : Nat} {L : List (Nat × List Pn)} (h : Gr PkE S w a cap L) : Gr PnE.row S w a cap (L.map Prod.snd) := by
  refine ⟨by rw [List.length_map]; exact h.1, h.2.1, h.2.2.1, fun i hi => ?_⟩
  rw [List.length_map] at hi
  obtain ⟨b, off, vs, e, hb, hr, hc⟩ := h.2.2.2 i hi
  exact ⟨b, off, vs, e, hb, by rw [show PnE.row.dfl = [] from rfl, getD_snd hi]; exact PkE_row hr, hc⟩
theorem Gw.rows {t : TypeId} {base : Nat} {S : Nat → Prop} {w : World} {v : Value} {L : List (Nat × List Pn)} (h : Gw PkE t base S w v L) : Gw PnE.row t base S w v (L.map Prod.snd) := by
  obtain ⟨vss, hl, h3, h4⟩ := h
  refine ⟨vss, by rw [List.length_map]; exact hl, by rw [List.length_map]; exact h3, fun i hi => ?_⟩
  rw [List.length_map] at hi
  rw [show PnE.row.dfl = [] from rfl, getD_snd hi]
  exact PkE_row (h4 i hi)
theorem Gw.ids {t : TypeId} {base : Nat} {S : Nat → Prop} {w : World} {v : Value} {L : List (Nat × List Pn)} (h : Gw PkE t base S w v L) : ∀ x ∈ L, S x.1 ∧ x.1 < w.heap.size := by
  obtain ⟨vss, hl, h3, h4⟩ := h
  intro x hx
  obtain ⟨i, hi, e⟩ := List.getElem_of_mem hx
  obtain ⟨cap, e1, hS, hg, hb⟩ := h4 i hi
  have e2 : L.getD i PkE.dfl = x := by rw [List.getD_eq_getElem?_getD, List.getElem?_eq_getElem hi, Option.getD_some, e]
  rw [e2] at hS hg
  exact ⟨hS.1, (hg.lo rfl).2⟩
/-- A contour of one's own, as an element. -/
theorem PkE_of {S : Nat → Prop} {w : World} {base q cap : Nat} {c : List Pn} (h : Gw PnE 54 base (fun _ => False) w (.slice (some ⟨q, 0, none⟩) c.length cap) c) (hS : S q) (hb : c.length ≤ 140737488351232) : PkE.rep S w [.slice (some ⟨q, 0, none⟩) c.length cap] (q, c) :=
  ⟨cap, rfl, hS, h.low (Nat.zero_le _), hb⟩
theorem nodup_snoc {L : List (Nat × List Pn)} {x : Nat × List Pn} (h : (L.map Prod.fst).Nodup) (hx : ∀ y ∈ L, y.1 ≠ x.1) : ((L ++ [x]).map Prod.fst).Nodup := by
  rw [List.map_append, List.nodup_append]
  refine ⟨h, by simp, fun a ha b hb => ?_⟩
  obtain ⟨y, hy, rfl⟩ := List.mem_map.1 ha
  have : b = x.1 := by simpa using hb
  rw [this]
  exact hx y hy
theorem nodup_app {L M : List (Nat × List Pn)} (h : (L.map Prod.fst).Nodup) (k : (M.map Prod.fst).Nodup) (hx : ∀ x ∈ L, ∀ y ∈ M, x.1 ≠ y.1) : ((L ++ M).map Prod.fst).Nodup := by
  rw [List.map_append, List.nodup_append]
  refine ⟨h, k, fun a ha b hb => ?_⟩
  obtain ⟨x, hx1, rfl⟩ := List.mem_map.1 ha
  obtain ⟨y, hy1, rfl⟩ := List.mem_map.1 hb
  exact hx x hx1 y hy1

/-! Maps of ints to values. -/
/-- A value, as it is. -/
def rawE (v : Value) : Option (DataW Value × List MemPlace) := some (.held v, [])
theorem keyN : Keyed Tryz.prog 3 := int_keyed Tryz.underlying3
theorem wfI {z : Int} (h : I64 z) : (Lit.int .i64 z).wf = true := WalkArith.wf_i64 h
theorem keyOfI {z : Int} (h : I64 z) : keyOf Tryz.prog 3 (.int .i64 z) = some (.int .i64 z) := keyOf_int_mk Tryz.underlying3 (wfI h)
theorem atKey_not {D : DataW Value} {k : Lit} (h : Maps.has D k = false) (z : DataW Value) : D.atKey k z = z := by
  cases D <;> try rfl
  rename_i es
  have h2 : es.any (fun p => p.1.sameKey k) = false := h
  have h3 : es.find? (fun p => p.1.sameKey k) = none := List.find?_eq_none.2 (fun p hp => by
    have := List.any_eq_false.1 h2 p hp
    simpa using this)
  unfold DataW.atKey
  simp only [h3]
/-- Block b is a map that holds F. -/
def Mp (w : World) (b n : Nat) (F : Int → Option Value) : Prop := ∃ D : DataW Value, w.ownsMap Tryz.prog 3 rawE b n D ∧ ∀ z, Maps.has D (.int .i64 z) = (F z).isSome ∧ ∀ v, F z = some v → ∀ zd, D.atKey (.int .i64 z) zd = .held v
theorem Mp.made (w : World) : Mp (w.alloc (.map #[] 0)) w.heap.size 0 (fun _ => none) := ⟨_, World.ownsMap_made w Tryz.prog 3 rawE, fun z => ⟨by simp [Maps.has], fun v e => by cases e⟩⟩
theorem Mp.lt {w : World} {b n : Nat} {F : Int → Option Value} (h : Mp w b n F) : b < w.heap.size := by
  obtain ⟨D, h1, _⟩ := h
  exact h1.lt
theorem Mp.stay {w w' : World} {b n : Nat} {F : Int → Option Value} (h : Mp w b n F) (hb : w'.heap[b]? = w.heap[b]?) : Mp w' b n F := by
  obtain ⟨D, ⟨es, clock, k1, k2⟩, h2⟩ := h
  exact ⟨D, ⟨es, clock, hb.trans k1, k2⟩, h2⟩
theorem Mp.below {w w' : World} {b n : Nat} {F : Int → Option Value} (h : Mp w b n F) (hb : Below w.heap.size w w') : Mp w' b n F := h.stay (hb.block b h.lt)
theorem Mp.mono {w : World} {b n m : Nat} {F : Int → Option Value} (h : Mp w b n F) (hn : n ≤ m) : Mp w b m F := by
  obtain ⟨D, h1, h2⟩ := h
  exact ⟨D, h1.mono hn, h2⟩
/-- 'v, is := m[z]': it is there. -/
theorem wpList_look_some {w : World} {ops : Array Oper} {rest : List Oper} {o : Oper} {a : Act} {Q : Exit → Act → World → Prop} (t e : TypeId) (ht : Tryz.prog.underlying t = some (.map 3 e)) {z0 : Value} (hz : (zeroValue e).run Tryz.prog w = .ok z0 w)
    (hg : o.guard = none) (m x : Operand) (hop : o.op = Op.lookup t m x true) (b n : Nat) (F : Int → Option Value) (z : Int) (hi : I64 z) (h : Mp w b n F) (hm : a.eval m = .map (some b)) (hx : a.eval x = .int .i64 z) (v : Value) (hF : F z = some v)
    (hK : wpList Tryz.prog ops Q rest (a.put o.dst (.tuple #[v, .bool true])) w) : wpList Tryz.prog ops Q (o :: rest) a w := by
  obtain ⟨D, h1, h2⟩ := h
  refine wpList_lookup_own_ok w hg m x t hop 3 e keyN ht rawE hz (.held z0) [] rfl b n D hm h1 _ _ hx (keyOfI hi) (fun u ps hu => ?_)
  obtain ⟨k1, k2⟩ := h2 z
  rw [k2 v hF] at hu
  have : u = v := by unfold rawE at hu; simp at hu; exact hu.1
  rw [this, k1, hF]
  exact hK
/-- It isn't. -/
theorem wpList_look_none {w : World} {ops : Array Oper} {rest : List Oper} {o : Oper} {a : Act} {Q : Exit → Act → World → Prop} (t e : TypeId) (ht : Tryz.prog.underlying t = some (.map 3 e)) {z0 : Value} (hz : (zeroValue e).run Tryz.prog w = .ok z0 w)
    (hg : o.guard = none) (m x : Operand) (hop : o.op = Op.lookup t m x true) (b n : Nat) (F : Int → Option Value) (z : Int) (hi : I64 z) (h : Mp w b n F) (hm : a.eval m = .map (some b)) (hx : a.eval x = .int .i64 z) (hF : F z = none)
    (hK : wpList Tryz.prog ops Q rest (a.put o.dst (.tuple #[z0, .bool false])) w) : wpList Tryz.prog ops Q (o :: rest) a w := by
  obtain ⟨D, h1, h2⟩ := h
  obtain ⟨k1, k2⟩ := h2 z
  have hno : Maps.has D (.int .i64 z) = false := by rw [k1, hF]; rfl
  have hat : D.atKey (.int .i64 z) (.held z0) = .held z0 := atKey_not hno _
  refine wpList_lookup_own_ok w hg m x t hop 3 e keyN ht rawE hz (.held z0) [] rfl b n D hm h1 _ _ hx (keyOfI hi) (fun u ps hu => ?_)
  rw [hat] at hu
  have : u = z0 := by unfold rawE at hu; simp at hu; exact hu.1
  rw [this, hno]
  exact hK
/-- 'm[z] = v'. -/
def Fup (F : Int → Option Value) (z : Int) (v : Value) : Int → Option Value := fun y => if y = z then some v else F y
theorem wpList_put_mp {w : World} {ops : Array Oper} {rest : List Oper} {o : Oper} {a : Act} {Q : Exit → Act → World → Prop} (t e : TypeId) (ht : Tryz.prog.underlying t = some (.map 3 e))
    (hg : o.guard = none) (m x y : Operand) (hop : o.op = Op.mapUpdate t m x y) (b n : Nat) (F : Int → Option Value) (z : Int) (v : Value) (hi : I64 z) (h : Mp w b n F) (hn : n ≤ 1000000000000) (hm : a.eval m = .map (some b)) (hx : a.eval x = .int .i64 z) (hy : a.eval y = v)
    (hK : ∀ w', Mp w' b (n + 1) (Fup F z v) → w.grownBy w' (some b) → wpList Tryz.prog ops Q rest (a.put o.dst undef) w') : wpList Tryz.prog ops Q (o :: rest) a w := by
  obtain ⟨D, h1, h2⟩ := h
  have hmap := h1.isMap
  refine wpList_mapUpdate_own w hg m x y t hop 3 e keyN ht rawE b n D hm h1 (by unfold maxLen; omega) _ _ _ hx hy (keyOfI hi) (.held v) [] rfl (fun w' k1 k2 => hK w' ⟨_, k1, fun u => ?_⟩ k2)
  unfold Fup
  by_cases hu : u = z
  · subst hu
    rw [if_pos rfl]
    refine ⟨has_put_same hmap (show WideAt.IsKeyLit (.int .i64 u) from trivial) _, fun v' e' zd => ?_⟩
    rw [← Option.some.inj e']
    exact atKey_put_same hmap (show WideAt.IsKeyLit (.int .i64 u) from trivial) _ _
  · rw [if_neg hu]
    have hne : (Lit.int .i64 u) ≠ .int .i64 z := fun e' => hu (by injection e')
    refine ⟨(has_put_other hne _).trans (h2 u).1, fun v' e' zd => ?_⟩
    rw [atKey_put_other hne]
    exact (h2 u).2 v' e' zd

/-- The same, as an operation of a region that draws. -/
theorem wp_put_mp {w : World} {o : Oper} {a : Act} {K : Act → World → Prop} {Q : Exit → Act → World → Prop} (t e : TypeId) (ht : Tryz.prog.underlying t = some (.map 3 e))
    (m x y : Operand) (hop : o.op = Op.mapUpdate t m x y) (b n : Nat) (F : Int → Option Value) (z : Int) (v : Value) (hi : I64 z) (h : Mp w b n F) (hn : n ≤ 1000000000000) (hm : a.eval m = .map (some b)) (hx : a.eval x = .int .i64 z) (hy : a.eval y = v)
    (hK : ∀ w', Mp w' b (n + 1) (Fup F z v) → w.grownBy w' (some b) → K (a.put o.dst undef) w') : o.wp Tryz.prog a w K Q := by
  obtain ⟨D, h1, h2⟩ := h
  have hmap := h1.isMap
  obtain ⟨w', hrun, k1, k2⟩ := h1.update keyN ht (by unfold maxLen; omega) (keyOfI hi) (show rawE v = some (.held v, []) from rfl)
  unfold Oper.wp
  simp [execOp, hop, hm, hx, hy, hrun, Result.andThen]
  refine hK w' ⟨_, k1, fun u => ?_⟩ k2
  unfold Fup
  by_cases hu : u = z
  · subst hu
    rw [if_pos rfl]
    refine ⟨has_put_same hmap (show WideAt.IsKeyLit (.int .i64 u) from trivial) _, fun v' e' zd => ?_⟩
    rw [← Option.some.inj e']
    exact atKey_put_same hmap (show WideAt.IsKeyLit (.int .i64 u) from trivial) _ _
  · rw [if_neg hu]
    have hne : (Lit.int .i64 u) ≠ .int .i64 z := fun e' => hu (by injection e')
    refine ⟨(has_put_other hne _).trans (h2 u).1, fun v' e' zd => ?_⟩
    rw [atKey_put_other hne]
    exact (h2 u).2 v' e' zd

end Go.Proofs.YtkbbdkecillnpaaGreat

namespace Go.Proofs.YtkbbdkecillnpaaGreat
open Go.RowKit Go.Maps
set_option linter.unusedSimpArgs false
set_option linter.unusedVariables false

/-- A contour of the call's own, nil or not, with its slice. -/
def CkE : El (Value × List Pn) where
  sz := 1
  dfl := (.slice none 0 0, [])
  rep := fun S w vs x => vs = [x.1] ∧ Gw PnE 54 0 (fun _ => False) w x.1 x.2 ∧ (∀ g, x.1.ownBlock = some g → S g) ∧ x.2.length ≤ 140737488351232
  len := fun ⟨e, _⟩ => by rw [e]; rfl
  one := fun ⟨e, h, _⟩ u hu => by
    obtain ⟨a, c, e2, _⟩ := h.slice
    rw [e, e2] at hu
    rw [List.mem_singleton.1 hu]
    rfl
  stay := fun {S S' w w' vs x} ⟨e, h, hS, hb⟩ hs hk =>
    ⟨e, h.stay hs (fun k h => h.elim) (fun k hk' => (hk k (hS k hk') (h.lo hk').2).2), fun g hg => (hk g (hS g hg) (h.lo hg).2).1, hb⟩
theorem CkE_row {S : Nat → Prop} {w : World} {vs : List Value} {x : Value × List Pn} (h : CkE.rep S w vs x) : PnE.row.rep S w vs x.2 := by
  obtain ⟨e, hg, hS, hb⟩ := h
  obtain ⟨a, c, e2, hr, hl⟩ := hg.slice
  refine ⟨a, c, by rw [e, e2], fun b o e6 hne => hS b ?_, hr.wide (fun k h _ => h.elim), hb⟩
  rcases hg with ⟨vss, _, ⟨_, h3⟩, _⟩
  rcases h3 with ⟨e7, _⟩ | ⟨g, cap, cur, e7, _⟩
  · rw [e2, e6] at e7
    cases e7
  · rw [e2, e6] at e7
    injection e7 with e8
    cases e8
    rw [e2, e6]
    rfl
theorem getD_sndV {L : List (Value × List Pn)} {i : Nat} (hi : i < L.length) : (L.map Prod.snd).getD i [] = (L.getD i CkE.dfl).2 := by simp [List.getD, hi]
/-- Two contours in two blocks. -/
def Apart (x y : Value × List Pn) : Prop := ∀ g, x.1.ownBlock = some g → y.1.ownBlock ≠ some g
theorem Apart.symm {x y : Value × List Pn} (h : Apart x y) : Apart y x := fun g h1 h2 => h g h2 h1
/-- What a pen has drawn. -/
def Co (base : Nat) (w : World) (v : Value) (o : List (List Pn)) : Prop :=
  ∃ L : List (Value × List Pn), L.map Prod.snd = o ∧ Gw CkE 55 base (fun k => base ≤ k) w v L ∧ ∀ i j, i < L.length → j < L.length → i ≠ j → Apart (L.getD i CkE.dfl) (L.getD j CkE.dfl)
theorem Co.new (base : Nat) (w : World) : Co base w (.slice none 0 0) [] := ⟨[], rfl, Gw.nil _ _ _ _ _, fun i j hi => by simp at hi⟩
theorem Co.stay {base : Nat} {w w' : World} {v : Value} {o : List (List Pn)} (h : Co base w v o) (hs : w.heap.size ≤ w'.heap.size) (hk : ∀ k, base ≤ k → k < w.heap.size → w'.heap[k]? = w.heap[k]?) : Co base w' v o := by
  obtain ⟨L, h1, h2, h3⟩ := h
  exact ⟨L, h1, h2.stay hs (fun k hb _ hl => ⟨hb, hk k hb hl⟩) (fun k hv => hk k (h2.lo hv).1 (h2.lo hv).2), h3⟩
theorem Co.below {base : Nat} {w w' : World} {v : Value} {o : List (List Pn)} (h : Co base w v o) (hb : Below w.heap.size w w') : Co base w' v o := h.stay hb.size (fun k _ hl => hb.block k hl)
theorem Co.set {base B j : Nat} {w : World} {v z : Value} {o : List (List Pn)} (h : Co base w v o) (hB : B < base) : Co base (w.setCell ⟨B, j, none⟩ z) v o :=
  h.stay (by simp [World.setCell]) (fun k hk _ => Below.heap_setCell _ _ _ _ (fun e => by have e2 : k = B := e; omega))
theorem Co.slice {base : Nat} {w : World} {v : Value} {o : List (List Pn)} (h : Co base w v o) : ∃ a cap, v = .slice a o.length cap ∧ Gr PnE.row (fun k => base ≤ k) w a cap o ∧ ∀ b o, a = some ⟨b, o, none⟩ → base ≤ b ∧ b < w.heap.size := by
  obtain ⟨L, rfl, h2, _⟩ := h
  obtain ⟨a, c, e, hr, hl⟩ := h2.slice
  refine ⟨a, c, by rw [List.length_map]; exact e, ⟨by rw [List.length_map]; exact hr.1, hr.2.1, hr.2.2.1, fun i hi => ?_⟩, hl⟩
  rw [List.length_map] at hi
  obtain ⟨b, off, vs, e, hb, hr, hc⟩ := hr.2.2.2 i hi
  exact ⟨b, off, vs, e, hb, by rw [show PnE.row.dfl = [] from rfl, getD_sndV hi]; exact CkE_row hr, hc⟩
theorem info_ck : (Tryz.prog.info? 55).map (fun i => (i.zero, i.size, i.bytes)) = some (some (.slice none 0 0), CkE.sz, 24) := info_pns
/-- 'append(v, nil)': a contour begins. -/
theorem wpList_append_co {w : World} {ops : Array Oper} {rest : List Oper} {o : Oper} {a : Act} {Q : Exit → Act → World → Prop}
    (hgd : o.guard = none) (s x : Operand) (ho : o.op = .call { callee := .builtin .append, args := #[s, x], argTypes := #[32, 32] })
    (base : Nat) (v : Value) (out : List (List Pn)) (hs : a.eval s = v) (hown : Co base w v out) (g : Nat) (hx : a.eval x = .slice (some ⟨g, 0, none⟩) 1 1)
    (hg : g < w.heap.size) (c0 : w.cell? ⟨g, 0, none⟩ = some (.slice none 0 0)) (hlen : out.length + 1 ≤ 1000000) (hbase : base ≤ w.heap.size)
    (h : ∀ v' w', Co base w' v' (out ++ [[]]) → w.grownBy w' v.ownBlock → (∀ k, v.ownBlock = some k → base ≤ k) → wpList Tryz.prog ops Q rest (a.put o.dst v') w') : wpList Tryz.prog ops Q (o :: rest) a w := by
  obtain ⟨L, rfl, h2, h3⟩ := hown
  rw [List.length_map] at hlen
  have hrep : CkE.rep (fun k => base ≤ k ∧ v.ownBlock ≠ some k) w [.slice none 0 0] (.slice none 0 0, []) := ⟨rfl, Gw.nil _ _ _ _ _, (fun g e => by cases e), Nat.zero_le _⟩
  refine wpList_append_el (E := CkE) 32 55 Tryz.underlying32 info_ck rfl Nat.one_pos (by decide) hgd s x ho base (fun k => base ≤ k) v L hs h2 (some ⟨g, 0, none⟩) 1 1 [(.slice none 0 0, [])] rfl hx ?_ hlen hbase (fun v' w' k1 k2 k3 => h v' w' ⟨L ++ [(.slice none 0 0, [])], by rw [List.map_append]; rfl, k1, ?_⟩ k2 (fun k hk => (h2.lo hk).1))
  · refine Gr.one (E := CkE) hrep hg (fun j hj => ?_)
    obtain rfl : j = 0 := by have : j < 1 := hj; omega
    exact c0
  · intro i j hi hj hij
    rw [List.length_append, List.length_singleton] at hi hj
    have key : ∀ k, (L ++ [((.slice none 0 0 : Value), ([] : List Pn))]).getD k CkE.dfl = if k < L.length then L.getD k CkE.dfl else CkE.dfl := by
      intro k
      by_cases hk : k < L.length
      · rw [if_pos hk]
        simp [List.getD, List.getElem?_append_left hk]
      · rw [if_neg hk]
        rcases Nat.lt_or_ge L.length k with h1 | h1
        · rw [List.getD_eq_getElem?_getD, List.getElem?_eq_none (by simp; omega)]; rfl
        · obtain rfl : k = L.length := by omega
          simp [List.getD]; rfl
    rw [key i, key j]
    by_cases h1 : i < L.length <;> by_cases h4 : j < L.length
    · rw [if_pos h1, if_pos h4]; exact h3 i j h1 h4 hij
    · rw [if_pos h1, if_neg h4]; intro g _ e; cases e
    · rw [if_neg h1, if_pos h4]; intro g e; cases e
    · omega
/-- The last contour, and what is put in its place. -/
theorem Co.last {base : Nat} {w : World} {v : Value} {o : List (List Pn)} (h : Co base w v o) (hne : o ≠ []) :
    ∃ g cap lv, v = .slice (some ⟨g, 0, none⟩) o.length cap ∧ base ≤ g ∧ g < w.heap.size ∧ (∀ n, w.frozen? ⟨g, n, none⟩ = false) ∧ w.cell? ⟨g, o.length - 1, none⟩ = some lv ∧
      Gw PnE 54 base (fun _ => False) w lv (o.getD (o.length - 1) []) ∧ (∃ cur, w.heap[g]? = some (.cells cur 55 (0, 0))) ∧
      ∀ v' w' c', w.heap.size ≤ w'.heap.size → (∀ k, base ≤ k → k < w.heap.size → lv.ownBlock ≠ some k → w'.heap[k]? = w.heap[k]?) → Gw PnE 54 base (fun _ => False) w' v' c' → (v'.ownBlock = lv.ownBlock ∨ ∀ k, v'.ownBlock = some k → w.heap.size ≤ k) → c'.length ≤ 140737488351232 →
        Co base (w'.setCell ⟨g, o.length - 1, none⟩ v') v (o.set (o.length - 1) c') := by
  obtain ⟨L, rfl, h2, h3⟩ := h
  have hneL : L ≠ [] := fun e => hne (by rw [e]; rfl)
  have hpos : 0 < L.length := List.length_pos_iff.2 hneL
  have h2' := h2
  obtain ⟨vss, hl, hown, hrep⟩ := h2
  obtain ⟨g, cap, ev, hbg, hlt, hlc, hfz, hel, hput⟩ := h2'.own hneL
  obtain ⟨cur, hcur⟩ := h2'.ty (g := g) (by rw [ev]; rfl)
  have hlm : (L.map Prod.snd).length = L.length := List.length_map _
  rw [hlm]
  obtain ⟨n, hn⟩ : ∃ n, L.length - 1 = n := ⟨_, rfl⟩
  have hnl : n < L.length := by omega
  rw [hn, getD_sndV hnl]
  obtain ⟨e1, r2, r3, r4⟩ := hrep n hnl
  obtain ⟨vs, hvs, hcell⟩ := hel n hnl
  have hvs1 : vs = [(L.getD n CkE.dfl).1] := hvs.1
  have hc0 := hcell 0 Nat.one_pos
  rw [hvs1, show n * CkE.sz + 0 = n from Nat.mul_one n] at hc0
  have hlow : Gw PnE 54 base (fun _ => False) w (L.getD n CkE.dfl).1 (L.getD n CkE.dfl).2 := by
    obtain ⟨us, k1, ⟨k2, k3⟩, k4⟩ := r2
    refine ⟨us, k1, ⟨k2, ?_⟩, k4⟩
    rcases k3 with k3 | ⟨gg, cc, cu, e, hg, r⟩
    · exact .inl k3
    · exact .inr ⟨gg, cc, cu, e, (r3 gg (by rw [e]; rfl)).1, r⟩
  refine ⟨g, cap, (L.getD n CkE.dfl).1, by rw [ev], hbg, hlt, hfz, hc0, hlow, ⟨cur, hcur⟩, ?_⟩
  intro v' w' c' hsz hkeep hG hwh hcl
  have hgl : (L.getD n CkE.dfl).1.ownBlock ≠ some g := fun e => (r3 g e).2 (by rw [ev]; rfl)
  have hv'g : v'.ownBlock ≠ some g := by
    rcases hwh with e | e
    · rw [e]; exact hgl
    · intro e2
      have := e g e2
      omega
  have hgw' : w'.heap[g]? = w.heap[g]? := hkeep g hbg hlt hgl
  -- the row, with that element turned
  have hset := heap_setCell_same w' g n cur 55 v' (hgw'.trans hcur)
  have hoth : ∀ k, k ≠ g → (w'.setCell ⟨g, n, none⟩ v').heap[k]? = w'.heap[k]? := fun k hk => Below.heap_setCell _ _ _ _ (fun e => hk e)
  have hsz2 : (w'.setCell ⟨g, n, none⟩ v').heap.size = w'.heap.size := by simp [World.setCell]
  have hG2 : Gw PnE 54 0 (fun _ => False) (w'.setCell ⟨g, n, none⟩ v') v' c' := (hG.low (Nat.zero_le _)).stay (by rw [hsz2]; exact Nat.le_refl _) (fun k h => h.elim) (fun k hk => hoth k (fun e => hv'g (by rw [← e]; exact hk)))
  have h5 : ∀ i, i < vss.length → (vss.getD i []).length = 1 := fun i hi => CkE.len (hrep i (by omega))
  refine ⟨L.set n (v', c'), ?_, ?_, ?_⟩
  · rw [List.map_set]
  · rcases hown.2 with ⟨e, e0⟩ | ⟨g9, cap9, cur9, ev9, hb9, hg9, hc1, hc2, hc3, ht⟩
    · exact absurd (List.length_eq_zero_iff.1 e0) hneL
    have e9 : g9 = g := by
      rw [ev] at ev9
      injection ev9 with e
      cases e
      rfl
    subst e9
    rw [hcur] at hg9
    injection hg9 with hg9
    injection hg9 with hg9
    subst hg9
    have hfl := flat_set (i := n) (j := 0) v' h5 (by omega) Nat.one_pos
    rw [Nat.mul_one, Nat.add_zero] at hfl
    refine ⟨vss.set n ((vss.getD n []).set 0 v'), by rw [List.length_set, List.length_set, hl], ⟨?_, .inr ⟨g9, cap9, _, by rw [List.length_set]; exact ev9, hb9, hset, by simpa using hc1, hc2, by simpa using hc3, ?_⟩⟩, fun k hk => ?_⟩
    · rw [hfl, List.length_set, List.length_set]; exact hown.1
    · rw [hfl, List.length_set, ← ht]
      simp [List.take_set]
    · rw [List.length_set] at hk
      by_cases hkn : k = n
      · subst hkn
        have e1' : (vss.set k ((vss.getD k []).set 0 v')).getD k [] = (vss.getD k []).set 0 v' := by simp [List.getD, show k < vss.length by omega]
        have e2' : (L.set k (v', c')).getD k CkE.dfl = (v', c') := by simp [List.getD, hk]
        rw [e1', e2', e1]
        refine ⟨rfl, hG2, fun q hq => ⟨(hG.lo hq).1, fun e => hv'g ?_⟩, hcl⟩
        rw [ev] at e
        injection e with e
        have e3 : g9 = q := e
        rw [e3]
        exact hq
      · have e1' : (vss.set n ((vss.getD n []).set 0 v')).getD k [] = vss.getD k [] := by simp [List.getD, List.getElem?_set_ne (fun e => hkn e.symm)]
        have e2' : (L.set n (v', c')).getD k CkE.dfl = L.getD k CkE.dfl := by simp [List.getD, List.getElem?_set_ne (fun e => hkn e.symm)]
        rw [e1', e2']
        obtain ⟨t1, t2, t3, t4⟩ := hrep k hk
        refine ⟨t1, t2.stay (by rw [hsz2]; exact hsz) (fun k h => h.elim) (fun q hq => ?_), t3, t4⟩
        have hqg : q ≠ g9 := fun e => (t3 q hq).2 (by rw [ev, e]; rfl)
        rw [hoth q hqg]
        exact hkeep q (t3 q hq).1 (t2.lo hq).2 (h3 k n hk hnl hkn q hq)
  · intro i j hi hj hij
    rw [List.length_set] at hi hj
    have key : ∀ k, k < L.length → (L.set n (v', c')).getD k CkE.dfl = if k = n then (v', c') else L.getD k CkE.dfl := by
      intro k hk
      by_cases e : k = n
      · rw [if_pos e, e]; simp [List.getD, hnl]
      · rw [if_neg e]; simp [List.getD, List.getElem?_set_ne (fun e2 => e e2.symm)]
    have hap : ∀ k, k < L.length → k ≠ n → Apart (v', c') (L.getD k CkE.dfl) := by
      intro k hk hkn q hq1 hq2
      have hq1' : v'.ownBlock = some q := hq1
      rcases hwh with e | e
      · rw [e] at hq1'
        exact h3 n k hnl hk (fun e => hkn e.symm) q hq1' hq2
      · have := e q hq1'
        have := ((hrep k hk).2.1.lo hq2).2
        omega
    rw [key i hi, key j hj]
    by_cases h1 : i = n <;> by_cases h4 : j = n
    · omega
    · rw [if_pos h1, if_neg h4]; exact hap j hj h4
    · rw [if_neg h1, if_pos h4]; exact (hap i hi h1).symm
    · rw [if_neg h1, if_neg h4]; exact h3 i j hi hj hij
theorem Co.lastN {base : Nat} {w : World} {v : Value} {o : List (List Pn)} {m n : Nat} {c : List Pn} (h : Co base w v o) (hm : o.length = m) (hn : m = n + 1) (hc : o.getD n [] = c) :
    ∃ g cap la lc, v = .slice (some ⟨g, 0, none⟩) m cap ∧ base ≤ g ∧ g < w.heap.size ∧ w.cell? ⟨g, n, none⟩ = some (.slice la c.length lc) ∧
      Gw PnE 54 base (fun _ => False) w (.slice la c.length lc) c ∧ (∃ cur, w.heap[g]? = some (.cells cur 55 (0, 0))) ∧
      ∀ v' w' c', w.heap.size ≤ w'.heap.size → (∀ k, base ≤ k → k < w.heap.size → (Value.slice la c.length lc).ownBlock ≠ some k → w'.heap[k]? = w.heap[k]?) → Gw PnE 54 base (fun _ => False) w' v' c' → (v'.ownBlock = (Value.slice la c.length lc).ownBlock ∨ ∀ k, v'.ownBlock = some k → w.heap.size ≤ k) → c'.length ≤ 140737488351232 →
        Co base (w'.setCell ⟨g, n, none⟩ v') v (o.set n c') := by
  have hne : o ≠ [] := fun e => by rw [e] at hm; simp at hm; omega
  obtain ⟨g, cap, lv, e, h1, h2, -, h4, h5, h6, h7⟩ := h.last hne
  have hn1 : o.length - 1 = n := by omega
  rw [hn1] at h4 h5 h7
  rw [hc] at h5
  obtain ⟨la, lc, e1, -⟩ := h5.slice
  subst e1
  rw [hm] at e
  exact ⟨g, cap, la, lc, e, h1, h2, h4, h5, h6, h7⟩
theorem putL_at {o : List (List Pn)} {m n : Nat} {c : List Pn} (hm : o.length = m) (hn : m = n + 1) (hc : o.getD n [] = c) (q : Pn) : putL o q = o.set n (c ++ [q]) := by
  unfold putL
  have hn1 : o.length - 1 = n := by omega
  rw [hn1, hc]

end Go.Proofs.YtkbbdkecillnpaaGreat

namespace Go.Proofs.YtkbbdkecillnpaaGreat
open Go.RowKit Go.Maps
set_option linter.unusedSimpArgs false
set_option linter.unusedVariables false

/-- The cells of a pen. -/
def pC (d0 d1 d2 d3 : Value) (x y st : Int) (N : List Int) (v : Value) : List Value := [d0, d1, d2, d3, .int .i64 x, .int .i64 y, .int .i64 st, .int .i64 (N.getD 0 0), .int .i64 (N.getD 1 0), .int .i64 (N.getD 2 0), .int .i64 (N.getD 3 0), .int .i64 (N.getD 4 0), .int .i64 (N.getD 5 0), v]
theorem info_pnQ : (Tryz.prog.info? 54).map (fun i => (i.zero, i.size, i.bytes)) = some (some (.agg #[.int .i64 0, .int .i64 0, .bool false]), PnE.sz, 24) := info_pn

set_option maxHeartbeats 4000000 in
set_option maxRecDepth 100000 in
theorem move_any (B : Nat) (d0 d1 d2 d3 : Value) (x y st : Int) (N : List Int) (v : Value) (out : List (List Pn)) (dx dy : Int) (on : Bool) (w : World) (hP : Bk 62 w B (pC d0 d1 d2 d3 x y st N v)) (hC : Co (B + 1) w v out) (hne : out ≠ []) (hx1 : -100000000 ≤ x) (hx2 : x ≤ 100000000) (hy1 : -100000000 ≤ y) (hy2 : y ≤ 100000000) (hdx1 : -32768 ≤ dx) (hdx2 : dx ≤ 32767) (hdy1 : -32768 ≤ dy) (hdy2 : dy ≤ 32767) (hcl : (out.getD (out.length - 1) []).length ≤ 100000) :
    Calls Tryz.prog 58 #[.pointer (some ⟨B, 0, none⟩), .int .i64 dx, .int .i64 dy, .bool on] w fun e w' => e = .returned (.tuple #[]) ∧ Bk 62 w' B (pC d0 d1 d2 d3 (x + dx) (y + dy) st N v) ∧ Co (B + 1) w' v (putL out ⟨x + dx, y + dy, on⟩) ∧ Below B w w' := by
  have ix1 : -200000000 ≤ x + dx := by omega
  have ix2 : x + dx ≤ 200000000 := by omega
  have iy1 : -200000000 ≤ y + dy := by omega
  have iy2 : y + dy ≤ 200000000 := by omega
  have hx0 := hP.cell 4 (by show 4 < 14; omega)
  have hy0 := hP.cell 5 (by show 5 < 14; omega)
  have hf4 := hP.fz 4
  have hf5 := hP.fz 5
  replace hx0 : w.cell? ⟨B, 4, none⟩ = some (.int .i64 x) := hx0
  replace hy0 : w.cell? ⟨B, 5, none⟩ = some (.int .i64 y) := hy0
  obtain ⟨W, hW, hPW, hCW, hbW⟩ : ∃ W, W = (w.setCell ⟨B, 4, none⟩ (.int .i64 (x + dx))).setCell ⟨B, 5, none⟩ (.int .i64 (y + dy)) ∧ Bk 62 W B (pC d0 d1 d2 d3 (x + dx) (y + dy) st N v) ∧ Co (B + 1) W v out ∧ Below B w W :=
    ⟨_, rfl, (hP.set 4 _).set 5 _, (hC.set (Nat.lt_succ_self _)).set (Nat.lt_succ_self _), ((Below.refl B w).setCell (p := ⟨B, 4, none⟩) (Nat.le_refl _) _).setCell (p := ⟨B, 5, none⟩) (Nat.le_refl _) _⟩
  go_enter Tryz.func58, Tryz.ntmps58
  go_upto_region 2 with fail
  rw [← hW]
  clear hW hx0 hy0 hf4 hf5 hP hC
  obtain ⟨X, hX⟩ : ∃ X, x + dx = X := ⟨_, rfl⟩
  obtain ⟨Y, hY⟩ : ∃ Y, y + dy = Y := ⟨_, rfl⟩
  have HXE : Hid (x + dx = X) := hX
  have HYE : Hid (y + dy = Y) := hY
  rw [hX, hY] at hPW
  rw [hX] at ix1 ix2 ⊢
  rw [hY] at iy1 iy2 ⊢
  clear hX hY
  have hv0 := hPW.cell 13 (by show 13 < 14; omega)
  replace hv0 : W.cell? ⟨B, 13, none⟩ = some v := hv0
  have hx0 : W.cell? ⟨B, 4, none⟩ = some (.int .i64 X) := hPW.cell 4 (by show 4 < 14; omega)
  have hy0 : W.cell? ⟨B, 5, none⟩ = some (.int .i64 Y) := hPW.cell 5 (by show 5 < 14; omega)
  obtain ⟨m, hm⟩ : ∃ m, out.length = m := ⟨_, rfl⟩
  have hpos : 0 < out.length := List.length_pos_iff.2 hne
  obtain ⟨n, hn⟩ : ∃ n, m = n + 1 := ⟨m - 1, by omega⟩
  obtain ⟨c, hcc⟩ : ∃ c, out.getD n [] = c := ⟨_, rfl⟩
  have hmm : (m : Int) ≤ 9223372036854775807 := by
    obtain ⟨a9, c9, e9, h9, _⟩ := hCW.slice
    have := h9.lenB
    omega
  have HPE : Hid (putL out ⟨X, Y, on⟩ = out.set n (c ++ [⟨X, Y, on⟩])) := putL_at hm hn hcc _
  rw [show out.length - 1 = n by omega, hcc] at hcl
  obtain ⟨g, cap, la, lc, rfl, hbg, hlt, hc0, hlast, ⟨cur, hcur⟩, hput⟩ := hCW.lastN hm hn hcc
  have HPUT : Hid (_) := hput
  have HLA : Hid (Gw PnE 54 (B + 1) (fun _ => False) W (.slice la c.length lc) c) := hlast
  have HPW : Hid (Bk 62 W B (pC d0 d1 d2 d3 X Y st N (.slice (some ⟨g, 0, none⟩) m cap))) := hPW
  have HCUR : Hid (W.heap[g]? = some (.cells cur 55 (0, 0))) := hcur
  have HBW : Hid (Below B w W) := hbW
  have i1 : (0 : Int) ≤ (m : Int) - 1 := by omega
  have i5 : (1 : Int) ≤ (m : Int) := by omega
  have i2 : (m : Int) - 1 < (m : Int) := by omega
  have i3 : ((m : Int) - 1).toNat = n := by omega
  have i4 : IntKind.i64.wrap ((m : Int) - 1) = (m : Int) - 1 := wrapi64 (by omega) (by omega)
  have hgB : g ≠ B := by omega
  have hBl : B < W.heap.size := hPW.lt
  clear hm hcc hput hlast hCW hne hn hpos hPW hcur hbW
  refine wp_region_held_drew (S := fun w9 => w9.cell? ⟨B, 13, none⟩ = some (.slice (some ⟨g, 0, none⟩) m cap)) (by kernel_rfl) ?_ (fun hHeld => ?_)
  · (try dsimp only)
    go_keep
  have hdr : Below W.heap.size W W.drew := Below.drew1
  generalize W.drew = Z at hdr hHeld ⊢
  replace hx0 := (hdr.cell (p := ⟨B, 4, none⟩) hBl).trans hx0
  replace hy0 := (hdr.cell (p := ⟨B, 5, none⟩) hBl).trans hy0
  replace hc0 := (hdr.cell (p := ⟨g, n, none⟩) hlt).trans hc0
  refine hT 0 hHeld ?_
  refine hT 1 hHeld ?_
  refine hT 2 hHeld ?_
  refine hT 3 hHeld ?_
  refine hT 4 hHeld ?_
  refine hT 5 hHeld ?_
  refine hT 6 hHeld ?_
  refine hT 7 hHeld ?_
  refine hT 8 hHeld ?_
  refine hT 9 hHeld ?_
  refine hT 10 hHeld ?_
  refine hT 11 hHeld ?_
  refine wpAnyH_done (by kernel_rfl) ?_ _
  clear hHeld hv0
  go_upto_region 3 with fail
  refine wp_region_held_drew (S := fun w9 => w9.cell? ⟨B, 4, none⟩ = some (.int .i64 X) ∧ w9.cell? ⟨B, 5, none⟩ = some (.int .i64 Y)) (by kernel_rfl) ?_ (fun hHeld => ?_)
  · (try dsimp only)
    go_keep
  have hdr2 : Below Z.heap.size Z Z.drew := Below.drew1
  have hWZ := hdr.trans (hdr2.mono hdr.size)
  have hzz := hdr.size
  replace hc0 := (hdr2.cell (p := ⟨g, n, none⟩) (by show g < _; omega)).trans hc0
  clear hx0 hy0 hdr
  generalize Z.drew = Z at hdr2 hHeld hWZ hc0 ⊢
  have hzz := hWZ.size
  obtain ⟨V, hV, Y9, hbv⟩ : ∃ V, V = Z.alloc (.cells #[.int .i64 X, .int .i64 Y, .bool on] 54) ∧ Bk 54 V Z.heap.size [.int .i64 X, .int .i64 Y, .bool on] ∧ Below Z.heap.size Z V := ⟨_, rfl, Bk.new _ _ _, bl1 _⟩
  have hWV := hWZ.trans (hbv.mono hWZ.size)
  have hvv := hbv.size
  have x4 := (hbv.cell (p := ⟨B, 4, none⟩) (by show B < _; omega)).trans hHeld.1
  have y4 := (hbv.cell (p := ⟨B, 5, none⟩) (by show B < _; omega)).trans hHeld.2
  have c4 := (hbv.cell (p := ⟨g, n, none⟩) (by show g < _; omega)).trans hc0
  have HLV : Hid (Gw PnE 54 (B + 1) (fun _ => False) V (.slice la c.length lc) c) := HLA.out.below hWV
  have HNG : Hid ((Value.slice la c.length lc).ownBlock ≠ some g) := fun e => by
    obtain ⟨cu2, h2⟩ := HLA.out.ty e
    rw [HCUR.out] at h2
    injection h2 with h2
    injection h2 with _ h2
    exact absurd h2 (by decide)
  have HONE : Hid (Gr PnE (fun k => False ∧ (Value.slice la c.length lc).ownBlock ≠ some k) V (some ⟨Z.heap.size, 0, none⟩) 1 [⟨X, Y, on⟩]) := Gr.one (E := PnE) (vs := pnC ⟨X, Y, on⟩) (PnE_rep.2 ⟨rfl, ⟨by dsimp only; omega, by dsimp only; omega⟩, ⟨by dsimp only; omega, by dsimp only; omega⟩⟩) Y9.lt (fun j hj => Y9.cell j hj)
  clear hbv Y9 hdr2 hWZ
  refine hT 0 hHeld ?_
  refine hT 1 hHeld ?_
  refine hT 2 hHeld ?_
  refine hT 4 hHeld ?_
  refine hT 5 hHeld ?_
  refine hT 6 hHeld ?_
  refine hT 7 hHeld ?_
  refine hT 8 hHeld ?_
  refine hT 9 hHeld ?_
  refine hT 10 hHeld ?_
  refine hT 11 hHeld ?_
  refine hT 12 hHeld ?_
  refine hT 13 hHeld ?_
  refine wpAnyH_ready (rs := [3, 14]) (by kernel_rfl) (by simp) (hCons (i := 3) rfl (by rfl) (fun K hK => ?_) (hCons (i := 14) rfl (by rfl) (fun K hK => ?_) AllReadyH.nil))
  · go_simp
    refine hK.out _ _ ?_ (fun hHeld => ?_)
    · (try dsimp only)
      exact hHeld
    clear hK K
    try simp only [Act.put, List.setIfInBounds_toArray, List.set_cons_zero, List.set_cons_succ]
    refine hCall (i := 14) rfl (by kernel_rfl) (by rfl) (fun K hK => ?_)
    go_simp
    rw [← hV]
    clear hV
    refine hK.out _ _ ?_ (fun hHeld => ?_)
    · (try dsimp only)
      exact ⟨x4, y4⟩
    clear hK K
    try simp only [Act.put, List.setIfInBounds_toArray, List.set_cons_zero, List.set_cons_succ]
    refine hCall (i := 15) rfl (by kernel_rfl) (by rfl) (fun K hK => ?_)
    refine wp_append_el (E := PnE) 55 54 Tryz.underlying55 info_pnQ rfl (by decide) (by decide) _ _ rfl (B + 1) (fun _ => False) _ c rfl HLV.out ⟨Z.heap.size, 0, none⟩ 1 1 [⟨X, Y, on⟩] rfl rfl HONE.out (by simp; omega) (by omega) ?_
    intro v9 w9 hT9 hgrow hwh
    have hs9 := hgrow.size
    have hg9 : ∀ k, k < V.heap.size → (Value.slice la c.length lc).ownBlock ≠ some k → w9.heap[k]? = V.heap[k]? := fun k h1 h2 => hgrow.block k h1 (fun e => h2 e.symm)
    have hgl : (Value.slice la c.length lc).ownBlock ≠ some g := fun e => HNG.out e
    have hBn : (Value.slice la c.length lc).ownBlock ≠ some B := fun e => by have := (HLV.out.lo e).1; omega
    have x9 := (World.cell?_of_block (w := V) (a := ⟨B, 4, none⟩) (hg9 B (by omega) hBn)).trans x4
    have y9 := (World.cell?_of_block (w := V) (a := ⟨B, 5, none⟩) (hg9 B (by omega) hBn)).trans y4
    have c9 := (World.cell?_of_block (w := V) (a := ⟨g, n, none⟩) (hg9 g (by omega) hgl)).trans c4
    have hcur9 : w9.heap[g]? = some (.cells cur 55 (0, 0)) := (hg9 g (by omega) hgl).trans ((hWV.block g hlt).trans HCUR.out)
    have f9 := frozen_of_row w9 g n _ _ hcur9
    refine hK.out _ _ ?_ (fun hHeld => ?_)
    · (try dsimp only)
      exact ⟨x9, y9⟩
    clear hK K
    try simp only [Act.put, List.setIfInBounds_toArray, List.set_cons_zero, List.set_cons_succ]
    refine hT 16 hHeld ?_
    obtain ⟨va, vc, e9, -, -⟩ := hT9.slice
    have HCO : Hid (Co (B + 1) (w9.setCell ⟨g, n, none⟩ v9) (.slice (some ⟨g, 0, none⟩) m cap) (out.set n (c ++ [⟨X, Y, on⟩]))) := HPUT.out v9 w9 _ (by have := hWV.size; omega) (fun k h1 h2 h3 => (hg9 k (by have := hWV.size; omega) h3).trans (hWV.block k h2)) hT9 (by
      rcases hwh with e | e
      · exact .inl e
      · refine .inr (fun k hk => ?_)
        rw [e] at hk
        injection hk with hk
        have := hWV.size
        omega) (by rw [List.length_append, List.length_singleton]; omega)
    have HP9 : Hid (Bk 62 (w9.setCell ⟨g, n, none⟩ v9) B (pC d0 d1 d2 d3 X Y st N (.slice (some ⟨g, 0, none⟩) m cap))) := Bk.other ((hg9 B (by omega) hBn).trans ((hWV.block B hBl).trans HPW.out)) n v9 (by omega)
    have HB9 : Hid (Below B w (w9.setCell ⟨g, n, none⟩ v9)) := ((HBW.out.trans (hWV.mono (by omega))).grown hgrow (by have := hWV.size; omega) (fun q hq => by have := (HLV.out.lo hq).1; omega)).setCell (p := ⟨g, n, none⟩) (by show B ≤ g; omega) _
    rw [e9] at HCO HP9 HB9 ⊢
    generalize (c ++ [(⟨X, Y, on⟩ : Pn)]).length = cn at *
    clear hT9 hgrow hwh e9 hg9
    refine hCall (i := 17) rfl (by kernel_rfl) (by rfl) (fun K hK => ?_)
    go_simp
    refine hK.out _ _ ?_ (fun hHeld => ?_)
    · (try dsimp only)
      exact ⟨(HP9.out.cell 4 (by show 4 < 14; omega)), (HP9.out.cell 5 (by show 5 < 14; omega))⟩
    clear hK K
    try simp only [Act.put, List.setIfInBounds_toArray, List.set_cons_zero, List.set_cons_succ]
    refine wpAnyH_done (by kernel_rfl) ?_ _
    clear hHeld x9 y9 c9 f9 hcur9
    go_wp2
    (try simp only [Exit.inBlock, Exit.then])
    refine bodyPost_end (results_none rfl _ _ _) rfl ?_
    rw [HXE.out, HYE.out]
    exact ⟨rfl, HP9.out, by rw [HPE.out]; exact HCO.out, HB9.out⟩
  · go_simp
    rw [← hV]
    clear hV
    refine hK.out _ _ ?_ (fun hHeld => ?_)
    · (try dsimp only)
      exact ⟨x4, y4⟩
    clear hK K
    try simp only [Act.put, List.setIfInBounds_toArray, List.set_cons_zero, List.set_cons_succ]
    refine hCall (i := 3) rfl (by kernel_rfl) (by rfl) (fun K hK => ?_)
    go_simp
    refine hK.out _ _ ?_ (fun hHeld => ?_)
    · (try dsimp only)
      exact hHeld
    clear hK K
    try simp only [Act.put, List.setIfInBounds_toArray, List.set_cons_zero, List.set_cons_succ]
    refine hCall (i := 15) rfl (by kernel_rfl) (by rfl) (fun K hK => ?_)
    refine wp_append_el (E := PnE) 55 54 Tryz.underlying55 info_pnQ rfl (by decide) (by decide) _ _ rfl (B + 1) (fun _ => False) _ c rfl HLV.out ⟨Z.heap.size, 0, none⟩ 1 1 [⟨X, Y, on⟩] rfl rfl HONE.out (by simp; omega) (by omega) ?_
    intro v9 w9 hT9 hgrow hwh
    have hs9 := hgrow.size
    have hg9 : ∀ k, k < V.heap.size → (Value.slice la c.length lc).ownBlock ≠ some k → w9.heap[k]? = V.heap[k]? := fun k h1 h2 => hgrow.block k h1 (fun e => h2 e.symm)
    have hgl : (Value.slice la c.length lc).ownBlock ≠ some g := fun e => HNG.out e
    have hBn : (Value.slice la c.length lc).ownBlock ≠ some B := fun e => by have := (HLV.out.lo e).1; omega
    have x9 := (World.cell?_of_block (w := V) (a := ⟨B, 4, none⟩) (hg9 B (by omega) hBn)).trans x4
    have y9 := (World.cell?_of_block (w := V) (a := ⟨B, 5, none⟩) (hg9 B (by omega) hBn)).trans y4
    have c9 := (World.cell?_of_block (w := V) (a := ⟨g, n, none⟩) (hg9 g (by omega) hgl)).trans c4
    have hcur9 : w9.heap[g]? = some (.cells cur 55 (0, 0)) := (hg9 g (by omega) hgl).trans ((hWV.block g hlt).trans HCUR.out)
    have f9 := frozen_of_row w9 g n _ _ hcur9
    refine hK.out _ _ ?_ (fun hHeld => ?_)
    · (try dsimp only)
      exact ⟨x9, y9⟩
    clear hK K
    try simp only [Act.put, List.setIfInBounds_toArray, List.set_cons_zero, List.set_cons_succ]
    refine hT 16 hHeld ?_
    obtain ⟨va, vc, e9, -, -⟩ := hT9.slice
    have HCO : Hid (Co (B + 1) (w9.setCell ⟨g, n, none⟩ v9) (.slice (some ⟨g, 0, none⟩) m cap) (out.set n (c ++ [⟨X, Y, on⟩]))) := HPUT.out v9 w9 _ (by have := hWV.size; omega) (fun k h1 h2 h3 => (hg9 k (by have := hWV.size; omega) h3).trans (hWV.block k h2)) hT9 (by
      rcases hwh with e | e
      · exact .inl e
      · refine .inr (fun k hk => ?_)
        rw [e] at hk
        injection hk with hk
        have := hWV.size
        omega) (by rw [List.length_append, List.length_singleton]; omega)
    have HP9 : Hid (Bk 62 (w9.setCell ⟨g, n, none⟩ v9) B (pC d0 d1 d2 d3 X Y st N (.slice (some ⟨g, 0, none⟩) m cap))) := Bk.other ((hg9 B (by omega) hBn).trans ((hWV.block B hBl).trans HPW.out)) n v9 (by omega)
    have HB9 : Hid (Below B w (w9.setCell ⟨g, n, none⟩ v9)) := ((HBW.out.trans (hWV.mono (by omega))).grown hgrow (by have := hWV.size; omega) (fun q hq => by have := (HLV.out.lo hq).1; omega)).setCell (p := ⟨g, n, none⟩) (by show B ≤ g; omega) _
    rw [e9] at HCO HP9 HB9 ⊢
    generalize (c ++ [(⟨X, Y, on⟩ : Pn)]).length = cn at *
    clear hT9 hgrow hwh e9 hg9
    refine hCall (i := 17) rfl (by kernel_rfl) (by rfl) (fun K hK => ?_)
    go_simp
    refine hK.out _ _ ?_ (fun hHeld => ?_)
    · (try dsimp only)
      exact ⟨(HP9.out.cell 4 (by show 4 < 14; omega)), (HP9.out.cell 5 (by show 5 < 14; omega))⟩
    clear hK K
    try simp only [Act.put, List.setIfInBounds_toArray, List.set_cons_zero, List.set_cons_succ]
    refine wpAnyH_done (by kernel_rfl) ?_ _
    clear hHeld x9 y9 c9 f9 hcur9
    go_wp2
    (try simp only [Exit.inBlock, Exit.then])
    refine bodyPost_end (results_none rfl _ _ _) rfl ?_
    rw [HXE.out, HYE.out]
    exact ⟨rfl, HP9.out, by rw [HPE.out]; exact HCO.out, HB9.out⟩

end Go.Proofs.YtkbbdkecillnpaaGreat
