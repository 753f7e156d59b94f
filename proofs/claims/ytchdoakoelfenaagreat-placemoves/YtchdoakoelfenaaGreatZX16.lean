/-
  Rows of fractions: read (Rz), of the call's own (Ro), and how they grow: no cell of such a row is an integer, so no limb lies in it.
  Sums of fractions, half by half; what the laws of stores ask of mathematics; a part of a row of fractions that is read.
  A fraction that stays. Nothing here is a walk.
  store.sum: the walk.
  A tent's part, case by case (plain mathematics).
-/
import Derived.Test.YtchdoakoelfenaaGreatZX11
import Derived.Test.YtchdoakoelfenaaGreatZX1
import Derived.Laws.MakeOwn
import Derived.Test.YtchdoakoelfenaaGreatZX14
import Derived.Test.YtchdoakoelfenaaGreatZX13
import Derived.Test.YtchdoakoelfenaaGreatZX12
import Derived.Test.YtchdoakoelfenaaGreatZX5
import Derived.Deep.CutRange
namespace Go.Proofs.YtchdoakoelfenaaGreat
open Go.RowKit Go.Maps
set_option linter.unusedSimpArgs false
set_option linter.unusedVariables false

/-- Whether a cell holds an integer. -/
def isI : Value → Bool
  | .int _ _ => true
  | _ => false
/-- No cell of a block is an integer. -/
def NoI (w : World) (g : Nat) : Prop := ∀ j v, w.cell? ⟨g, j, none⟩ = some v → isI v = false
theorem NoI.of {w : World} {g : Nat} {cur : Array Value} {e : TypeId} (h : w.heap[g]? = some (.cells cur e (0, 0))) (hc : ∀ c ∈ cur.toList, isI c = false) : NoI w g := by
  intro j v hv
  rw [cell_of_row w g j cur e (0, 0) h] at hv
  obtain ⟨hj, e⟩ := Array.getElem?_eq_some_iff.1 hv
  exact hc v (by rw [← e]; simp)
theorem NoI.mem {w : World} {g : Nat} {cur : Array Value} {e : TypeId} (hn : NoI w g) (h : w.heap[g]? = some (.cells cur e (0, 0))) : ∀ c ∈ cur.toList, isI c = false := by
  intro c hc
  obtain ⟨j, hj, e⟩ := List.getElem_of_mem hc
  refine hn j c ?_
  rw [cell_of_row w g j cur _ (0, 0) h, Array.getElem?_eq_getElem (by simpa using hj)]
  simpa using e
theorem NoI.below {w w' : World} {g : Nat} (h : NoI w g) (hg : g < w.heap.size) (hb : Below w.heap.size w w') : NoI w' g := by
  intro j v hv
  rw [hb.cell (p := ⟨g, j, none⟩) hg] at hv
  exact h j v hv
/-- Limbs stay, whatever becomes of a row without integers. -/
theorem Rd.grown {w w' : World} {a : Option Addr} {cap : Nat} {xs : List Nat} {row : Option Nat} (h : Rd w a cap xs) (hg : w.grownBy w' row) (hn : ∀ g, row = some g → NoI w g) : Rd w' a cap xs := by
  obtain ⟨h1, h2, h3, h5, h4⟩ := h
  refine ⟨h1, h2, h3, h5, ?_⟩
  rcases h4 with h4 | ⟨b, off, e, hb1, hc⟩
  · exact .inl h4
  · by_cases h0 : xs = []
    · exact .inl h0
    · have hl : 0 < xs.length := List.length_pos_iff.2 h0
      have hne : some b ≠ row := by
        intro e2
        have := hn b e2.symm _ _ (hc 0 hl)
        cases this
      exact .inr ⟨b, off, e, Nat.lt_of_lt_of_le hb1 hg.size, fun i hi => (World.cell?_of_block (w := w) (a := ⟨b, off + i, none⟩) (hg.block b hb1 hne)).trans (hc i hi)⟩
theorem Fr.grown {w w' : World} {v : Value} {k : Nat} {q : Rat} {row : Option Nat} (h : Fr w v k q) (hg : w.grownBy w' row) (hn : ∀ g, row = some g → NoI w g) : Fr w' v k q := by
  obtain ⟨n, xs, ys, ⟨a, c, a', c', rfl, h1, h2⟩, h3⟩ := h
  exact ⟨n, xs, ys, ⟨a, c, a', c', rfl, h1.grown hg hn, h2.grown hg hn⟩, h3⟩

/-- Fractions that are read. -/
def Rz (w : World) (a : Option Addr) (cap k : Nat) (qs : List Rat) : Prop :=
  qs.length ≤ cap ∧ cap ≤ maxLen ∧
  ∀ i, i < qs.length → ∃ b off x y z, a = some ⟨b, off, none⟩ ∧ b < w.heap.size ∧ w.cell? ⟨b, off + i * 3, none⟩ = some x ∧ w.cell? ⟨b, off + i * 3 + 1, none⟩ = some y ∧ w.cell? ⟨b, off + i * 3 + 2, none⟩ = some z ∧ Fr w (.agg #[x, y, z]) k (qs.getD i 0)
theorem Rz.at {w wr : World} {a : Option Addr} {cap k : Nat} {qs : List Rat} (h : Rz w a cap k qs) (hb : Below w.heap.size w wr) (i : Nat) (hi : i < qs.length) :
    ∃ b off x y z, a = some ⟨b, off, none⟩ ∧ b < w.heap.size ∧ wr.cell? ⟨b, off + i * 3, none⟩ = some x ∧ wr.cell? ⟨b, off + i * 3 + 1, none⟩ = some y ∧ wr.cell? ⟨b, off + i * 3 + 2, none⟩ = some z ∧ Fr wr (.agg #[x, y, z]) k (qs.getD i 0) := by
  obtain ⟨b, off, x, y, z, h1, h2, h3, h4, h5, h6⟩ := h.2.2 i hi
  exact ⟨b, off, x, y, z, h1, h2, (hb.cell (p := ⟨b, off + i * 3, none⟩) h2).trans h3, (hb.cell (p := ⟨b, off + i * 3 + 1, none⟩) h2).trans h4, (hb.cell (p := ⟨b, off + i * 3 + 2, none⟩) h2).trans h5, h6.below hb⟩
theorem Rz.below {w w' : World} {a : Option Addr} {cap k : Nat} {qs : List Rat} (h : Rz w a cap k qs) (hb : Below w.heap.size w w') : Rz w' a cap k qs := by
  refine ⟨h.1, h.2.1, fun i hi => ?_⟩
  obtain ⟨b, off, x, y, z, h1, h2, h3⟩ := h.at hb i hi
  exact ⟨b, off, x, y, z, h1, Nat.lt_of_lt_of_le h2 hb.size, h3⟩
theorem Rz.nil (w : World) (a : Option Addr) (cap k : Nat) (h : cap ≤ maxLen) : Rz w a cap k [] := ⟨Nat.zero_le _, h, fun i hi => by simp at hi⟩
theorem Rz.lenB {w : World} {a : Option Addr} {cap k : Nat} {qs : List Rat} (h : Rz w a cap k qs) : qs.length ≤ 9223372036854775807 := by
  have h1 := h.1
  have h2 := h.2.1
  unfold maxLen at h2
  omega

/-- A row of fractions of the call's own. -/
def Ro (T : TypeId) (base : Nat) (w : World) (v : Value) (k : Nat) (qs : List Rat) : Prop :=
  ∃ vs : List Value, w.ownsRow base T 3 v qs.length vs ∧ (∀ g, v.ownBlock = some g → NoI w g) ∧
    ∀ i, i < qs.length → ∃ x y z, vs[i * 3]? = some x ∧ vs[i * 3 + 1]? = some y ∧ vs[i * 3 + 2]? = some z ∧ Fr w (.agg #[x, y, z]) k (qs.getD i 0)
theorem Ro.nil (T : TypeId) (base : Nat) (w : World) (k : Nat) : Ro T base w (.slice none 0 0) k [] := ⟨[], World.ownsRow_nil w base _ 3, (fun g hg => by cases hg), fun i hi => by simp at hi⟩
theorem Ro.slice {T : TypeId} {base : Nat} {w : World} {v : Value} {k : Nat} {qs : List Rat} (h : Ro T base w v k qs) : ∃ a cap, v = .slice a qs.length cap ∧ Rz w a cap k qs := by
  obtain ⟨vs, h3, _, h4⟩ := h
  rcases h3.2 with ⟨rfl, h0⟩ | ⟨g, cap, cur, rfl, hb, hg, hc1, hc2, hc3, ht⟩
  · have : qs = [] := List.length_eq_zero_iff.1 h0
    subst this
    exact ⟨none, 0, rfl, Rz.nil _ _ _ _ (Nat.zero_le _)⟩
  · refine ⟨_, cap, rfl, hc1, hc2, fun i hi => ?_⟩
    obtain ⟨x, y, z, k0, k1, k2, k3⟩ := h4 i hi
    have hadd : ∀ j, (⟨g, 0, none⟩ : Addr).add j = ⟨g, 0 + j, none⟩ := by intro j; unfold Addr.add; split <;> simp_all
    have d0 := h3.cells (g := g) rfl (i * 3) _ k0
    have d1 := h3.cells (g := g) rfl (i * 3 + 1) _ k1
    have d2 := h3.cells (g := g) rfl (i * 3 + 2) _ k2
    rw [hadd] at d0 d1 d2
    exact ⟨g, 0, x, y, z, rfl, (Array.getElem?_eq_some_iff.1 hg).1, d0, d1, d2, k3⟩
theorem Ro.lo {T : TypeId} {base : Nat} {w : World} {v : Value} {k : Nat} {qs : List Rat} (h : Ro T base w v k qs) {g : Nat} (hg : v.ownBlock = some g) : base ≤ g ∧ g < w.heap.size := by
  obtain ⟨vs, h3, _⟩ := h
  exact World.ownsRow.lt h3 g hg
theorem Ro.below {T : TypeId} {base : Nat} {w w' : World} {v : Value} {k : Nat} {qs : List Rat} (h : Ro T base w v k qs) (hb : Below w.heap.size w w') : Ro T base w' v k qs := by
  have hlo := fun g hg => (h.lo (g := g) hg).2
  obtain ⟨vs, h3, hn, h4⟩ := h
  refine ⟨vs, ⟨h3.1, ?_⟩, fun g hg => (hn g hg).below (hlo g hg) hb, fun i hi => ?_⟩
  · rcases h3.2 with h0 | ⟨g, cap', cur, k1, k2, k3, k4⟩
    · exact .inl h0
    · exact .inr ⟨g, cap', cur, k1, k2, (hb.block g (Array.getElem?_eq_some_iff.1 k3).1).trans k3, k4⟩
  · obtain ⟨x, y, z, k0, k1, k2, k3⟩ := h4 i hi
    exact ⟨x, y, z, k0, k1, k2, k3.below hb⟩

/-- A fraction's zero. -/
def rtZ : Value := .agg #[.bool false, .slice none 0 0, .slice none 0 0]
theorem rtZ_made (n : Nat) : ∀ c ∈ (madeCells rtZ.cells n).toList, isI c = false := by
  intro c hc
  simp only [madeCells, rtZ, Value.cells, Array.toList_map, List.mem_map] at hc
  obtain ⟨j, _, rfl⟩ := hc
  have h3 : j % 3 = 0 ∨ j % 3 = 1 ∨ j % 3 = 2 := by omega
  show isI ((#[Value.bool false, .slice none 0 0, .slice none 0 0])[j % 3]!) = false
  rcases h3 with h | h | h <;> rw [h] <;> rfl
theorem rtZ_zero (n : Nat) : ∀ c ∈ (Builtin.zeroCells rtZ.cells n).toList, isI c = false := by
  intro c hc
  simp only [Builtin.zeroCells, rtZ, Value.cells, Array.toList_map, List.mem_map] at hc
  obtain ⟨j, _, rfl⟩ := hc
  have h3 : j % 3 = 0 ∨ j % 3 = 1 ∨ j % 3 = 2 := by omega
  show isI ((#[Value.bool false, .slice none 0 0, .slice none 0 0])[j % 3]!) = false
  rcases h3 with h | h | h <;> rw [h] <;> rfl
theorem Fr.noI {w : World} {x y z : Value} {k : Nat} {q : Rat} (h : Fr w (.agg #[x, y, z]) k q) : ∀ c ∈ [x, y, z], isI c = false ∧ c.oneCell' = true := by
  obtain ⟨n, xs, ys, ⟨a, c, a', c', e, h1, h2⟩, h3⟩ := h
  simp at e
  obtain ⟨rfl, rfl, rfl⟩ := e
  intro c hc
  simp at hc
  rcases hc with rfl | rfl | rfl <;> exact ⟨rfl, rfl⟩

/-- Behind an append of one fraction the row still holds no integer. -/
theorem append_noI {P : Program} {w w' : World} {v v' : Value} (base : Nat) (t ty e : TypeId) (i : TypeInfo) (ht : P.underlying t = some (.slice e)) (hi : P.info? e = some i) (hz : i.zero = some rtZ) (hsize : i.size = 3) (hby : i.bytes = 56)
    (n : Nat) (xs : List Value) (hown : w.ownsRow base e 3 v n xs) (hn : ∀ g, v.ownBlock = some g → NoI w g)
    (a : Addr) (news : List Value) (hl : news.length = 3) (hnews : ∀ j u, news[j]? = some u → w.cell? (a.add j) = some u) (h1 : ∀ u ∈ news, isI u = false ∧ u.oneCell' = true) (hlen : n + 1 ≤ 1000000)
    (hr : (Builtin.append_ #[t, t] ty #[v, .slice (some a) 1 1]).run P w = .ok v' w') : ∀ g, v'.ownBlock = some g → NoI w' g := by
  have hl' : news.length = 1 * i.size := by rw [hsize, hl]
  have hnew : ∀ u ∈ news, isI u = false := fun u hu => (h1 u hu).1
  rcases hown.2 with ⟨rfl, rfl⟩ | ⟨g, cap, cur, rfl, hbg, hg, hnc, hcm, hcs, htake⟩
  · have h2 := run_append_nil (P := P) w t ty e i rtZ ht hi hz a 1 1 news hl' hnews (by omega) (by omega) (by rw [hby]; omega)
    rw [h2] at hr
    injection hr with e1 e2
    subst e1 e2
    intro g hg
    simp [Value.ownBlock] at hg
    subst hg
    refine NoI.of (heap_alloc_new w.drew _) (fun c hc => ?_)
    rw [Array.toList_append, List.mem_append] at hc
    rcases hc with hc | hc
    · exact hnew c (by simpa using hc)
    · exact rtZ_zero _ c hc
  · have hcur := (hn g rfl).mem hg
    have hxs : ∀ c ∈ xs, isI c = false := fun c hc => hcur c (by rw [← htake] at hc; exact List.mem_of_mem_take hc)
    by_cases hroom : n + 1 ≤ cap
    · have hfit : n * i.size + news.length ≤ cur.size := by rw [hsize, hl, hcs]; omega
      have h2 := run_append_room (P := P) w t ty e i ht hi g n cap cur hg a 1 1 news hl' hnews (fun u hu => (h1 u hu).2) hroom hfit
      rw [h2] at hr
      injection hr with e1 e2
      subst e1 e2
      intro g' hg'
      simp [Value.ownBlock] at hg'
      subst hg'
      refine NoI.of (setRow_heap w g cur _ e _ hg) (fun c hc => ?_)
      simp only [List.mem_append] at hc
      rcases hc with (hc | hc) | hc
      · exact hcur c (List.mem_of_mem_take hc)
      · exact hnew c hc
      · exact hcur c (List.mem_of_mem_drop hc)
    · have holds : ∀ j u, xs[j]? = some u → w.cell? ((⟨g, 0, none⟩ : Addr).add j) = some u := hown.cells (g := g) rfl
      have h2 := run_append_grow (P := P) w t ty e i rtZ ht hi hz ⟨g, 0, none⟩ n cap xs (by rw [hsize]; exact hown.1) holds a 1 1 news hl' hnews (by omega) (by omega) (growslice_fits (by omega) (by rw [hby]; omega))
      rw [h2] at hr
      injection hr with e1 e2
      subst e1 e2
      intro g' hg'
      simp [Value.ownBlock] at hg'
      subst hg'
      refine NoI.of (heap_alloc_new w.drew _) (fun c hc => ?_)
      rw [Array.toList_append, Array.toList_append, List.mem_append, List.mem_append] at hc
      rcases hc with (hc | hc) | hc
      · exact hxs c (by simpa using hc)
      · exact hnew c (by simpa using hc)
      · exact rtZ_zero _ c hc

/-- 'append(l, x)' of a fraction that lies in a block of its own. -/
theorem append_rt {P : Program} {w : World} {v : Value} (base : Nat) (t ty e : TypeId) (i : TypeInfo) (ht : P.underlying t = some (.slice e)) (hi : P.info? e = some i) (hz : i.zero = some rtZ) (hsize : i.size = 3) (hby : i.bytes = 56)
    (k : Nat) (qs : List Rat) (q : Rat) (hown : Ro e base w v k qs) (g : Nat) (x y z : Value)
    (c0 : w.cell? ⟨g, 0, none⟩ = some x) (c1 : w.cell? ⟨g, 1, none⟩ = some y) (c2 : w.cell? ⟨g, 2, none⟩ = some z) (hF : Fr w (.agg #[x, y, z]) k q) (hlen : qs.length + 1 ≤ 1000000) (hbase : base ≤ w.heap.size) :
    ∃ v' w', (Builtin.append_ #[t, t] ty #[v, .slice (some ⟨g, 0, none⟩) 1 1]).run P w = .ok v' w' ∧ Ro e base w' v' k (qs ++ [q]) ∧ w.grownBy w' v.ownBlock := by
  obtain ⟨vs, h3, hn, h4⟩ := hown
  have hnews : ∀ j u, [x, y, z][j]? = some u → w.cell? ((⟨g, 0, none⟩ : Addr).add j) = some u := by
    intro j u hj
    match j, hj with
    | 0, hj => simp at hj; subst hj; simpa [Addr.add] using c0
    | 1, hj => simp at hj; subst hj; simpa [Addr.add] using c1
    | 2, hj => simp at hj; subst hj; simpa [Addr.add] using c2
  obtain ⟨v', w', hr, k1, k2, _, k4⟩ := run_append_own_at (P := P) w base t ty e i rtZ 3 56 ht hi hz hsize hby rfl (by decide) v qs.length vs h3 ⟨g, 0, none⟩ 1 1 [x, y, z] rfl hnews (fun u hu => (hF.noI u hu).2) (by unfold maxLen; omega) (by omega) hbase
  have hn' := append_noI base t ty e i ht hi hz hsize hby qs.length vs h3 hn ⟨g, 0, none⟩ [x, y, z] rfl hnews hF.noI hlen hr
  have hvs : vs.length = qs.length * 3 := h3.1
  refine ⟨v', w', hr, ⟨vs ++ [x, y, z], by rw [List.length_append]; exact k1, hn', fun j hj => ?_⟩, k2⟩
  by_cases hjm : j < qs.length
  · obtain ⟨x', y', z', q0, q1, q2, q3⟩ := h4 j hjm
    have e : (qs ++ [q]).getD j 0 = qs.getD j 0 := by simp [List.getD, List.getElem?_append_left hjm]
    rw [e]
    exact ⟨x', y', z', by rw [List.getElem?_append_left (by omega)]; exact q0, by rw [List.getElem?_append_left (by omega)]; exact q1, by rw [List.getElem?_append_left (by omega)]; exact q2, q3.grown k2 hn⟩
  · have hj' : j = qs.length := by simp at hj; omega
    subst hj'
    have e : (qs ++ [q]).getD qs.length 0 = q := by simp [List.getD]
    rw [e]
    refine ⟨x, y, z, ?_, ?_, ?_, hF.grown k2 hn⟩
    · rw [List.getElem?_append_right (by omega), hvs]; simp
    · rw [List.getElem?_append_right (by omega), hvs, show qs.length * 3 + 1 - qs.length * 3 = 1 by omega]; simp
    · rw [List.getElem?_append_right (by omega), hvs, show qs.length * 3 + 2 - qs.length * 3 = 2 by omega]; simp

theorem info_rt : (Tryz.prog.info? 109).map (fun i => (i.zero, i.size, i.bytes)) = some (some rtZ, 3, 56) := by kernel_rfl
/-- The same as an operation. -/
theorem wp_append_rt {w : World} {o : Oper} {a : Act} {K : Act → World → Prop} {Q : Exit → Act → World → Prop}
    (s x : Operand) (ho : o.op = .call { callee := .builtin .append, args := #[s, x], argTypes := #[145, 145] })
    (base : Nat) (v : Value) (k : Nat) (qs : List Rat) (q : Rat) (hs : a.eval s = v) (hown : Ro 109 base w v k qs) (g : Nat) (x0 x1 x2 : Value) (hx : a.eval x = .slice (some ⟨g, 0, none⟩) 1 1)
    (c0 : w.cell? ⟨g, 0, none⟩ = some x0) (c1 : w.cell? ⟨g, 1, none⟩ = some x1) (c2 : w.cell? ⟨g, 2, none⟩ = some x2) (hF : Fr w (.agg #[x0, x1, x2]) k q) (hlen : qs.length + 1 ≤ 1000000) (hbase : base ≤ w.heap.size)
    (h : ∀ v' w', Ro 109 base w' v' k (qs ++ [q]) → w.grownBy w' v.ownBlock → K (a.put o.dst v') w') : o.wp Tryz.prog a w K Q := by
  obtain ⟨i0, hi, hz0, hz1, hz2⟩ := info_parts info_rt
  obtain ⟨v', w', hr, h2, h3⟩ := append_rt (P := Tryz.prog) base 145 o.type 109 i0 Tryz.underlying145 hi hz0 hz1 hz2 k qs q hown g x0 x1 x2 c0 c1 c2 hF hlen hbase
  unfold Oper.wp execOp
  simp only [ho, resolve, invoke, builtin, Sem.run_bind, Sem.run_pure, Result.andThen_ok, List.map_toArray, List.map_cons, List.map_nil, hs, hx, hr]
  exact h v' w' h2 h3

theorem info_srt : (Tryz.prog.info? 91).map (fun i => (i.zero, i.size, i.bytes)) = some (some rtZ, 3, 56) := by kernel_rfl
end Go.Proofs.YtchdoakoelfenaaGreat

namespace Go.Proofs.YtchdoakoelfenaaGreat
open Go.RowKit Go.Maps
set_option linter.unusedSimpArgs false
set_option linter.unusedVariables false

def suQ : List Rat → Rat
  | [] => 0
  | q :: l => q + suQ l
theorem suQ_append (l m : List Rat) : suQ (l ++ m) = suQ l + suQ m := by
  induction l with
  | nil => rw [List.nil_append, suQ]; grind
  | cons q l ih => rw [List.cons_append, suQ, suQ, ih]; grind
theorem suQ_one (q : Rat) : suQ [q] = q := by rw [suQ, suQ]; grind
theorem suQ_half (l : List Rat) (n : Nat) : suQ (l.take n) + suQ (l.drop n) = suQ l := by rw [← suQ_append, List.take_append_drop]
theorem chK_sum {g : List (List Te)} {r cs : List Int} {k : Nat} {qs : List Rat} (h : suQ qs = chK g r cs k) : suQ (qs ++ [((r.getD k 0 : Int) : Rat) * alQ (g.getD k []) cs]) = chK g r cs (k + 1) := by
  rw [suQ_append, suQ_one, chK_succ, h]; grind
theorem chK_skip {g : List (List Te)} {r cs : List Int} {k : Nat} {qs : List Rat} (h : suQ qs = chK g r cs k) (h0 : r.getD k 0 = 0 ∨ alQ (g.getD k []) cs = 0) : suQ qs = chK g r cs (k + 1) := by
  rw [chK_succ, h]
  rcases h0 with h0 | h0
  · rw [h0]; show _ = _ + _ * ((0 : Int) : Rat); rw [Rat.intCast_zero, Rat.mul_zero, Rat.add_zero]
  · rw [h0, Rat.zero_mul, Rat.add_zero]

/-- A part of a row of fractions. -/
theorem Rz.take {w : World} {a : Option Addr} {cap k : Nat} {qs : List Rat} (h : Rz w a cap k qs) (n : Nat) : Rz w a cap k (qs.take n) := by
  refine ⟨Nat.le_trans (by simp; omega) h.1, h.2.1, fun i hi => ?_⟩
  have hi' : i < n ∧ i < qs.length := by simp at hi; omega
  have e : (qs.take n).getD i 0 = qs.getD i 0 := by simp [List.getD, List.getElem?_take, hi'.1]
  rw [e]
  exact h.2.2 i hi'.2
theorem Rz.from {w : World} {a : Option Addr} {cap k : Nat} {qs : List Rat} (h : Rz w a cap k qs) (n : Nat) (hn : n < qs.length) : Rz w (a.map (fun x => x.add (n * 3))) (cap - n) k (qs.drop n) := by
  have h1 := h.1
  refine ⟨by simp; omega, Nat.le_trans (Nat.sub_le _ _) h.2.1, fun i hi => ?_⟩
  have hi' : n + i < qs.length := by simp at hi; omega
  obtain ⟨b, off, x, y, z, rfl, hb, c0, c1, c2, hF⟩ := h.2.2 (n + i) hi'
  have hadd : (⟨b, off, none⟩ : Addr).add (n * 3) = ⟨b, off + n * 3, none⟩ := by unfold Addr.add; split <;> simp_all
  have e : (qs.drop n).getD i 0 = qs.getD (n + i) 0 := by simp [List.getD]
  rw [e]
  refine ⟨b, off + n * 3, x, y, z, congrArg some hadd, hb, ?_, ?_, ?_, hF⟩
  · rw [show off + n * 3 + i * 3 = off + (n + i) * 3 by omega]; exact c0
  · rw [show off + n * 3 + i * 3 = off + (n + i) * 3 by omega]; exact c1
  · rw [show off + n * 3 + i * 3 = off + (n + i) * 3 by omega]; exact c2

/-- A field is rounded to itself. -/
theorem fld_int {b : Int} (h1 : -32768 ≤ b) (h2 : b ≤ 32767) : fldN (((b : Int) : Rat) + 1 / 2).floor = b ∧ fldE (((b : Int) : Rat) + 1 / 2).floor = 0 := by
  have e : (((b : Int) : Rat) + 1 / 2).floor = b := by
    have h1 : b ≤ ((b : Rat) + 1 / 2).floor := by rw [Rat.le_floor_iff]; grind
    have h2 : ((b : Rat) + 1 / 2).floor < b + 1 := by rw [Rat.floor_lt_iff]; rw [Rat.intCast_add]; grind
    omega
  rw [e]
  exact ⟨if_pos ⟨h1, h2⟩, if_pos ⟨h1, h2⟩⟩
/-- What is rounded differs by at most one half, upwards where it is just between. -/
theorem near_half (q : Rat) : ((((q + 1 / 2).floor : Int) : Rat) - q ≤ 1 / 2) ∧ (-1 / 2 < (((q + 1 / 2).floor : Int) : Rat) - q) := by
  have f1 := Rat.floor_le (q + 1 / 2)
  have f2 := Rat.lt_floor_add_one (q + 1 / 2)
  generalize (q + 1 / 2).floor = z at *
  have f2' : q + 1 / 2 < (z : Rat) + 1 := by simpa using f2
  constructor <;> grind

end Go.Proofs.YtchdoakoelfenaaGreat

namespace Go.Proofs.YtchdoakoelfenaaGreat
open Go.RowKit Go.Maps
set_option linter.unusedSimpArgs false
set_option linter.unusedVariables false

/-- A fraction stays, where its limbs do. -/
theorem Fr.moved {u U : World} {v : Value} {k : Nat} {q : Rat} (h : Fr u v k q) (hK : ∀ a c xs, Rd u a c xs → Rd U a c xs) : Fr U v k q := by
  obtain ⟨n, xs, ys, ⟨a, c, a', c', e, h1, h2⟩, h3⟩ := h
  exact ⟨n, xs, ys, ⟨a, c, a', c', e, hK _ _ _ h1, hK _ _ _ h2⟩, h3⟩

end Go.Proofs.YtchdoakoelfenaaGreat

namespace Go.Proofs.YtchdoakoelfenaaGreat
open Go.RowKit Go.Maps
set_option linter.unusedSimpArgs false
set_option linter.unusedVariables false

/-- How many limbs a sum of so many takes. -/
def lmbS (n : Nat) : Nat := if n = 0 then 2 else 21 * n - 1
theorem lmbS_two (n : Nat) : 2 ≤ lmbS n := by unfold lmbS; split <;> omega
theorem lmbS_le {n : Nat} (h : n ≤ 1000) : lmbS n ≤ 21000 := by unfold lmbS; split <;> omega
theorem lmbS_add {n h : Nat} (h1 : 1 ≤ h) (h2 : h < n) : lmbS h + lmbS (n - h) + 1 ≤ lmbS n := by unfold lmbS; rw [if_neg (by omega), if_neg (by omega), if_neg (by omega)]; omega

set_option maxHeartbeats 8000000 in
set_option maxRecDepth 100000 in
theorem csum_any : ∀ (n : Nat) (a : Option Addr) (cap : Nat) (qs : List Rat) (w : World), qs.length = n → n ≤ 1000 → Rz w a cap 20 qs →
    Calls Tryz.prog 96 #[.slice a n cap] w fun e w' => ∃ v', e = .returned v' ∧ Fr w' v' (lmbS n) (suQ qs) ∧ Below w.heap.size w w' := by
  intro n
  induction n using Nat.strongRecOn with
  | ind n ih =>
    intro a cap qs w hn hn1 h
    have hcap := h.1
    have hcm := h.2.1
    unfold maxLen at hcm
    have HL : Hid (qs.length = n) := hn
    have HH : Hid (Rz w a cap 20 qs) := h
    rw [hn] at hcap
    clear h hn
    obtain ⟨W, hW, B0, hbW⟩ : ∃ W, W = w.alloc (.cells #[.bool false, .slice none 0 0, .slice none 0 0] 109) ∧ Box 109 W w.heap.size (.bool false) (.slice none 0 0) (.slice none 0 0) ∧ Below w.heap.size w W := ⟨_, rfl, Box.new _ _ _ _ _, al1 _⟩
    by_cases h0 : n = 0
    · subst h0
      have HQ : Hid (((0 : Int) : Rat) = suQ qs) := by
        show _ = _
        rw [List.length_eq_zero_iff.1 HL.out, suQ]
        rfl
      clear ih
      go_enter Tryz.func96, Tryz.ntmps96
      go_wp2_with fail
      rw [← hW]
      clear hW
      refine (whole_any 0 _ (by decide) (by decide)).mono ?_
      rintro e u1 ⟨v1, rfl, hF9, hb1⟩
      replace B0 := B0.below hb1
      replace hbW := hbW.trans (hb1.mono hbW.size)
      clear hb1
      rw [HQ.out] at hF9
      obtain ⟨n9, x9, y9, ⟨a9, c9, b9, d9, rfl, hx9, hy9⟩, hF9⟩ := hF9
      obtain ⟨q1, q2, q3, q4, q5, q6⟩ := B0.cells
      have hs := B0.lt
      go_wp2
      refine ret3 (v := .agg #[.bool n9, .slice a9 x9.length c9, .slice b9 y9.length d9]) B0 rfl (fun U hU => by obtain ⟨r1, r2, r3, _⟩ := hU.cells; simp [results, Tryz.results96, go_sem, r1, r2, r3]) (fun U hU hK => ⟨_, rfl, ⟨_, _, _, ⟨_, _, _, _, rfl, hK _ _ _ hx9, hK _ _ _ hy9⟩, hF9⟩, hU _ _ hbW (by omega)⟩)
    by_cases h1 : n = 1
    · subst h1
      have HQ : Hid (qs.getD 0 0 = suQ qs) := by
        show _ = _
        obtain ⟨q, hq⟩ := List.length_eq_one_iff.1 HL.out
        rw [hq, suQ_one]
        rfl
      clear ih h0
      obtain ⟨b, off, x, y, z, ea, hb, c0, c1, c2, hF9⟩ := HH.out.2.2 0 (by rw [HL.out]; omega)
      subst ea
      replace c0 := (hbW.cell (p := ⟨b, off + 0 * 3, none⟩) hb).trans c0
      replace c1 := (hbW.cell (p := ⟨b, off + 0 * 3 + 1, none⟩) hb).trans c1
      replace c2 := (hbW.cell (p := ⟨b, off + 0 * 3 + 2, none⟩) hb).trans c2
      rw [HQ.out] at hF9
      obtain ⟨n9, x9, y9, ⟨a9, c9, b9, d9, e9, hx9, hy9⟩, hF9⟩ := hF9
      simp only [Value.agg.injEq, Array.mk.injEq, List.cons.injEq, and_true] at e9
      obtain ⟨rfl, rfl, rfl⟩ := e9
      simp only [Nat.zero_mul, Nat.add_zero, Nat.zero_add] at c0 c1 c2
      subst hW
      clear B0
      go_enter Tryz.func96, Tryz.ntmps96
      go_wp2
      refine bodyPost_ret (v := .agg #[.bool n9, .slice a9 x9.length c9, .slice b9 y9.length d9]) (by obtain ⟨r1, r2, r3, _⟩ := (Box.new 109 w (.bool n9) (.slice a9 x9.length c9) (.slice b9 y9.length d9)).cells; simp [results, Tryz.results96, go_sem, r1, r2, r3]) rfl ⟨_, rfl, ⟨_, _, _, ⟨_, _, _, _, rfl, hx9.below (al1 _), hy9.below (al1 _)⟩, hF9.1, by have := hF9.2.1; simp [lmbS]; omega, by have := hF9.2.2.1; simp [lmbS]; omega, hF9.2.2.2⟩, al1 _⟩
    obtain ⟨h, hh⟩ : ∃ h, n / 2 = h := ⟨_, rfl⟩
    have e1 : 1 ≤ h := by omega
    have e2 : h < n := by omega
    have hdv : (n : Int).tdiv 2 = (h : Int) := by rw [Int.tdiv_eq_ediv_of_nonneg (by omega)]; omega
    have g0 : ((n : Int) == 0) = false := beq_eq_false_iff_ne.2 (by omega)
    have g1 : ((n : Int) == 1) = false := beq_eq_false_iff_ne.2 (by omega)
    have hz1 := HH.out.take h
    have hz2 := HH.out.from h (by rw [HL.out]; exact e2)
    have hc1 := fun U hU => ih h e2 a cap (qs.take h) U (by rw [List.length_take, HL.out]; omega) (by omega) hU
    have hc2 := fun U hU => ih (n - h) (by omega) (a.map (fun x => x.add (h * 3))) (cap - h) (qs.drop h) U (by rw [List.length_drop, HL.out]) (by omega) hU
    have HQ : Hid (suQ (qs.take h) + suQ (qs.drop h) = suQ qs) := suQ_half _ _
    have HM : Hid (lmbS h + lmbS (n - h) + 1 ≤ lmbS n) := lmbS_add e1 e2
    have HM2 : Hid (2 ≤ lmbS h ∧ 2 ≤ lmbS (n - h) ∧ lmbS h ≤ 21000 ∧ lmbS (n - h) ≤ 21000) := ⟨lmbS_two _, lmbS_two _, lmbS_le (by omega), lmbS_le (by omega)⟩
    have hcn : ¬ cap = h := by omega
    clear ih h0 h1 hh
    generalize qs.take h = q1 at *
    generalize qs.drop h = q2 at *
    generalize lmbS h = k1 at *
    generalize hk2 : lmbS (n - h) = k2 at *
    clear hk2
    have hle : h ≤ n := by omega
    have hlc : h ≤ cap := by omega
    go_enter Tryz.func96, Tryz.ntmps96
    go_upto_region 7 with fail
    rw [← hW]
    clear hW
    replace hz1 := hz1.below hbW
    replace hz2 := hz2.below hbW
    refine wp_region_held_drew (S := (fun _ => True)) (by kernel_rfl) ?_ (fun hHeld => ?_)
    · (try dsimp only)
      all_goals go_keep
    have hdr : Below W.heap.size W W.drew := Below.drew1
    generalize W.drew = ud1 at hdr hHeld ⊢
    replace hz1 := hz1.below hdr
    replace hz2 := hz2.below hdr
    replace B0 := B0.below hdr
    replace hbW : Below w.heap.size w ud1 := hbW.trans (hdr.mono hbW.size)
    clear hdr
    refine hT 0 hHeld ?_
    refine hT 1 hHeld ?_
    refine hTake (i := 2) (v := .slice a h cap) rfl (by kernel_rfl) (by kernel_rfl) (by kernel_rfl) (fun _ _ _ h => h) (Or.inl ⟨by rfl, ?y2⟩) hHeld ?r2
    case y2 =>
      intro w9 hSw
      (try dsimp only at hSw)
      go_simp
    try simp only [Act.put, List.setIfInBounds_toArray, List.set_cons_zero, List.set_cons_succ]
    refine hT 4 hHeld ?_
    refine hT 5 hHeld ?_
    refine hTake (i := 6) (v := .slice (a.map (fun x => x.add (h * 3))) (n - h) (cap - h)) rfl (by kernel_rfl) (by kernel_rfl) (by kernel_rfl) (fun _ _ _ h => h) (Or.inl ⟨by rfl, ?y3⟩) hHeld ?r3
    case y3 =>
      intro w9 hSw
      (try dsimp only at hSw)
      go_simp
    try simp only [Act.put, List.setIfInBounds_toArray, List.set_cons_zero, List.set_cons_succ]
    refine hCall (i := 3) rfl (by kernel_rfl) (by rfl) (fun K hK => ?_)
    go_simp
    refine (hc1 _ hz1).mono ?_
    rintro e u1 ⟨v5, rfl, hF5, hb1⟩
    replace hz1 := hz1.below hb1
    replace hz2 := hz2.below hb1
    replace B0 := B0.below hb1
    replace hbW : Below w.heap.size w u1 := hbW.trans (hb1.mono hbW.size)
    clear hb1
    go_wp2_with fail
    refine hK.out _ _ ?_ (fun hHeld => ?_)
    · (try dsimp only)
      all_goals trivial
    clear hK K
    try simp only [Act.put, List.setIfInBounds_toArray, List.set_cons_zero, List.set_cons_succ]
    refine hCall (i := 7) rfl (by kernel_rfl) (by rfl) (fun K hK => ?_)
    go_simp
    refine (hc2 _ hz2).mono ?_
    rintro e u2 ⟨v6, rfl, hF6, hb2⟩
    replace hz1 := hz1.below hb2
    replace hz2 := hz2.below hb2
    replace B0 := B0.below hb2
    replace hF5 := hF5.below hb2
    replace hbW : Below w.heap.size w u2 := hbW.trans (hb2.mono hbW.size)
    clear hb2
    go_wp2_with fail
    refine hK.out _ _ ?_ (fun hHeld => ?_)
    · (try dsimp only)
      all_goals trivial
    clear hK K
    try simp only [Act.put, List.setIfInBounds_toArray, List.set_cons_zero, List.set_cons_succ]
    refine hCall (i := 8) rfl (by kernel_rfl) (by rfl) (fun K hK => ?_)
    go_simp
    refine (qadd_any k1 k2 (suQ q1) (suQ q2) _ _ _ hF5.ct hF6.ct (by have := HM2.out; omega) (by have := HM2.out; omega) HM2.out.1 HM2.out.2.1).mono ?_
    rintro e u3 ⟨v9, rfl, hF9, hb3⟩
    replace hz1 := hz1.below hb3
    replace hz2 := hz2.below hb3
    replace B0 := B0.below hb3
    replace hF5 := hF5.below hb3
    replace hF6 := hF6.below hb3
    replace hbW : Below w.heap.size w u3 := hbW.trans (hb3.mono hbW.size)
    clear hb3
    rw [HQ.out] at hF9
    obtain ⟨n9, x9, y9, ⟨a9, c9, b9, d9, rfl, hx9, hy9⟩, hF9⟩ := hF9
    go_wp2_with fail
    refine hK.out _ _ ?_ (fun hHeld => ?_)
    · (try dsimp only)
      all_goals trivial
    clear hK K
    try simp only [Act.put, List.setIfInBounds_toArray, List.set_cons_zero, List.set_cons_succ]
    refine hCall (i := 9) rfl (by kernel_rfl) (by rfl) (fun K hK => ?_)
    go_simp
    have hs := B0.lt
    obtain ⟨f1, f2, f3, f4, f5, f6⟩ := B0.cells
    try go_simp
    obtain ⟨u64, hU, C9, hbU, hK9, ho⟩ := set3_world B0 (.bool n9) (.slice a9 x9.length c9) (.slice b9 y9.length d9)
    rw [← hU]
    clear hU f1 f2 f3 f4 f5 f6
    replace hbW := hbU _ _ hbW (by omega)
    replace hx9 := hK9 _ _ _ hx9
    replace hy9 := hK9 _ _ _ hy9
    clear hbU hK9 ho
    refine hK.out _ _ ?_ (fun hHeld => ?_)
    · (try dsimp only)
      all_goals trivial
    clear hK K
    try simp only [Act.put, List.setIfInBounds_toArray, List.set_cons_zero, List.set_cons_succ]
    refine wpAnyH_done (by kernel_rfl) ?_ _
    clear hHeld
    go_wp2
    refine bodyPost_ret (by obtain ⟨r1, r2, r3, _⟩ := C9.cells; simp [results, Tryz.results96, go_sem, r1, r2, r3]) rfl ⟨_, rfl, Fr.le (k := k1 + k2 + 1) ⟨_, _, _, ⟨_, _, _, _, rfl, hx9, hy9⟩, hF9⟩ HM.out, hbW⟩

end Go.Proofs.YtchdoakoelfenaaGreat

namespace Go.Proofs.YtchdoakoelfenaaGreat
open Go.RowKit Go.Maps
set_option linter.unusedSimpArgs false
set_option linter.unusedVariables false

theorem paQ_one {t : Te} {c : Int} (h1 : tfB t = true) (h2 : crd c = true) (h : t.pk = 0 ∨ c = t.pk) : ((1 : Int) : Rat) = paQ t c := by
  rw [paQ_yes h1 h2, if_pos h]
  rfl
theorem paQ_off {t : Te} {c : Int} (h1 : tfB t = true) (h2 : crd c = true) (h : ¬ (t.pk = 0 ∨ c = t.pk)) (h3 : c ≤ t.st ∨ t.en ≤ c) : ((0 : Int) : Rat) = paQ t c := by
  rw [paQ_yes h1 h2, if_neg h, if_pos h3]
  rfl
theorem paQ_up {t : Te} {c : Int} (h1 : tfB t = true) (h2 : crd c = true) (h : ¬ (t.pk = 0 ∨ c = t.pk)) (h3 : ¬ (c ≤ t.st ∨ t.en ≤ c)) (h4 : c < t.pk) : ((c - t.st : Int) : Rat) / ((t.pk - t.st : Int) : Rat) = paQ t c := by
  rw [paQ_yes h1 h2, if_neg h, if_neg h3, if_pos h4]
theorem paQ_down {t : Te} {c : Int} (h1 : tfB t = true) (h2 : crd c = true) (h : ¬ (t.pk = 0 ∨ c = t.pk)) (h3 : ¬ (c ≤ t.st ∨ t.en ≤ c)) (h4 : ¬ c < t.pk) : ((t.en - c : Int) : Rat) / ((t.en - t.pk : Int) : Rat) = paQ t c := by
  rw [paQ_yes h1 h2, if_neg h, if_neg h3, if_neg h4]

end Go.Proofs.YtchdoakoelfenaaGreat
