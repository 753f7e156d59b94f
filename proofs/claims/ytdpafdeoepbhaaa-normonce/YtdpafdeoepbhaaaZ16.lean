/-
  Rows of fractions: read (Rz), of the call's own (Ro), and how they grow: no cell of such a row is an integer, so no limb lies in it.
  Axes that are settled, axes held against one another (plain mathematics; the comparison of structs).
  axes.user, axes.settled, axes.Find: the walks.
  axes.settled: the walk.
  axes.Formed: the walk.
-/
import Derived.Test.YtdpafdeoepbhaaaZ15
import Derived.Test.YtdpafdeoepbhaaaZ14
import Derived.Laws.MakeOwn
import Derived.Laws.StructEq
import Derived.Test.YtdpafdeoepbhaaaZ6
import Derived.Deep.RegionHeld3
import Derived.Test.YtdpafdeoepbhaaaZ13
namespace Go.Proofs.Ytdpafdeoepbhaaa
open Go.RowKit Go.Maps
set_option linter.unusedSimpArgs false
set_option linter.unusedVariables false

/-- Whether a cell holds an integer. -/
def isI : Value → Bool
  | .int _ _ => true
  | _ => false
/-- No cell of a block is an integer. -/
def NoI (w : World) (g : Nat) : Prop := ∀ j v, w.cell? ⟨g, j, none⟩ = some v → isI v = false
theorem NoI.of {w : World} {g : Nat} {cur : Array Value} {e : TypeId} (h : w.heap[g]? = some (.cells cur e (0, 0))) (hc : ∀ c ∈ cur.toList, isI c = false) : NoI w g := by
  intro j v hv
  rw [cell_of_row w g j cur e (0, 0) h] at hv
  obtain ⟨hj, e⟩ := Array.getElem?_eq_some_iff.1 hv
  exact hc v (by rw [← e]; simp)
theorem NoI.mem {w : World} {g : Nat} {cur : Array Value} {e : TypeId} (hn : NoI w g) (h : w.heap[g]? = some (.cells cur e (0, 0))) : ∀ c ∈ cur.toList, isI c = false := by
  intro c hc
  obtain ⟨j, hj, e⟩ := List.getElem_of_mem hc
  refine hn j c ?_
  rw [cell_of_row w g j cur _ (0, 0) h, Array.getElem?_eq_getElem (by simpa using hj)]
  simpa using e
theorem NoI.below {w w' : World} {g : Nat} (h : NoI w g) (hg : g < w.heap.size) (hb : Below w.heap.size w w') : NoI w' g := by
  intro j v hv
  rw [hb.cell (p := ⟨g, j, none⟩) hg] at hv
  exact h j v hv
/-- Limbs stay, whatever becomes of a row without integers. -/
theorem Rd.grown {w w' : World} {a : Option Addr} {cap : Nat} {xs : List Nat} {row : Option Nat} (h : Rd w a cap xs) (hg : w.grownBy w' row) (hn : ∀ g, row = some g → NoI w g) : Rd w' a cap xs := by
  obtain ⟨h1, h2, h3, h5, h4⟩ := h
  refine ⟨h1, h2, h3, h5, ?_⟩
  rcases h4 with h4 | ⟨b, off, e, hb1, hc⟩
  · exact .inl h4
  · by_cases h0 : xs = []
    · exact .inl h0
    · have hl : 0 < xs.length := List.length_pos_iff.2 h0
      have hne : some b ≠ row := by
        intro e2
        have := hn b e2.symm _ _ (hc 0 hl)
        cases this
      exact .inr ⟨b, off, e, Nat.lt_of_lt_of_le hb1 hg.size, fun i hi => (World.cell?_of_block (w := w) (a := ⟨b, off + i, none⟩) (hg.block b hb1 hne)).trans (hc i hi)⟩
theorem Fr.grown {w w' : World} {v : Value} {k : Nat} {q : Rat} {row : Option Nat} (h : Fr w v k q) (hg : w.grownBy w' row) (hn : ∀ g, row = some g → NoI w g) : Fr w' v k q := by
  obtain ⟨n, xs, ys, ⟨a, c, a', c', rfl, h1, h2⟩, h3⟩ := h
  exact ⟨n, xs, ys, ⟨a, c, a', c', rfl, h1.grown hg hn, h2.grown hg hn⟩, h3⟩

/-- Fractions that are read. -/
def Rz (w : World) (a : Option Addr) (cap k : Nat) (qs : List Rat) : Prop :=
  qs.length ≤ cap ∧ cap ≤ maxLen ∧
  ∀ i, i < qs.length → ∃ b off x y z, a = some ⟨b, off, none⟩ ∧ b < w.heap.size ∧ w.cell? ⟨b, off + i * 3, none⟩ = some x ∧ w.cell? ⟨b, off + i * 3 + 1, none⟩ = some y ∧ w.cell? ⟨b, off + i * 3 + 2, none⟩ = some z ∧ Fr w (.agg #[x, y, z]) k (qs.getD i 0)
theorem Rz.at {w wr : World} {a : Option Addr} {cap k : Nat} {qs : List Rat} (h : Rz w a cap k qs) (hb : Below w.heap.size w wr) (i : Nat) (hi : i < qs.length) :
    ∃ b off x y z, a = some ⟨b, off, none⟩ ∧ b < w.heap.size ∧ wr.cell? ⟨b, off + i * 3, none⟩ = some x ∧ wr.cell? ⟨b, off + i * 3 + 1, none⟩ = some y ∧ wr.cell? ⟨b, off + i * 3 + 2, none⟩ = some z ∧ Fr wr (.agg #[x, y, z]) k (qs.getD i 0) := by
  obtain ⟨b, off, x, y, z, h1, h2, h3, h4, h5, h6⟩ := h.2.2 i hi
  exact ⟨b, off, x, y, z, h1, h2, (hb.cell (p := ⟨b, off + i * 3, none⟩) h2).trans h3, (hb.cell (p := ⟨b, off + i * 3 + 1, none⟩) h2).trans h4, (hb.cell (p := ⟨b, off + i * 3 + 2, none⟩) h2).trans h5, h6.below hb⟩
theorem Rz.below {w w' : World} {a : Option Addr} {cap k : Nat} {qs : List Rat} (h : Rz w a cap k qs) (hb : Below w.heap.size w w') : Rz w' a cap k qs := by
  refine ⟨h.1, h.2.1, fun i hi => ?_⟩
  obtain ⟨b, off, x, y, z, h1, h2, h3⟩ := h.at hb i hi
  exact ⟨b, off, x, y, z, h1, Nat.lt_of_lt_of_le h2 hb.size, h3⟩
theorem Rz.nil (w : World) (a : Option Addr) (cap k : Nat) (h : cap ≤ maxLen) : Rz w a cap k [] := ⟨Nat.zero_le _, h, fun i hi => by simp at hi⟩
theorem Rz.lenB {w : World} {a : Option Addr} {cap k : Nat} {qs : List Rat} (h : Rz w a cap k qs) : qs.length ≤ 9223372036854775807 := by
  have h1 := h.1
  have h2 := h.2.1
  unfold maxLen at h2
  omega

/-- A row of fractions of the call's own. -/
def Ro (T : TypeId) (base : Nat) (w : World) (v : Value) (k : Nat) (qs : List Rat) : Prop :=
  ∃ vs : List Value, w.ownsRow base T 3 v qs.length vs ∧ (∀ g, v.ownBlock = some g → NoI w g) ∧
    ∀ i, i < qs.length → ∃ x y z, vs[i * 3]? = some x ∧ vs[i * 3 + 1]? = some y ∧ vs[i * 3 + 2]? = some z ∧ Fr w (.agg #[x, y, z]) k (qs.getD i 0)
theorem Ro.nil (T : TypeId) (base : Nat) (w : World) (k : Nat) : Ro T base w (.slice none 0 0) k [] := ⟨[], World.ownsRow_nil w base _ 3, (fun g hg => by cases hg), fun i hi => by simp at hi⟩
theorem Ro.slice {T : TypeId} {base : Nat} {w : World} {v : Value} {k : Nat} {qs : List Rat} (h : Ro T base w v k qs) : ∃ a cap, v = .slice a qs.length cap ∧ Rz w a cap k qs := by
  obtain ⟨vs, h3, _, h4⟩ := h
  rcases h3.2 with ⟨rfl, h0⟩ | ⟨g, cap, cur, rfl, hb, hg, hc1, hc2, hc3, ht⟩
  · have : qs = [] := List.length_eq_zero_iff.1 h0
    subst this
    exact ⟨none, 0, rfl, Rz.nil _ _ _ _ (Nat.zero_le _)⟩
  · refine ⟨_, cap, rfl, hc1, hc2, fun i hi => ?_⟩
    obtain ⟨x, y, z, k0, k1, k2, k3⟩ := h4 i hi
    have hadd : ∀ j, (⟨g, 0, none⟩ : Addr).add j = ⟨g, 0 + j, none⟩ := by intro j; unfold Addr.add; split <;> simp_all
    have d0 := h3.cells (g := g) rfl (i * 3) _ k0
    have d1 := h3.cells (g := g) rfl (i * 3 + 1) _ k1
    have d2 := h3.cells (g := g) rfl (i * 3 + 2) _ k2
    rw [hadd] at d0 d1 d2
    exact ⟨g, 0, x, y, z, rfl, (Array.getElem?_eq_some_iff.1 hg).1, d0, d1, d2, k3⟩
theorem Ro.lo {T : TypeId} {base : Nat} {w : World} {v : Value} {k : Nat} {qs : List Rat} (h : Ro T base w v k qs) {g : Nat} (hg : v.ownBlock = some g) : base ≤ g ∧ g < w.heap.size := by
  obtain ⟨vs, h3, _⟩ := h
  exact World.ownsRow.lt h3 g hg
theorem Ro.below {T : TypeId} {base : Nat} {w w' : World} {v : Value} {k : Nat} {qs : List Rat} (h : Ro T base w v k qs) (hb : Below w.heap.size w w') : Ro T base w' v k qs := by
  have hlo := fun g hg => (h.lo (g := g) hg).2
  obtain ⟨vs, h3, hn, h4⟩ := h
  refine ⟨vs, ⟨h3.1, ?_⟩, fun g hg => (hn g hg).below (hlo g hg) hb, fun i hi => ?_⟩
  · rcases h3.2 with h0 | ⟨g, cap', cur, k1, k2, k3, k4⟩
    · exact .inl h0
    · exact .inr ⟨g, cap', cur, k1, k2, (hb.block g (Array.getElem?_eq_some_iff.1 k3).1).trans k3, k4⟩
  · obtain ⟨x, y, z, k0, k1, k2, k3⟩ := h4 i hi
    exact ⟨x, y, z, k0, k1, k2, k3.below hb⟩

/-- A fraction's zero. -/
def rtZ : Value := .agg #[.bool false, .slice none 0 0, .slice none 0 0]
theorem rtZ_made (n : Nat) : ∀ c ∈ (madeCells rtZ.cells n).toList, isI c = false := by
  intro c hc
  simp only [madeCells, rtZ, Value.cells, Array.toList_map, List.mem_map] at hc
  obtain ⟨j, _, rfl⟩ := hc
  have h3 : j % 3 = 0 ∨ j % 3 = 1 ∨ j % 3 = 2 := by omega
  show isI ((#[Value.bool false, .slice none 0 0, .slice none 0 0])[j % 3]!) = false
  rcases h3 with h | h | h <;> rw [h] <;> rfl
theorem rtZ_zero (n : Nat) : ∀ c ∈ (Builtin.zeroCells rtZ.cells n).toList, isI c = false := by
  intro c hc
  simp only [Builtin.zeroCells, rtZ, Value.cells, Array.toList_map, List.mem_map] at hc
  obtain ⟨j, _, rfl⟩ := hc
  have h3 : j % 3 = 0 ∨ j % 3 = 1 ∨ j % 3 = 2 := by omega
  show isI ((#[Value.bool false, .slice none 0 0, .slice none 0 0])[j % 3]!) = false
  rcases h3 with h | h | h <;> rw [h] <;> rfl
theorem Fr.noI {w : World} {x y z : Value} {k : Nat} {q : Rat} (h : Fr w (.agg #[x, y, z]) k q) : ∀ c ∈ [x, y, z], isI c = false ∧ c.oneCell' = true := by
  obtain ⟨n, xs, ys, ⟨a, c, a', c', e, h1, h2⟩, h3⟩ := h
  simp at e
  obtain ⟨rfl, rfl, rfl⟩ := e
  intro c hc
  simp at hc
  rcases hc with rfl | rfl | rfl <;> exact ⟨rfl, rfl⟩

/-- Behind an append of one fraction the row still holds no integer. -/
theorem append_noI {P : Program} {w w' : World} {v v' : Value} (base : Nat) (t ty e : TypeId) (i : TypeInfo) (ht : P.underlying t = some (.slice e)) (hi : P.info? e = some i) (hz : i.zero = some rtZ) (hsize : i.size = 3) (hby : i.bytes = 56)
    (n : Nat) (xs : List Value) (hown : w.ownsRow base e 3 v n xs) (hn : ∀ g, v.ownBlock = some g → NoI w g)
    (a : Addr) (news : List Value) (hl : news.length = 3) (hnews : ∀ j u, news[j]? = some u → w.cell? (a.add j) = some u) (h1 : ∀ u ∈ news, isI u = false ∧ u.oneCell' = true) (hlen : n + 1 ≤ 1000000)
    (hr : (Builtin.append_ #[t, t] ty #[v, .slice (some a) 1 1]).run P w = .ok v' w') : ∀ g, v'.ownBlock = some g → NoI w' g := by
  have hl' : news.length = 1 * i.size := by rw [hsize, hl]
  have hnew : ∀ u ∈ news, isI u = false := fun u hu => (h1 u hu).1
  rcases hown.2 with ⟨rfl, rfl⟩ | ⟨g, cap, cur, rfl, hbg, hg, hnc, hcm, hcs, htake⟩
  · have h2 := run_append_nil (P := P) w t ty e i rtZ ht hi hz a 1 1 news hl' hnews (by omega) (by omega) (by rw [hby]; omega)
    rw [h2] at hr
    injection hr with e1 e2
    subst e1 e2
    intro g hg
    simp [Value.ownBlock] at hg
    subst hg
    refine NoI.of (heap_alloc_new w.drew _) (fun c hc => ?_)
    rw [Array.toList_append, List.mem_append] at hc
    rcases hc with hc | hc
    · exact hnew c (by simpa using hc)
    · exact rtZ_zero _ c hc
  · have hcur := (hn g rfl).mem hg
    have hxs : ∀ c ∈ xs, isI c = false := fun c hc => hcur c (by rw [← htake] at hc; exact List.mem_of_mem_take hc)
    by_cases hroom : n + 1 ≤ cap
    · have hfit : n * i.size + news.length ≤ cur.size := by rw [hsize, hl, hcs]; omega
      have h2 := run_append_room (P := P) w t ty e i ht hi g n cap cur hg a 1 1 news hl' hnews (fun u hu => (h1 u hu).2) hroom hfit
      rw [h2] at hr
      injection hr with e1 e2
      subst e1 e2
      intro g' hg'
      simp [Value.ownBlock] at hg'
      subst hg'
      refine NoI.of (setRow_heap w g cur _ e _ hg) (fun c hc => ?_)
      simp only [List.mem_append] at hc
      rcases hc with (hc | hc) | hc
      · exact hcur c (List.mem_of_mem_take hc)
      · exact hnew c hc
      · exact hcur c (List.mem_of_mem_drop hc)
    · have holds : ∀ j u, xs[j]? = some u → w.cell? ((⟨g, 0, none⟩ : Addr).add j) = some u := hown.cells (g := g) rfl
      have h2 := run_append_grow (P := P) w t ty e i rtZ ht hi hz ⟨g, 0, none⟩ n cap xs (by rw [hsize]; exact hown.1) holds a 1 1 news hl' hnews (by omega) (by omega) (growslice_fits (by omega) (by rw [hby]; omega))
      rw [h2] at hr
      injection hr with e1 e2
      subst e1 e2
      intro g' hg'
      simp [Value.ownBlock] at hg'
      subst hg'
      refine NoI.of (heap_alloc_new w.drew _) (fun c hc => ?_)
      rw [Array.toList_append, Array.toList_append, List.mem_append, List.mem_append] at hc
      rcases hc with (hc | hc) | hc
      · exact hxs c (by simpa using hc)
      · exact hnew c (by simpa using hc)
      · exact rtZ_zero _ c hc

/-- 'append(l, x)' of a fraction that lies in a block of its own. -/
theorem append_rt {P : Program} {w : World} {v : Value} (base : Nat) (t ty e : TypeId) (i : TypeInfo) (ht : P.underlying t = some (.slice e)) (hi : P.info? e = some i) (hz : i.zero = some rtZ) (hsize : i.size = 3) (hby : i.bytes = 56)
    (k : Nat) (qs : List Rat) (q : Rat) (hown : Ro e base w v k qs) (g : Nat) (x y z : Value)
    (c0 : w.cell? ⟨g, 0, none⟩ = some x) (c1 : w.cell? ⟨g, 1, none⟩ = some y) (c2 : w.cell? ⟨g, 2, none⟩ = some z) (hF : Fr w (.agg #[x, y, z]) k q) (hlen : qs.length + 1 ≤ 1000000) (hbase : base ≤ w.heap.size) :
    ∃ v' w', (Builtin.append_ #[t, t] ty #[v, .slice (some ⟨g, 0, none⟩) 1 1]).run P w = .ok v' w' ∧ Ro e base w' v' k (qs ++ [q]) ∧ w.grownBy w' v.ownBlock := by
  obtain ⟨vs, h3, hn, h4⟩ := hown
  have hnews : ∀ j u, [x, y, z][j]? = some u → w.cell? ((⟨g, 0, none⟩ : Addr).add j) = some u := by
    intro j u hj
    match j, hj with
    | 0, hj => simp at hj; subst hj; simpa [Addr.add] using c0
    | 1, hj => simp at hj; subst hj; simpa [Addr.add] using c1
    | 2, hj => simp at hj; subst hj; simpa [Addr.add] using c2
  obtain ⟨v', w', hr, k1, k2, _, k4⟩ := run_append_own_at (P := P) w base t ty e i rtZ 3 56 ht hi hz hsize hby rfl (by decide) v qs.length vs h3 ⟨g, 0, none⟩ 1 1 [x, y, z] rfl hnews (fun u hu => (hF.noI u hu).2) (by unfold maxLen; omega) (by omega) hbase
  have hn' := append_noI base t ty e i ht hi hz hsize hby qs.length vs h3 hn ⟨g, 0, none⟩ [x, y, z] rfl hnews hF.noI hlen hr
  have hvs : vs.length = qs.length * 3 := h3.1
  refine ⟨v', w', hr, ⟨vs ++ [x, y, z], by rw [List.length_append]; exact k1, hn', fun j hj => ?_⟩, k2⟩
  by_cases hjm : j < qs.length
  · obtain ⟨x', y', z', q0, q1, q2, q3⟩ := h4 j hjm
    have e : (qs ++ [q]).getD j 0 = qs.getD j 0 := by simp [List.getD, List.getElem?_append_left hjm]
    rw [e]
    exact ⟨x', y', z', by rw [List.getElem?_append_left (by omega)]; exact q0, by rw [List.getElem?_append_left (by omega)]; exact q1, by rw [List.getElem?_append_left (by omega)]; exact q2, q3.grown k2 hn⟩
  · have hj' : j = qs.length := by simp at hj; omega
    subst hj'
    have e : (qs ++ [q]).getD qs.length 0 = q := by simp [List.getD]
    rw [e]
    refine ⟨x, y, z, ?_, ?_, ?_, hF.grown k2 hn⟩
    · rw [List.getElem?_append_right (by omega), hvs]; simp
    · rw [List.getElem?_append_right (by omega), hvs, show qs.length * 3 + 1 - qs.length * 3 = 1 by omega]; simp
    · rw [List.getElem?_append_right (by omega), hvs, show qs.length * 3 + 2 - qs.length * 3 = 2 by omega]; simp

theorem info_rt : (Try.prog.info? 44).map (fun i => (i.zero, i.size, i.bytes)) = some (some rtZ, 3, 56) := by kernel_rfl
/-- The same as an operation. -/
theorem wp_append_rt {w : World} {o : Oper} {a : Act} {K : Act → World → Prop} {Q : Exit → Act → World → Prop}
    (s x : Operand) (ho : o.op = .call { callee := .builtin .append, args := #[s, x], argTypes := #[38, 38] })
    (base : Nat) (v : Value) (k : Nat) (qs : List Rat) (q : Rat) (hs : a.eval s = v) (hown : Ro 44 base w v k qs) (g : Nat) (x0 x1 x2 : Value) (hx : a.eval x = .slice (some ⟨g, 0, none⟩) 1 1)
    (c0 : w.cell? ⟨g, 0, none⟩ = some x0) (c1 : w.cell? ⟨g, 1, none⟩ = some x1) (c2 : w.cell? ⟨g, 2, none⟩ = some x2) (hF : Fr w (.agg #[x0, x1, x2]) k q) (hlen : qs.length + 1 ≤ 1000000) (hbase : base ≤ w.heap.size)
    (h : ∀ v' w', Ro 44 base w' v' k (qs ++ [q]) → w.grownBy w' v.ownBlock → K (a.put o.dst v') w') : o.wp Try.prog a w K Q := by
  obtain ⟨i0, hi, hz0, hz1, hz2⟩ := info_parts info_rt
  obtain ⟨v', w', hr, h2, h3⟩ := append_rt (P := Try.prog) base 38 o.type 44 i0 Try.underlying38 hi hz0 hz1 hz2 k qs q hown g x0 x1 x2 c0 c1 c2 hF hlen hbase
  unfold Oper.wp execOp
  simp only [ho, resolve, invoke, builtin, Sem.run_bind, Sem.run_pure, Result.andThen_ok, List.map_toArray, List.map_cons, List.map_nil, hs, hx, hr]
  exact h v' w' h2 h3

end Go.Proofs.Ytdpafdeoepbhaaa

namespace Go.Proofs.Ytdpafdeoepbhaaa
open Go.RowKit Go.Maps
set_option linter.unusedSimpArgs false
set_option linter.unusedVariables false

/-- A number as one of 32 bits. -/
def usV (z : Int) : Int := if 2147483648 ≤ z % 4294967296 then z % 4294967296 - 4294967296 else z % 4294967296
theorem wrap_i32A (z : Int) : IntKind.i32.wrap z = usV z := by
  simp [IntKind.wrap, IntKind.bits, IntKind.signed, usV]
theorem usV_bd (z : Int) : -2147483648 ≤ usV z ∧ usV z ≤ 2147483647 := by
  unfold usV
  split <;> omega
theorem usV_iff {z : Int} : z = usV z ↔ usr z = true := by
  rw [usr_iff]
  unfold usV
  split <;> omega

/-- An axis, settled. -/
def stA (t : Ax) : Ax := ⟨t.tx, min (usV t.lo) (usV t.us), usV t.us, max (usV t.us) (usV t.hi)⟩
/-- Two axes, held against one another field by field. -/
def eqA (s t : Ax) : Bool := (s.tx.toList == t.tx.toList) && ((s.lo == t.lo) && ((s.us == t.us) && (s.hi == t.hi)))
theorem eqA_iff {s t : Ax} : eqA s t = true ↔ s = t := by
  obtain ⟨a, b, c, d⟩ := s
  obtain ⟨a', b', c', d'⟩ := t
  simp only [eqA, Bool.and_eq_true, beq_iff_eq, Ax.mk.injEq]
  constructor
  · rintro ⟨h1, h2, h3, h4⟩
    exact ⟨toList_inj h1, h2, h3, h4⟩
  · rintro ⟨h1, h2, h3, h4⟩
    exact ⟨by rw [h1], h2, h3, h4⟩
theorem eqA_self (s : Ax) : eqA s s = true := eqA_iff.2 rfl
theorem eqA_st (t : Ax) : eqA t (stA t) = true ↔ (-2147483648 ≤ t.lo ∧ t.lo ≤ t.us ∧ t.us ≤ t.hi ∧ t.hi ≤ 2147483647) := by
  obtain ⟨tx, lo, us, hi⟩ := t
  rw [eqA_iff, stA, Ax.mk.injEq]
  have h1 := usV_iff (z := lo)
  have h2 := usV_iff (z := us)
  have h3 := usV_iff (z := hi)
  rw [usr_iff] at h1 h2 h3
  have b1 := usV_bd lo
  have b2 := usV_bd us
  have b3 := usV_bd hi
  dsimp only
  generalize usV lo = x at *
  generalize usV us = y at *
  generalize usV hi = z at *
  constructor
  · rintro ⟨_, e1, e2, e3⟩
    omega
  · rintro ⟨e1, e2, e3, e4⟩
    have := h1.2 (by omega)
    have := h2.2 (by omega)
    have := h3.2 (by omega)
    exact ⟨rfl, by omega, by omega, by omega⟩
theorem onA_st (t : Ax) : onA t = (gd (sb t.tx) && eqA t (stA t)) := by
  rw [Bool.eq_iff_iff, onA_iff, Bool.and_eq_true, eqA_st]

/-- Structs are held against one another. -/
theorem eq_ax (w : World) (s t : Ax) : (Op.equalIn 10000 33 (.agg #[.string s.tx, .int .i64 s.lo, .int .i64 s.us, .int .i64 s.hi]) (.agg #[.string t.tx, .int .i64 t.lo, .int .i64 t.us, .int .i64 t.hi])).run Try.prog w = .ok (eqA s t) w := by
  have h1 := Try.underlying33
  have h2 := Try.underlying9
  have h3 := Try.underlying3
  rw [run_equalIn_struct w 9999 _ _ _ (by simp [Program.fieldsOf, h1]) (by kernel_rfl)]
  simp only [Program.fieldsOf, h1]
  simp [Op.eqFields, part, go_sem, eqA]
  cases e1 : (s.tx.toList == t.tx.toList) <;> cases e2 : (s.lo == t.lo) <;> cases e3 : (s.us == t.us) <;> cases e4 : (s.hi == t.hi) <;> simp_all

end Go.Proofs.Ytdpafdeoepbhaaa

namespace Go.Proofs.Ytdpafdeoepbhaaa
open Go.RowKit Go.Maps
set_option linter.unusedSimpArgs false
set_option linter.unusedVariables false

set_option maxHeartbeats 400000 in
set_option maxRecDepth 100000 in
theorem cuser_any (n : Int) (w : World) :
    Calls Try.prog 54 #[.int .i64 n] w fun e w' => e = .returned (.int .i64 (usV n)) ∧ w = w' := by
  go_enter Try.func54, Try.ntmps54
  go_wp2
  go_ret
  refine ⟨rt_int ?_, rfl⟩
  unfold wrap64 wrap32 usV
  split <;> omega

/-- An axis is handed back out of its block. -/
theorem retA {P : Program} {fn : Func} {R : Ending → World → Prop} {ac : Act} {u : World} {g : Nat} {x0 x1 x2 x3 y0 y1 y2 y3 v : Value} (B : BxA u g y0 y1 y2 y3)
    (hd : ac.defers = []) (hr : ∀ U, BxA U g x0 x1 x2 x3 → (results fn ac.tmps).run P U = .ok v U)
    (hR : ∀ U, (∀ B w, Below B w u → B ≤ g → Below B w U) → R (.returned v) U) :
    bodyPost P fn R .ret ac ((((u.setCell ⟨g, 0, none⟩ x0).setCell ⟨g, 1, none⟩ x1).setCell ⟨g, 2, none⟩ x2).setCell ⟨g, 3, none⟩ x3) :=
  bodyPost_ret (hr _ ((((B.set0 x0).set1 x1).set2 x2).set3 x3)) hd (hR _ (fun _ _ h hb => (((h.setCell (p := ⟨g, 0, none⟩) hb x0).setCell (p := ⟨g, 1, none⟩) hb x1).setCell (p := ⟨g, 2, none⟩) hb x2).setCell (p := ⟨g, 3, none⟩) hb x3))

theorem cuserB_any (n : Int) (w : World) :
    Calls Try.prog 54 #[.int .i64 n] w fun e w' => e = .returned (.int .i64 (usV n)) ∧ Below w.heap.size w w' :=
  (cuser_any n w).mono fun e w' h => ⟨h.1, h.2 ▸ Below.refl _ _⟩

theorem BxA.new1 (w : World) (o : Obj) (a b c d : Value) : BxA ((w.alloc o).alloc (.cells #[a, b, c, d] 33)) (w.heap.size + 1) a b c d := by
  have h := BxA.new (w.alloc o) a b c d
  simpa using h

set_option maxHeartbeats 1000000 in
set_option maxRecDepth 100000 in
theorem cfind_any (a : Option Addr) (cap : Nat) (l : List Ax) (t : ByteArray) (w : World) (h : As w a cap l) :
    Calls Try.prog 38 #[.slice a l.length cap, .string t] w fun e w' => e = .returned (.int .i64 (fiA l t)) ∧ Below w.heap.size w w' := by
  have k1 := h.1
  have k2 := h.2.1
  unfold maxLen at k2
  go_enter Try.func38, Try.ntmps38
  go_wp2
  go_loopw [9] (fun i wr => ∃ k : Nat, k ≤ l.length ∧ i = .int .i64 k ∧ (∀ j, j < k → (l.getD j Ax.none).tx ≠ t) ∧ Below w.heap.size w wr) (fun i _ => l.length - (intOf i).toNat)
  case atStart => exact ⟨0, Nat.zero_le _, rfl, (fun j hj => by omega), Below.refl _ _⟩
  case round =>
    obtain ⟨k, hk, rfl, hno, hB⟩ := hrel
    by_cases hkn : k < l.length
    · obtain ⟨b, off, ea, hb, d1, d2, d3, d4⟩ := h.at hB k hkn
      subst ea
      have hfa := fiA_at (t := t) hkn hno
      have hno' : (l.getD k Ax.none).tx ≠ t → ∀ j, j < k + 1 → (l.getD j Ax.none).tx ≠ t := fun hn j hj => by
        rcases Nat.lt_or_ge j k with h1 | h1
        · exact hno j h1
        · rw [show j = k by omega]; exact hn
      generalize l.getD k Ax.none = s at *
      obtain ⟨tx, lo, us, hi⟩ := s
      dsimp only at *
      by_cases htx : tx = t
      · subst htx
        have hF : Hid (fiA l tx = (k : Int)) := hfa rfl
        have hbq := teqA_yes tx
        clear hno hno' hfa
        go_wp2
        go_ret
        exact ⟨rt_int (by rw [hF.out]), hB.alloc hB.size _⟩
      · have hbq := teqA_no htx
        have HNO : Hid (∀ j, j < k + 1 → (l.getD j Ax.none).tx ≠ t) := hno' htx
        clear hno hno' hfa htx
        go_wp2
        go_roundw
        case rel => exact ⟨k + 1, by omega, by go_num, HNO.out, hB.alloc hB.size _⟩
        case measure => simp [intOf]; omega
    · obtain rfl : k = l.length := by omega
      have hF : Hid (fiA l t = -1) := fiA_no hno
      clear hno
      go_wp2
      go_ret
      exact ⟨rt_int (by rw [hF.out]), hB⟩

end Go.Proofs.Ytdpafdeoepbhaaa

namespace Go.Proofs.Ytdpafdeoepbhaaa
open Go.RowKit Go.Maps
set_option linter.unusedSimpArgs false
set_option linter.unusedVariables false

set_option maxHeartbeats 1000000 in
set_option maxRecDepth 100000 in
theorem settled_any (t : Ax) (w : World) :
    Calls Try.prog 39 #[.agg (axC t)] w fun e w' => e = .returned (.agg (axC (stA t))) ∧ Below w.heap.size w w' := by
  obtain ⟨tx, lo, us, hi⟩ := t
  unfold axC stA
  dsimp only
  have b1 := usV_bd lo
  have b2 := usV_bd us
  have b3 := usV_bd hi
  obtain ⟨x, hx⟩ : ∃ x, usV lo = x := ⟨_, rfl⟩
  obtain ⟨y, hy⟩ : ∃ x, usV us = x := ⟨_, rfl⟩
  obtain ⟨z, hz⟩ : ∃ x, usV hi = x := ⟨_, rfl⟩
  rw [hx, hy, hz]
  rw [hx] at b1
  rw [hy] at b2
  rw [hz] at b3
  have HX : Hid (usV lo = x ∧ usV us = y ∧ usV hi = z) := ⟨hx, hy, hz⟩
  clear hx hy hz
  go_enter Try.func39, Try.ntmps39
  go_wp2_with fail
  obtain ⟨W, hW, X1, X2, hbW⟩ : ∃ W, W = (w.alloc (.cells #[.string tx, .int .i64 lo, .int .i64 us, .int .i64 hi] 33)).alloc (.cells #[.string ⟨#[]⟩, .int .i64 0, .int .i64 0, .int .i64 0] 33) ∧ BxA W w.heap.size (.string tx) (.int .i64 lo) (.int .i64 us) (.int .i64 hi) ∧ BxA W (w.heap.size + 1) (.string ⟨#[]⟩) (.int .i64 0) (.int .i64 0) (.int .i64 0) ∧ Below w.heap.size w W := ⟨_, rfl, (BxA.new w _ _ _ _).below (bl1 _), BxA.new1 w _ _ _ _ _, bl2 _ _⟩
  rw [← hW]
  clear hW
  obtain ⟨p00, p01, p02, p03, _⟩ := X1.cells
  obtain ⟨p10, p11, p12, p13, _⟩ := X2.cells
  refine wp_region_held_drew (S := (fun u => u.cell? ⟨w.heap.size, 0, none⟩ = some (.string tx) ∧ u.cell? ⟨w.heap.size, 1, none⟩ = some (.int .i64 lo) ∧ u.cell? ⟨w.heap.size, 2, none⟩ = some (.int .i64 us) ∧ u.cell? ⟨w.heap.size, 3, none⟩ = some (.int .i64 hi) ∧ u.cell? ⟨(w.heap.size + 1), 0, none⟩ = some (.string ⟨#[]⟩) ∧ u.cell? ⟨(w.heap.size + 1), 1, none⟩ = some (.int .i64 0) ∧ u.cell? ⟨(w.heap.size + 1), 2, none⟩ = some (.int .i64 0) ∧ u.cell? ⟨(w.heap.size + 1), 3, none⟩ = some (.int .i64 0))) (by kernel_rfl) ?_ (fun hHeld => ?_)
  · (try dsimp only)
    go_keep
  have hdr : Below W.heap.size W W.drew := Below.drew1
  generalize W.drew = ud1 at hdr hHeld ⊢
  replace X1 := X1.below hdr
  replace X2 := X2.below hdr
  replace hbW : Below w.heap.size w ud1 := hbW.trans (hdr.mono hbW.size)
  clear hdr
  clear p00 p01 p02 p03 p10 p11 p12 p13
  obtain ⟨p00, p01, p02, p03, _⟩ := X1.cells
  obtain ⟨p10, p11, p12, p13, _⟩ := X2.cells
  refine hT 0 hHeld ?_
  refine hT 1 hHeld ?_
  refine hT 3 hHeld ?_
  refine hT 4 hHeld ?_
  refine hT 6 hHeld ?_
  refine hT 7 hHeld ?_
  refine hCall (i := 2) rfl (by kernel_rfl) (by rfl) (fun K hK => ?_)
  go_simp
  refine (cuserB_any lo _).mono ?_
  rintro e u1 ⟨rfl, hb1⟩
  replace X1 := X1.below hb1
  replace X2 := X2.below hb1
  replace hbW : Below w.heap.size w u1 := hbW.trans (hb1.mono hbW.size)
  clear hb1
  rw [HX.out.1]
  clear p00 p01 p02 p03 p10 p11 p12 p13
  obtain ⟨p00, p01, p02, p03, _⟩ := X1.cells
  obtain ⟨p10, p11, p12, p13, _⟩ := X2.cells
  go_wp2_with fail
  refine hK.out _ _ ?_ (fun hHeld => ?_)
  · (try dsimp only)
    exact ⟨p00, p01, p02, p03, p10, p11, p12, p13⟩
  clear hK K
  try simp only [Act.put, List.setIfInBounds_toArray, List.set_cons_zero, List.set_cons_succ]
  refine hCall (i := 5) rfl (by kernel_rfl) (by rfl) (fun K hK => ?_)
  go_simp
  refine (cuserB_any us _).mono ?_
  rintro e u2 ⟨rfl, hb2⟩
  replace X1 := X1.below hb2
  replace X2 := X2.below hb2
  replace hbW : Below w.heap.size w u2 := hbW.trans (hb2.mono hbW.size)
  clear hb2
  rw [HX.out.2.1]
  clear p00 p01 p02 p03 p10 p11 p12 p13
  obtain ⟨p00, p01, p02, p03, _⟩ := X1.cells
  obtain ⟨p10, p11, p12, p13, _⟩ := X2.cells
  go_wp2_with fail
  refine hK.out _ _ ?_ (fun hHeld => ?_)
  · (try dsimp only)
    exact ⟨p00, p01, p02, p03, p10, p11, p12, p13⟩
  clear hK K
  try simp only [Act.put, List.setIfInBounds_toArray, List.set_cons_zero, List.set_cons_succ]
  refine hCall (i := 8) rfl (by kernel_rfl) (by rfl) (fun K hK => ?_)
  go_simp
  refine (cuserB_any hi _).mono ?_
  rintro e u3 ⟨rfl, hb3⟩
  replace X1 := X1.below hb3
  replace X2 := X2.below hb3
  replace hbW : Below w.heap.size w u3 := hbW.trans (hb3.mono hbW.size)
  clear hb3
  rw [HX.out.2.2]
  clear p00 p01 p02 p03 p10 p11 p12 p13
  obtain ⟨p00, p01, p02, p03, _⟩ := X1.cells
  obtain ⟨p10, p11, p12, p13, _⟩ := X2.cells
  go_wp2_with fail
  refine hK.out _ _ ?_ (fun hHeld => ?_)
  · (try dsimp only)
    exact ⟨p00, p01, p02, p03, p10, p11, p12, p13⟩
  clear hK K
  try simp only [Act.put, List.setIfInBounds_toArray, List.set_cons_zero, List.set_cons_succ]
  refine hT 9 hHeld ?_
  refine hT 10 hHeld ?_
  refine hT 11 hHeld ?_
  refine wpAnyH_done (by kernel_rfl) ?_ _
  clear p00 p01 p02 p03 p10 p11 p12 p13
  obtain ⟨p00, p01, p02, p03, f00, f01, f02, f03⟩ := X1.cells
  obtain ⟨p10, p11, p12, p13, f10, f11, f12, f13⟩ := X2.cells
  have hs := X2.lt
  go_wp2
  refine retA (v := .agg #[.string tx, .int .i64 (min x y), .int .i64 y, .int .i64 (max y z)]) X2 rfl (fun U hU => by obtain ⟨r1, r2, r3, r4, _⟩ := hU.cells; simp [results, Try.results39, go_sem, r1, r2, r3, r4]) (fun U hU => ⟨rfl, hU _ _ hbW (by omega)⟩)

end Go.Proofs.Ytdpafdeoepbhaaa

namespace Go.Proofs.Ytdpafdeoepbhaaa
open Go.RowKit Go.Maps
set_option linter.unusedSimpArgs false
set_option linter.unusedVariables false

theorem goodB_any (t : ByteArray) (w : World) (ht : t.size ≤ maxLen) :
    Calls Try.prog 37 #[.string t] w fun e w' => e = .returned (.bool (gd (sb t))) ∧ Below w.heap.size w w' :=
  (good_any t w ht).mono fun e w' h => ⟨h.1, h.2 ▸ Below.refl _ _⟩

set_option maxHeartbeats 2000000 in
set_option maxRecDepth 100000 in
theorem cformed_any (a : Option Addr) (cap : Nat) (l : List Ax) (w : World) (h : As w a cap l) :
    Calls Try.prog 20 #[.slice a l.length cap] w fun e w' => e = .returned (.bool (frA l)) ∧ Below w.heap.size w w' := by
  have k1 := h.1
  have k2 := h.2.1
  unfold maxLen at k2
  have HF : Hid (FrA l ↔ l.length ≤ 4 ∧ ∀ j, j < l.length → onA (l.getD j Ax.none) = true ∧ ∀ i, i < j → (l.getD i Ax.none).tx ≠ (l.getD j Ax.none).tx) := FrA.iff
  by_cases hn : 4 < l.length
  · have g : (4 : Int) < (l.length : Int) := by omega
    go_enter Try.func20, Try.ntmps20
    go_wp2
    go_ret
    exact ⟨rt_bool (frA_no (fun hf => by have := (HF.out.1 hf).1; omega)).symm, Below.refl _ _⟩
  have g : ¬ (4 : Int) < (l.length : Int) := by omega
  have HH : Hid (As w a cap l) := h
  go_enter Try.func20, Try.ntmps20
  go_wp2
  go_loopw [10] (fun i wr => ∃ k : Nat, k ≤ l.length ∧ i = .int .i64 k ∧ (∀ j, j < k → onA (l.getD j Ax.none) = true ∧ ∀ i, i < j → (l.getD i Ax.none).tx ≠ (l.getD j Ax.none).tx) ∧ Below w.heap.size w wr) (fun i _ => l.length - (intOf i).toNat)
  case atStart => exact ⟨0, Nat.zero_le _, rfl, (fun j hj => by omega), Below.refl _ _⟩
  case round =>
    obtain ⟨k, hk, rfl, hok, hB⟩ := hrel
    have HOK : Hid (∀ j, j < k → onA (l.getD j Ax.none) = true ∧ ∀ i, i < j → (l.getD i Ax.none).tx ≠ (l.getD j Ax.none).tx) := hok
    clear hok
    by_cases hkn : k < l.length
    · obtain ⟨b, off, ea, hb, d1, d2, d3, d4⟩ := h.at hB k hkn
      subst ea
      have htz := (h.w hkn).1
      have hfs := fiA_self hkn
      obtain ⟨s, hs⟩ : ∃ s, l.getD k Ax.none = s := ⟨_, rfl⟩
      have HS : Hid (l.getD k Ax.none = s) := hs
      rw [hs] at d1 d2 d3 d4 htz hfs
      have HFS : Hid (_) := hfs
      clear hs hfs h
      have hon := onA_st s
      obtain ⟨q, hq⟩ : ∃ q, eqA s (stA s) = q := ⟨_, rfl⟩
      rw [hq] at hon
      have HON : Hid (onA s = (gd (sb s.tx) && q)) := hon
      clear hon
      have hst := fun W => settled_any s W
      have HNO : Hid (onA s = false → frA l = false) := by
        show onA s = false → _
        intro h1
        exact frA_no (fun hf => by
          have := ((HF.out.1 hf).2 k hkn).1
          rw [HS.out, h1] at this
          cases this)
      obtain ⟨tx, lo, us, hi⟩ := s
      simp only [stA, axC] at hst
      have hq1 : (lo = min (usV lo) (usV us) ∧ us = usV us ∧ hi = max (usV us) (usV hi)) ↔ q = true := by rw [← hq, eqA_iff, stA, Ax.mk.injEq]; simp
      clear hq
      dsimp only at d1 d2 d3 d4 htz HFS HON
      obtain ⟨x, hx⟩ : ∃ x, min (usV lo) (usV us) = x := ⟨_, rfl⟩
      obtain ⟨y, hy⟩ : ∃ x, usV us = x := ⟨_, rfl⟩
      obtain ⟨z, hz⟩ : ∃ x, max (usV us) (usV hi) = x := ⟨_, rfl⟩
      simp only [hx, hz] at hst hq1
      simp only [hy] at hst hq1
      have HQ : Hid ((lo = x ∧ us = y ∧ hi = z) ↔ q = true) := hq1
      clear hx hy hz hq1
      cases hg : gd (sb tx) with
      | false =>
        have HFN : Hid (frA l = false) := HNO.out (by rw [HON.out, hg]; rfl)
        clear hst
        go_wp2_with fail
        obtain ⟨W, hW, X1, hbR⟩ : ∃ W, W = wr.alloc (.cells #[.string tx, .int .i64 lo, .int .i64 us, .int .i64 hi] 33) ∧ BxA W wr.heap.size (.string tx) (.int .i64 lo) (.int .i64 us) (.int .i64 hi) ∧ Below wr.heap.size wr W := ⟨_, rfl, BxA.new wr _ _ _ _, bl1 _⟩
        rw [← hW]
        clear hW
        have hbW : Below w.heap.size w W := hB.trans (hbR.mono hB.size)
        have hA := HH.out.below hbW
        clear hbR hB d1 d2 d3 d4
        obtain ⟨p00, p01, p02, p03, _⟩ := X1.cells
        refine wp_region_held_drew (S := (fun u => u.cell? ⟨wr.heap.size, 0, none⟩ = some (.string tx) ∧ u.cell? ⟨wr.heap.size, 1, none⟩ = some (.int .i64 lo) ∧ u.cell? ⟨wr.heap.size, 2, none⟩ = some (.int .i64 us) ∧ u.cell? ⟨wr.heap.size, 3, none⟩ = some (.int .i64 hi))) (by kernel_rfl) ?_ (fun hHeld => ?_)
        · (try dsimp only)
          go_keep
        have hdr : Below W.heap.size W W.drew := Below.drew1
        generalize W.drew = ud11 at hdr hHeld ⊢
        replace hA := hA.below hdr
        replace X1 := X1.below hdr
        replace hbW : Below w.heap.size w ud11 := hbW.trans (hdr.mono hbW.size)
        clear hdr
        clear p00 p01 p02 p03
        obtain ⟨p00, p01, p02, p03, _⟩ := X1.cells
        refine hT 0 hHeld ?_
        refine hT 1 hHeld ?_
        refine hCall (i := 2) rfl (by kernel_rfl) (by rfl) (fun K hK => ?_)
        go_simp
        refine (goodB_any tx _ htz).mono ?_
        rintro e u1 ⟨rfl, hb1⟩
        replace hA := hA.below hb1
        replace X1 := X1.below hb1
        replace hbW : Below w.heap.size w u1 := hbW.trans (hb1.mono hbW.size)
        clear hb1
        rw [hg]
        clear p00 p01 p02 p03
        obtain ⟨p00, p01, p02, p03, _⟩ := X1.cells
        go_wp2_with fail
        refine hK.out _ _ ?_ (fun hHeld => ?_)
        · (try dsimp only)
          exact ⟨p00, p01, p02, p03⟩
        clear hK K
        try simp only [Act.put, List.setIfInBounds_toArray, List.set_cons_zero, List.set_cons_succ]
        refine hT 3 hHeld ?_
        refine hT 4 hHeld ?_
        refine hN 5 hHeld ?_
        refine hN 6 hHeld ?_
        refine hN 7 hHeld ?_
        refine hN 8 hHeld ?_
        refine hN 9 hHeld ?_
        refine hN 10 hHeld ?_
        refine hT 11 hHeld ?_
        refine hT 12 hHeld ?_
        refine hN 13 hHeld ?_
        refine hN 14 hHeld ?_
        refine hN 15 hHeld ?_
        refine hN 16 hHeld ?_
        refine hT 17 hHeld ?_
        refine wpAnyH_done (by kernel_rfl) ?_ _
        go_wp2
        go_ret
        exact ⟨rt_bool HFN.out.symm, hbW⟩
      | true =>
        by_cases hne : ∀ j, j < k → (l.getD j Ax.none).tx ≠ tx
        · have HFI : Hid (fiA l tx = (k : Int)) := HFS.out.1 hne
          have HNE : Hid (∀ j, j < k → (l.getD j Ax.none).tx ≠ tx) := hne
          have hkk : ((k : Int) != (k : Int)) = false := by simp
          clear hne
          go_wp2_with fail
          obtain ⟨W, hW, X1, hbR⟩ : ∃ W, W = wr.alloc (.cells #[.string tx, .int .i64 lo, .int .i64 us, .int .i64 hi] 33) ∧ BxA W wr.heap.size (.string tx) (.int .i64 lo) (.int .i64 us) (.int .i64 hi) ∧ Below wr.heap.size wr W := ⟨_, rfl, BxA.new wr _ _ _ _, bl1 _⟩
          rw [← hW]
          clear hW
          have hbW : Below w.heap.size w W := hB.trans (hbR.mono hB.size)
          have hA := HH.out.below hbW
          clear hbR hB d1 d2 d3 d4
          obtain ⟨p00, p01, p02, p03, _⟩ := X1.cells
          refine wp_region_held_drew (S := (fun u => u.cell? ⟨wr.heap.size, 0, none⟩ = some (.string tx) ∧ u.cell? ⟨wr.heap.size, 1, none⟩ = some (.int .i64 lo) ∧ u.cell? ⟨wr.heap.size, 2, none⟩ = some (.int .i64 us) ∧ u.cell? ⟨wr.heap.size, 3, none⟩ = some (.int .i64 hi))) (by kernel_rfl) ?_ (fun hHeld => ?_)
          · (try dsimp only)
            go_keep
          have hdr : Below W.heap.size W W.drew := Below.drew1
          generalize W.drew = ud19 at hdr hHeld ⊢
          replace hA := hA.below hdr
          replace X1 := X1.below hdr
          replace hbW : Below w.heap.size w ud19 := hbW.trans (hdr.mono hbW.size)
          clear hdr
          clear p00 p01 p02 p03
          obtain ⟨p00, p01, p02, p03, _⟩ := X1.cells
          refine hT 0 hHeld ?_
          refine hT 1 hHeld ?_
          refine hCall (i := 2) rfl (by kernel_rfl) (by rfl) (fun K hK => ?_)
          go_simp
          refine (goodB_any tx _ htz).mono ?_
          rintro e u1 ⟨rfl, hb1⟩
          replace hA := hA.below hb1
          replace X1 := X1.below hb1
          replace hbW : Below w.heap.size w u1 := hbW.trans (hb1.mono hbW.size)
          clear hb1
          rw [hg]
          clear p00 p01 p02 p03
          obtain ⟨p00, p01, p02, p03, _⟩ := X1.cells
          go_wp2_with fail
          refine hK.out _ _ ?_ (fun hHeld => ?_)
          · (try dsimp only)
            exact ⟨p00, p01, p02, p03⟩
          clear hK K
          try simp only [Act.put, List.setIfInBounds_toArray, List.set_cons_zero, List.set_cons_succ]
          refine hT 3 hHeld ?_
          refine hT 4 hHeld ?_
          refine hT 5 hHeld ?_
          refine hT 6 hHeld ?_
          refine hT 7 hHeld ?_
          refine hT 9 hHeld ?_
          refine hCall (i := 8) rfl (by kernel_rfl) (by rfl) (fun K hK => ?_)
          go_simp
          refine (cfind_any _ cap l tx _ hA).mono ?_
          rintro e u2 ⟨rfl, hb2⟩
          replace hA := hA.below hb2
          replace X1 := X1.below hb2
          replace hbW : Below w.heap.size w u2 := hbW.trans (hb2.mono hbW.size)
          clear hb2
          rw [HFI.out]
          clear p00 p01 p02 p03
          obtain ⟨p00, p01, p02, p03, _⟩ := X1.cells
          go_wp2_with fail
          refine hK.out _ _ ?_ (fun hHeld => ?_)
          · (try dsimp only)
            exact ⟨p00, p01, p02, p03⟩
          clear hK K
          try simp only [Act.put, List.setIfInBounds_toArray, List.set_cons_zero, List.set_cons_succ]
          refine hT 10 hHeld ?_
          refine hT 11 hHeld ?_
          refine hT 12 hHeld ?_
          refine hT 13 hHeld ?_
          refine hT 14 hHeld ?_
          refine hCall (i := 15) rfl (by kernel_rfl) (by rfl) (fun K hK => ?_)
          go_simp
          refine (hst _).mono ?_
          rintro e u3 ⟨rfl, hb3⟩
          replace hA := hA.below hb3
          replace X1 := X1.below hb3
          replace hbW : Below w.heap.size w u3 := hbW.trans (hb3.mono hbW.size)
          clear hb3
          clear p00 p01 p02 p03
          obtain ⟨p00, p01, p02, p03, _⟩ := X1.cells
          go_wp2_with fail
          refine hK.out _ _ ?_ (fun hHeld => ?_)
          · (try dsimp only)
            exact ⟨p00, p01, p02, p03⟩
          clear hK K
          try simp only [Act.put, List.setIfInBounds_toArray, List.set_cons_zero, List.set_cons_succ]
          refine hTake (i := 16) (v := .bool (!q)) rfl (by kernel_rfl) (by kernel_rfl) (by kernel_rfl) (fun _ _ _ h => h) (Or.inl ⟨by rfl, ?y33⟩) hHeld ?r33
          case y33 =>
            intro w9 hSw
            (try dsimp only at hSw)
            go_simp
            have hqq := HQ.out
            cases q with
            | true =>
              obtain ⟨e1, e2, e3⟩ := hqq.2 rfl
              rw [if_pos e1, if_pos e2, if_pos e3]
              rfl
            | false =>
              have hno : ¬ (lo = x ∧ us = y ∧ hi = z) := fun hh => by cases hqq.1 hh
              repeat' split
              all_goals first | rfl | (exfalso; exact hno ⟨by assumption, by assumption, by assumption⟩)
          try simp only [Act.put, List.setIfInBounds_toArray, List.set_cons_zero, List.set_cons_succ]
          refine hT 17 hHeld ?_
          refine wpAnyH_done (by kernel_rfl) ?_ _
          cases q with
          | true =>
            go_wp2
            go_roundw
            case rel =>
              refine ⟨k + 1, by omega, by go_num, fun j hj => ?_, hbW⟩
              rcases Nat.lt_or_ge j k with h1 | h1
              · exact HOK.out j h1
              · rw [show j = k by omega, HS.out]
                exact ⟨by rw [HON.out, hg]; rfl, HNE.out⟩
            case measure => simp [intOf]; omega
          | false =>
            have HFN : Hid (frA l = false) := HNO.out (by rw [HON.out, hg]; rfl)
            go_wp2
            go_ret
            exact ⟨rt_bool HFN.out.symm, hbW⟩
        · obtain ⟨z1, z2⟩ := HFS.out.2 hne
          have HFN : Hid (frA l = false) := frA_no (fun hf => by
            have := ((HF.out.1 hf).2 k hkn).2
            rw [HS.out] at this
            exact hne this)
          generalize hzz : fiA l tx = zz at *
          have HZ : Hid (fiA l tx = zz) := hzz
          have hkk : (zz != (k : Int)) = true := by simp; omega
          clear hne hzz hst
          go_wp2_with fail
          obtain ⟨W, hW, X1, hbR⟩ : ∃ W, W = wr.alloc (.cells #[.string tx, .int .i64 lo, .int .i64 us, .int .i64 hi] 33) ∧ BxA W wr.heap.size (.string tx) (.int .i64 lo) (.int .i64 us) (.int .i64 hi) ∧ Below wr.heap.size wr W := ⟨_, rfl, BxA.new wr _ _ _ _, bl1 _⟩
          rw [← hW]
          clear hW
          have hbW : Below w.heap.size w W := hB.trans (hbR.mono hB.size)
          have hA := HH.out.below hbW
          clear hbR hB d1 d2 d3 d4
          obtain ⟨p00, p01, p02, p03, _⟩ := X1.cells
          refine wp_region_held_drew (S := (fun u => u.cell? ⟨wr.heap.size, 0, none⟩ = some (.string tx) ∧ u.cell? ⟨wr.heap.size, 1, none⟩ = some (.int .i64 lo) ∧ u.cell? ⟨wr.heap.size, 2, none⟩ = some (.int .i64 us) ∧ u.cell? ⟨wr.heap.size, 3, none⟩ = some (.int .i64 hi))) (by kernel_rfl) ?_ (fun hHeld => ?_)
          · (try dsimp only)
            go_keep
          have hdr : Below W.heap.size W W.drew := Below.drew1
          generalize W.drew = ud35 at hdr hHeld ⊢
          replace hA := hA.below hdr
          replace X1 := X1.below hdr
          replace hbW : Below w.heap.size w ud35 := hbW.trans (hdr.mono hbW.size)
          clear hdr
          clear p00 p01 p02 p03
          obtain ⟨p00, p01, p02, p03, _⟩ := X1.cells
          refine hT 0 hHeld ?_
          refine hT 1 hHeld ?_
          refine hCall (i := 2) rfl (by kernel_rfl) (by rfl) (fun K hK => ?_)
          go_simp
          refine (goodB_any tx _ htz).mono ?_
          rintro e u1 ⟨rfl, hb1⟩
          replace hA := hA.below hb1
          replace X1 := X1.below hb1
          replace hbW : Below w.heap.size w u1 := hbW.trans (hb1.mono hbW.size)
          clear hb1
          rw [hg]
          clear p00 p01 p02 p03
          obtain ⟨p00, p01, p02, p03, _⟩ := X1.cells
          go_wp2_with fail
          refine hK.out _ _ ?_ (fun hHeld => ?_)
          · (try dsimp only)
            exact ⟨p00, p01, p02, p03⟩
          clear hK K
          try simp only [Act.put, List.setIfInBounds_toArray, List.set_cons_zero, List.set_cons_succ]
          refine hT 3 hHeld ?_
          refine hT 4 hHeld ?_
          refine hT 5 hHeld ?_
          refine hT 6 hHeld ?_
          refine hT 7 hHeld ?_
          refine hT 9 hHeld ?_
          refine hCall (i := 8) rfl (by kernel_rfl) (by rfl) (fun K hK => ?_)
          go_simp
          refine (cfind_any _ cap l tx _ hA).mono ?_
          rintro e u2 ⟨rfl, hb2⟩
          replace hA := hA.below hb2
          replace X1 := X1.below hb2
          replace hbW : Below w.heap.size w u2 := hbW.trans (hb2.mono hbW.size)
          clear hb2
          rw [HZ.out]
          clear p00 p01 p02 p03
          obtain ⟨p00, p01, p02, p03, _⟩ := X1.cells
          go_wp2_with fail
          refine hK.out _ _ ?_ (fun hHeld => ?_)
          · (try dsimp only)
            exact ⟨p00, p01, p02, p03⟩
          clear hK K
          try simp only [Act.put, List.setIfInBounds_toArray, List.set_cons_zero, List.set_cons_succ]
          refine hT 10 hHeld ?_
          refine hT 11 hHeld ?_
          refine hT 12 hHeld ?_
          refine hN 13 hHeld ?_
          refine hN 14 hHeld ?_
          refine hN 15 hHeld ?_
          refine hN 16 hHeld ?_
          refine hT 17 hHeld ?_
          refine wpAnyH_done (by kernel_rfl) ?_ _
          go_wp2
          go_ret
          exact ⟨rt_bool HFN.out.symm, hbW⟩
    · obtain rfl : k = l.length := by omega
      have hf : frA l = true := frA_iff.2 (HF.out.2 ⟨by omega, HOK.out⟩)
      go_wp2
      go_ret
      exact ⟨rt_bool hf.symm, hB⟩

end Go.Proofs.Ytdpafdeoepbhaaa
