/-
  Rows of fractions: read (Rz), of the call's own (Ro), and how they grow: no cell of such a row is an integer, so no limb lies in it.
  Rows of fractions: one row laid behind another.
  infer.Fill: the walk.
  foundrylaw13.awake: the walk.
-/
import Derived.Test.YthoildjecoppgaaGreatDoorZ6
import Derived.Test.YthoildjecoppgaaGreatDoorZ10
import Derived.Laws.MakeOwn
import Derived.Laws.AppendOwnNone
import Derived.Test.YthoildjecoppgaaGreatDoorZ18
import Derived.Test.YthoildjecoppgaaGreatDoorZ9
namespace Go.Proofs.YthoildjecoppgaaGreatDoor
open Go.RowKit Go.Maps
set_option linter.unusedSimpArgs false
set_option linter.unusedVariables false

/-- Whether a cell holds an integer. -/
def isI : Value → Bool
  | .int _ _ => true
  | _ => false
/-- No cell of a block is an integer. -/
def NoI (w : World) (g : Nat) : Prop := ∀ j v, w.cell? ⟨g, j, none⟩ = some v → isI v = false
theorem NoI.of {w : World} {g : Nat} {cur : Array Value} {e : TypeId} (h : w.heap[g]? = some (.cells cur e (0, 0))) (hc : ∀ c ∈ cur.toList, isI c = false) : NoI w g := by
  intro j v hv
  rw [cell_of_row w g j cur e (0, 0) h] at hv
  obtain ⟨hj, e⟩ := Array.getElem?_eq_some_iff.1 hv
  exact hc v (by rw [← e]; simp)
theorem NoI.mem {w : World} {g : Nat} {cur : Array Value} {e : TypeId} (hn : NoI w g) (h : w.heap[g]? = some (.cells cur e (0, 0))) : ∀ c ∈ cur.toList, isI c = false := by
  intro c hc
  obtain ⟨j, hj, e⟩ := List.getElem_of_mem hc
  refine hn j c ?_
  rw [cell_of_row w g j cur _ (0, 0) h, Array.getElem?_eq_getElem (by simpa using hj)]
  simpa using e
theorem NoI.below {w w' : World} {g : Nat} (h : NoI w g) (hg : g < w.heap.size) (hb : Below w.heap.size w w') : NoI w' g := by
  intro j v hv
  rw [hb.cell (p := ⟨g, j, none⟩) hg] at hv
  exact h j v hv
/-- Limbs stay, whatever becomes of a row without integers. -/
theorem Rd.grown {w w' : World} {a : Option Addr} {cap : Nat} {xs : List Nat} {row : Option Nat} (h : Rd w a cap xs) (hg : w.grownBy w' row) (hn : ∀ g, row = some g → NoI w g) : Rd w' a cap xs := by
  obtain ⟨h1, h2, h3, h5, h4⟩ := h
  refine ⟨h1, h2, h3, h5, ?_⟩
  rcases h4 with h4 | ⟨b, off, e, hb1, hc⟩
  · exact .inl h4
  · by_cases h0 : xs = []
    · exact .inl h0
    · have hl : 0 < xs.length := List.length_pos_iff.2 h0
      have hne : some b ≠ row := by
        intro e2
        have := hn b e2.symm _ _ (hc 0 hl)
        cases this
      exact .inr ⟨b, off, e, Nat.lt_of_lt_of_le hb1 hg.size, fun i hi => (World.cell?_of_block (w := w) (a := ⟨b, off + i, none⟩) (hg.block b hb1 hne)).trans (hc i hi)⟩
theorem Fr.grown {w w' : World} {v : Value} {k : Nat} {q : Rat} {row : Option Nat} (h : Fr w v k q) (hg : w.grownBy w' row) (hn : ∀ g, row = some g → NoI w g) : Fr w' v k q := by
  obtain ⟨n, xs, ys, ⟨a, c, a', c', rfl, h1, h2⟩, h3⟩ := h
  exact ⟨n, xs, ys, ⟨a, c, a', c', rfl, h1.grown hg hn, h2.grown hg hn⟩, h3⟩

/-- Fractions that are read. -/
def Rz (w : World) (a : Option Addr) (cap k : Nat) (qs : List Rat) : Prop :=
  qs.length ≤ cap ∧ cap ≤ maxLen ∧
  ∀ i, i < qs.length → ∃ b off x y z, a = some ⟨b, off, none⟩ ∧ b < w.heap.size ∧ w.cell? ⟨b, off + i * 3, none⟩ = some x ∧ w.cell? ⟨b, off + i * 3 + 1, none⟩ = some y ∧ w.cell? ⟨b, off + i * 3 + 2, none⟩ = some z ∧ Fr w (.agg #[x, y, z]) k (qs.getD i 0)
theorem Rz.at {w wr : World} {a : Option Addr} {cap k : Nat} {qs : List Rat} (h : Rz w a cap k qs) (hb : Below w.heap.size w wr) (i : Nat) (hi : i < qs.length) :
    ∃ b off x y z, a = some ⟨b, off, none⟩ ∧ b < w.heap.size ∧ wr.cell? ⟨b, off + i * 3, none⟩ = some x ∧ wr.cell? ⟨b, off + i * 3 + 1, none⟩ = some y ∧ wr.cell? ⟨b, off + i * 3 + 2, none⟩ = some z ∧ Fr wr (.agg #[x, y, z]) k (qs.getD i 0) := by
  obtain ⟨b, off, x, y, z, h1, h2, h3, h4, h5, h6⟩ := h.2.2 i hi
  exact ⟨b, off, x, y, z, h1, h2, (hb.cell (p := ⟨b, off + i * 3, none⟩) h2).trans h3, (hb.cell (p := ⟨b, off + i * 3 + 1, none⟩) h2).trans h4, (hb.cell (p := ⟨b, off + i * 3 + 2, none⟩) h2).trans h5, h6.below hb⟩
theorem Rz.below {w w' : World} {a : Option Addr} {cap k : Nat} {qs : List Rat} (h : Rz w a cap k qs) (hb : Below w.heap.size w w') : Rz w' a cap k qs := by
  refine ⟨h.1, h.2.1, fun i hi => ?_⟩
  obtain ⟨b, off, x, y, z, h1, h2, h3⟩ := h.at hb i hi
  exact ⟨b, off, x, y, z, h1, Nat.lt_of_lt_of_le h2 hb.size, h3⟩
theorem Rz.nil (w : World) (a : Option Addr) (cap k : Nat) (h : cap ≤ maxLen) : Rz w a cap k [] := ⟨Nat.zero_le _, h, fun i hi => by simp at hi⟩
theorem Rz.lenB {w : World} {a : Option Addr} {cap k : Nat} {qs : List Rat} (h : Rz w a cap k qs) : qs.length ≤ 9223372036854775807 := by
  have h1 := h.1
  have h2 := h.2.1
  unfold maxLen at h2
  omega

/-- A row of fractions of the call's own. -/
def Ro (T : TypeId) (base : Nat) (w : World) (v : Value) (k : Nat) (qs : List Rat) : Prop :=
  ∃ vs : List Value, w.ownsRow base T 3 v qs.length vs ∧ (∀ g, v.ownBlock = some g → NoI w g) ∧
    ∀ i, i < qs.length → ∃ x y z, vs[i * 3]? = some x ∧ vs[i * 3 + 1]? = some y ∧ vs[i * 3 + 2]? = some z ∧ Fr w (.agg #[x, y, z]) k (qs.getD i 0)
theorem Ro.nil (T : TypeId) (base : Nat) (w : World) (k : Nat) : Ro T base w (.slice none 0 0) k [] := ⟨[], World.ownsRow_nil w base _ 3, (fun g hg => by cases hg), fun i hi => by simp at hi⟩
theorem Ro.slice {T : TypeId} {base : Nat} {w : World} {v : Value} {k : Nat} {qs : List Rat} (h : Ro T base w v k qs) : ∃ a cap, v = .slice a qs.length cap ∧ Rz w a cap k qs := by
  obtain ⟨vs, h3, _, h4⟩ := h
  rcases h3.2 with ⟨rfl, h0⟩ | ⟨g, cap, cur, rfl, hb, hg, hc1, hc2, hc3, ht⟩
  · have : qs = [] := List.length_eq_zero_iff.1 h0
    subst this
    exact ⟨none, 0, rfl, Rz.nil _ _ _ _ (Nat.zero_le _)⟩
  · refine ⟨_, cap, rfl, hc1, hc2, fun i hi => ?_⟩
    obtain ⟨x, y, z, k0, k1, k2, k3⟩ := h4 i hi
    have hadd : ∀ j, (⟨g, 0, none⟩ : Addr).add j = ⟨g, 0 + j, none⟩ := by intro j; unfold Addr.add; split <;> simp_all
    have d0 := h3.cells (g := g) rfl (i * 3) _ k0
    have d1 := h3.cells (g := g) rfl (i * 3 + 1) _ k1
    have d2 := h3.cells (g := g) rfl (i * 3 + 2) _ k2
    rw [hadd] at d0 d1 d2
    exact ⟨g, 0, x, y, z, rfl, (Array.getElem?_eq_some_iff.1 hg).1, d0, d1, d2, k3⟩
theorem Ro.lo {T : TypeId} {base : Nat} {w : World} {v : Value} {k : Nat} {qs : List Rat} (h : Ro T base w v k qs) {g : Nat} (hg : v.ownBlock = some g) : base ≤ g ∧ g < w.heap.size := by
  obtain ⟨vs, h3, _⟩ := h
  exact World.ownsRow.lt h3 g hg
theorem Ro.below {T : TypeId} {base : Nat} {w w' : World} {v : Value} {k : Nat} {qs : List Rat} (h : Ro T base w v k qs) (hb : Below w.heap.size w w') : Ro T base w' v k qs := by
  have hlo := fun g hg => (h.lo (g := g) hg).2
  obtain ⟨vs, h3, hn, h4⟩ := h
  refine ⟨vs, ⟨h3.1, ?_⟩, fun g hg => (hn g hg).below (hlo g hg) hb, fun i hi => ?_⟩
  · rcases h3.2 with h0 | ⟨g, cap', cur, k1, k2, k3, k4⟩
    · exact .inl h0
    · exact .inr ⟨g, cap', cur, k1, k2, (hb.block g (Array.getElem?_eq_some_iff.1 k3).1).trans k3, k4⟩
  · obtain ⟨x, y, z, k0, k1, k2, k3⟩ := h4 i hi
    exact ⟨x, y, z, k0, k1, k2, k3.below hb⟩

/-- A fraction's zero. -/
def rtZ : Value := .agg #[.bool false, .slice none 0 0, .slice none 0 0]
theorem rtZ_made (n : Nat) : ∀ c ∈ (madeCells rtZ.cells n).toList, isI c = false := by
  intro c hc
  simp only [madeCells, rtZ, Value.cells, Array.toList_map, List.mem_map] at hc
  obtain ⟨j, _, rfl⟩ := hc
  have h3 : j % 3 = 0 ∨ j % 3 = 1 ∨ j % 3 = 2 := by omega
  show isI ((#[Value.bool false, .slice none 0 0, .slice none 0 0])[j % 3]!) = false
  rcases h3 with h | h | h <;> rw [h] <;> rfl
theorem rtZ_zero (n : Nat) : ∀ c ∈ (Builtin.zeroCells rtZ.cells n).toList, isI c = false := by
  intro c hc
  simp only [Builtin.zeroCells, rtZ, Value.cells, Array.toList_map, List.mem_map] at hc
  obtain ⟨j, _, rfl⟩ := hc
  have h3 : j % 3 = 0 ∨ j % 3 = 1 ∨ j % 3 = 2 := by omega
  show isI ((#[Value.bool false, .slice none 0 0, .slice none 0 0])[j % 3]!) = false
  rcases h3 with h | h | h <;> rw [h] <;> rfl
theorem Fr.noI {w : World} {x y z : Value} {k : Nat} {q : Rat} (h : Fr w (.agg #[x, y, z]) k q) : ∀ c ∈ [x, y, z], isI c = false ∧ c.oneCell' = true := by
  obtain ⟨n, xs, ys, ⟨a, c, a', c', e, h1, h2⟩, h3⟩ := h
  simp at e
  obtain ⟨rfl, rfl, rfl⟩ := e
  intro c hc
  simp at hc
  rcases hc with rfl | rfl | rfl <;> exact ⟨rfl, rfl⟩

/-- Behind an append of one fraction the row still holds no integer. -/
theorem append_noI {P : Program} {w w' : World} {v v' : Value} (base : Nat) (t ty e : TypeId) (i : TypeInfo) (ht : P.underlying t = some (.slice e)) (hi : P.info? e = some i) (hz : i.zero = some rtZ) (hsize : i.size = 3) (hby : i.bytes = 56)
    (n : Nat) (xs : List Value) (hown : w.ownsRow base e 3 v n xs) (hn : ∀ g, v.ownBlock = some g → NoI w g)
    (a : Addr) (news : List Value) (hl : news.length = 3) (hnews : ∀ j u, news[j]? = some u → w.cell? (a.add j) = some u) (h1 : ∀ u ∈ news, isI u = false ∧ u.oneCell' = true) (hlen : n + 1 ≤ 1000000)
    (hr : (Builtin.append_ #[t, t] ty #[v, .slice (some a) 1 1]).run P w = .ok v' w') : ∀ g, v'.ownBlock = some g → NoI w' g := by
  have hl' : news.length = 1 * i.size := by rw [hsize, hl]
  have hnew : ∀ u ∈ news, isI u = false := fun u hu => (h1 u hu).1
  rcases hown.2 with ⟨rfl, rfl⟩ | ⟨g, cap, cur, rfl, hbg, hg, hnc, hcm, hcs, htake⟩
  · have h2 := run_append_nil (P := P) w t ty e i rtZ ht hi hz a 1 1 news hl' hnews (by omega) (by omega) (by rw [hby]; omega)
    rw [h2] at hr
    injection hr with e1 e2
    subst e1 e2
    intro g hg
    simp [Value.ownBlock] at hg
    subst hg
    refine NoI.of (heap_alloc_new w.drew _) (fun c hc => ?_)
    rw [Array.toList_append, List.mem_append] at hc
    rcases hc with hc | hc
    · exact hnew c (by simpa using hc)
    · exact rtZ_zero _ c hc
  · have hcur := (hn g rfl).mem hg
    have hxs : ∀ c ∈ xs, isI c = false := fun c hc => hcur c (by rw [← htake] at hc; exact List.mem_of_mem_take hc)
    by_cases hroom : n + 1 ≤ cap
    · have hfit : n * i.size + news.length ≤ cur.size := by rw [hsize, hl, hcs]; omega
      have h2 := run_append_room (P := P) w t ty e i ht hi g n cap cur hg a 1 1 news hl' hnews (fun u hu => (h1 u hu).2) hroom hfit
      rw [h2] at hr
      injection hr with e1 e2
      subst e1 e2
      intro g' hg'
      simp [Value.ownBlock] at hg'
      subst hg'
      refine NoI.of (setRow_heap w g cur _ e _ hg) (fun c hc => ?_)
      simp only [List.mem_append] at hc
      rcases hc with (hc | hc) | hc
      · exact hcur c (List.mem_of_mem_take hc)
      · exact hnew c hc
      · exact hcur c (List.mem_of_mem_drop hc)
    · have holds : ∀ j u, xs[j]? = some u → w.cell? ((⟨g, 0, none⟩ : Addr).add j) = some u := hown.cells (g := g) rfl
      have h2 := run_append_grow (P := P) w t ty e i rtZ ht hi hz ⟨g, 0, none⟩ n cap xs (by rw [hsize]; exact hown.1) holds a 1 1 news hl' hnews (by omega) (by omega) (growslice_fits (by omega) (by rw [hby]; omega))
      rw [h2] at hr
      injection hr with e1 e2
      subst e1 e2
      intro g' hg'
      simp [Value.ownBlock] at hg'
      subst hg'
      refine NoI.of (heap_alloc_new w.drew _) (fun c hc => ?_)
      rw [Array.toList_append, Array.toList_append, List.mem_append, List.mem_append] at hc
      rcases hc with (hc | hc) | hc
      · exact hxs c (by simpa using hc)
      · exact hnew c (by simpa using hc)
      · exact rtZ_zero _ c hc

/-- 'append(l, x)' of a fraction that lies in a block of its own. -/
theorem append_rt {P : Program} {w : World} {v : Value} (base : Nat) (t ty e : TypeId) (i : TypeInfo) (ht : P.underlying t = some (.slice e)) (hi : P.info? e = some i) (hz : i.zero = some rtZ) (hsize : i.size = 3) (hby : i.bytes = 56)
    (k : Nat) (qs : List Rat) (q : Rat) (hown : Ro e base w v k qs) (g : Nat) (x y z : Value)
    (c0 : w.cell? ⟨g, 0, none⟩ = some x) (c1 : w.cell? ⟨g, 1, none⟩ = some y) (c2 : w.cell? ⟨g, 2, none⟩ = some z) (hF : Fr w (.agg #[x, y, z]) k q) (hlen : qs.length + 1 ≤ 1000000) (hbase : base ≤ w.heap.size) :
    ∃ v' w', (Builtin.append_ #[t, t] ty #[v, .slice (some ⟨g, 0, none⟩) 1 1]).run P w = .ok v' w' ∧ Ro e base w' v' k (qs ++ [q]) ∧ w.grownBy w' v.ownBlock := by
  obtain ⟨vs, h3, hn, h4⟩ := hown
  have hnews : ∀ j u, [x, y, z][j]? = some u → w.cell? ((⟨g, 0, none⟩ : Addr).add j) = some u := by
    intro j u hj
    match j, hj with
    | 0, hj => simp at hj; subst hj; simpa [Addr.add] using c0
    | 1, hj => simp at hj; subst hj; simpa [Addr.add] using c1
    | 2, hj => simp at hj; subst hj; simpa [Addr.add] using c2
  obtain ⟨v', w', hr, k1, k2, _, k4⟩ := run_append_own_at (P := P) w base t ty e i rtZ 3 56 ht hi hz hsize hby rfl (by decide) v qs.length vs h3 ⟨g, 0, none⟩ 1 1 [x, y, z] rfl hnews (fun u hu => (hF.noI u hu).2) (by unfold maxLen; omega) (by omega) hbase
  have hn' := append_noI base t ty e i ht hi hz hsize hby qs.length vs h3 hn ⟨g, 0, none⟩ [x, y, z] rfl hnews hF.noI hlen hr
  have hvs : vs.length = qs.length * 3 := h3.1
  refine ⟨v', w', hr, ⟨vs ++ [x, y, z], by rw [List.length_append]; exact k1, hn', fun j hj => ?_⟩, k2⟩
  by_cases hjm : j < qs.length
  · obtain ⟨x', y', z', q0, q1, q2, q3⟩ := h4 j hjm
    have e : (qs ++ [q]).getD j 0 = qs.getD j 0 := by simp [List.getD, List.getElem?_append_left hjm]
    rw [e]
    exact ⟨x', y', z', by rw [List.getElem?_append_left (by omega)]; exact q0, by rw [List.getElem?_append_left (by omega)]; exact q1, by rw [List.getElem?_append_left (by omega)]; exact q2, q3.grown k2 hn⟩
  · have hj' : j = qs.length := by simp at hj; omega
    subst hj'
    have e : (qs ++ [q]).getD qs.length 0 = q := by simp [List.getD]
    rw [e]
    refine ⟨x, y, z, ?_, ?_, ?_, hF.grown k2 hn⟩
    · rw [List.getElem?_append_right (by omega), hvs]; simp
    · rw [List.getElem?_append_right (by omega), hvs, show qs.length * 3 + 1 - qs.length * 3 = 1 by omega]; simp
    · rw [List.getElem?_append_right (by omega), hvs, show qs.length * 3 + 2 - qs.length * 3 = 2 by omega]; simp

theorem info_rt : (Tryz.prog.info? 51).map (fun i => (i.zero, i.size, i.bytes)) = some (some rtZ, 3, 56) := by kernel_rfl
/-- The same as an operation. -/
theorem wp_append_rt {w : World} {o : Oper} {a : Act} {K : Act → World → Prop} {Q : Exit → Act → World → Prop}
    (s x : Operand) (ho : o.op = .call { callee := .builtin .append, args := #[s, x], argTypes := #[29, 29] })
    (base : Nat) (v : Value) (k : Nat) (qs : List Rat) (q : Rat) (hs : a.eval s = v) (hown : Ro 51 base w v k qs) (g : Nat) (x0 x1 x2 : Value) (hx : a.eval x = .slice (some ⟨g, 0, none⟩) 1 1)
    (c0 : w.cell? ⟨g, 0, none⟩ = some x0) (c1 : w.cell? ⟨g, 1, none⟩ = some x1) (c2 : w.cell? ⟨g, 2, none⟩ = some x2) (hF : Fr w (.agg #[x0, x1, x2]) k q) (hlen : qs.length + 1 ≤ 1000000) (hbase : base ≤ w.heap.size)
    (h : ∀ v' w', Ro 51 base w' v' k (qs ++ [q]) → w.grownBy w' v.ownBlock → K (a.put o.dst v') w') : o.wp Tryz.prog a w K Q := by
  obtain ⟨i0, hi, hz0, hz1, hz2⟩ := info_parts info_rt
  obtain ⟨v', w', hr, h2, h3⟩ := append_rt (P := Tryz.prog) base 29 o.type 51 i0 Tryz.underlying29 hi hz0 hz1 hz2 k qs q hown g x0 x1 x2 c0 c1 c2 hF hlen hbase
  unfold Oper.wp execOp
  simp only [ho, resolve, invoke, builtin, Sem.run_bind, Sem.run_pure, Result.andThen_ok, List.map_toArray, List.map_cons, List.map_nil, hs, hx, hr]
  exact h v' w' h2 h3

theorem info_srt : (Tryz.prog.info? 55).map (fun i => (i.zero, i.size, i.bytes)) = some (some rtZ, 3, 56) := by kernel_rfl
theorem wpList_append_srt {w : World} {ops : Array Oper} {rest : List Oper} {o : Oper} {a : Act} {Q : Exit → Act → World → Prop}
    (hgd : o.guard = none) (s x : Operand) (ho : o.op = .call { callee := .builtin .append, args := #[s, x], argTypes := #[27, 27] })
    (base : Nat) (v : Value) (k : Nat) (qs : List Rat) (q : Rat) (hs : a.eval s = v) (hown : Ro 55 base w v k qs) (g : Nat) (x0 x1 x2 : Value) (hx : a.eval x = .slice (some ⟨g, 0, none⟩) 1 1)
    (c0 : w.cell? ⟨g, 0, none⟩ = some x0) (c1 : w.cell? ⟨g, 1, none⟩ = some x1) (c2 : w.cell? ⟨g, 2, none⟩ = some x2) (hF : Fr w (.agg #[x0, x1, x2]) k q) (hlen : qs.length + 1 ≤ 1000000) (hbase : base ≤ w.heap.size)
    (h : ∀ v' w', Ro 55 base w' v' k (qs ++ [q]) → w.grownBy w' v.ownBlock → wpList Tryz.prog ops Q rest (a.put o.dst v') w') : wpList Tryz.prog ops Q (o :: rest) a w := by
  obtain ⟨i0, hi, hz0, hz1, hz2⟩ := info_parts info_srt
  refine wpList_plain hgd fun K hK => ?_
  obtain ⟨v', w', hr, h2, h3⟩ := append_rt (P := Tryz.prog) base 27 o.type 55 i0 Tryz.underlying27 hi hz0 hz1 hz2 k qs q hown g x0 x1 x2 c0 c1 c2 hF hlen hbase
  unfold Oper.wp execOp
  simp only [ho, resolve, invoke, builtin, Sem.run_bind, Sem.run_pure, Result.andThen_ok, List.map_toArray, List.map_cons, List.map_nil, hs, hx, hr]
  exact hK _ _ (h v' w' h2 h3)

end Go.Proofs.YthoildjecoppgaaGreatDoor

namespace Go.Proofs.YthoildjecoppgaaGreatDoor
open Go.RowKit Go.Maps
set_option linter.unusedSimpArgs false
set_option linter.unusedVariables false

/-- Behind an append of fractions the row still holds no integer. -/
theorem append_noIs {P : Program} {w w' : World} {v v' : Value} (base : Nat) (t ty e : TypeId) (i : TypeInfo) (ht : P.underlying t = some (.slice e)) (hi : P.info? e = some i) (hz : i.zero = some rtZ) (hsize : i.size = 3) (hby : i.bytes = 56)
    (n : Nat) (xs : List Value) (hown : w.ownsRow base e 3 v n xs) (hn : ∀ g, v.ownBlock = some g → NoI w g)
    (a : Addr) (m pc : Nat) (news : List Value) (hm : 0 < m) (hl : news.length = m * 3) (hnews : ∀ j u, news[j]? = some u → w.cell? (a.add j) = some u) (h1 : ∀ u ∈ news, isI u = false ∧ u.oneCell' = true) (hlen : n + m ≤ 1000000)
    (hr : (Builtin.append_ #[t, t] ty #[v, .slice (some a) m pc]).run P w = .ok v' w') : ∀ g, v'.ownBlock = some g → NoI w' g := by
  have hl' : news.length = m * i.size := by rw [hsize, hl]
  have hnew : ∀ u ∈ news, isI u = false := fun u hu => (h1 u hu).1
  rcases hown.2 with ⟨rfl, rfl⟩ | ⟨g, cap, cur, rfl, hbg, hg, hnc, hcm, hcs, htake⟩
  · have h2 := run_append_nil (P := P) w t ty e i rtZ ht hi hz a m pc news hl' hnews hm (by omega) (by rw [hby]; omega)
    rw [h2] at hr
    injection hr with e1 e2
    subst e1 e2
    intro g hg
    simp [Value.ownBlock] at hg
    subst hg
    refine NoI.of (heap_alloc_new w.drew _) (fun c hc => ?_)
    rw [Array.toList_append, List.mem_append] at hc
    rcases hc with hc | hc
    · exact hnew c (by simpa using hc)
    · exact rtZ_zero _ c hc
  · have hcur := (hn g rfl).mem hg
    have hxs : ∀ c ∈ xs, isI c = false := fun c hc => hcur c (by rw [← htake] at hc; exact List.mem_of_mem_take hc)
    by_cases hroom : n + m ≤ cap
    · have hfit : n * i.size + news.length ≤ cur.size := by rw [hsize, hl, hcs]; omega
      have h2 := run_append_room (P := P) w t ty e i ht hi g n cap cur hg a m pc news hl' hnews (fun u hu => (h1 u hu).2) hroom hfit
      rw [h2] at hr
      injection hr with e1 e2
      subst e1 e2
      intro g' hg'
      simp [Value.ownBlock] at hg'
      subst hg'
      refine NoI.of (setRow_heap w g cur _ e _ hg) (fun c hc => ?_)
      simp only [List.mem_append] at hc
      rcases hc with (hc | hc) | hc
      · exact hcur c (List.mem_of_mem_take hc)
      · exact hnew c hc
      · exact hcur c (List.mem_of_mem_drop hc)
    · have holds : ∀ j u, xs[j]? = some u → w.cell? ((⟨g, 0, none⟩ : Addr).add j) = some u := hown.cells (g := g) rfl
      have h2 := run_append_grow (P := P) w t ty e i rtZ ht hi hz ⟨g, 0, none⟩ n cap xs (by rw [hsize]; exact hown.1) holds a m pc news hl' hnews (by omega) (by omega) (growslice_fits (by omega) (by rw [hby]; omega))
      rw [h2] at hr
      injection hr with e1 e2
      subst e1 e2
      intro g' hg'
      simp [Value.ownBlock] at hg'
      subst hg'
      refine NoI.of (heap_alloc_new w.drew _) (fun c hc => ?_)
      rw [Array.toList_append, Array.toList_append, List.mem_append, List.mem_append] at hc
      rcases hc with (hc | hc) | hc
      · exact hxs c (by simpa using hc)
      · exact hnew c (by simpa using hc)
      · exact rtZ_zero _ c hc

/-- The cells of fractions that are read. -/
theorem Rz.cells {w : World} {b off cap k : Nat} {qs : List Rat} (h : Rz w (some ⟨b, off, none⟩) cap k qs) : ∃ us : List Value, us.length = qs.length * 3 ∧ (∀ j u, us[j]? = some u → w.cell? ((⟨b, off, none⟩ : Addr).add j) = some u) ∧ (∀ u ∈ us, isI u = false ∧ u.oneCell' = true) ∧
    ∀ i, i < qs.length → ∃ x y z, us[i * 3]? = some x ∧ us[i * 3 + 1]? = some y ∧ us[i * 3 + 2]? = some z ∧ Fr w (.agg #[x, y, z]) k (qs.getD i 0) := by
  have key : ∀ n, n ≤ qs.length → ∃ us : List Value, us.length = n * 3 ∧ (∀ j u, us[j]? = some u → w.cell? ((⟨b, off, none⟩ : Addr).add j) = some u) ∧ (∀ u ∈ us, isI u = false ∧ u.oneCell' = true) ∧
      ∀ i, i < n → ∃ x y z, us[i * 3]? = some x ∧ us[i * 3 + 1]? = some y ∧ us[i * 3 + 2]? = some z ∧ Fr w (.agg #[x, y, z]) k (qs.getD i 0) := by
    intro n
    induction n with
    | zero => exact fun _ => ⟨[], rfl, (fun j u h => by simp at h), (fun u h => by simp at h), fun i hi => by omega⟩
    | succ n ih =>
      intro hn
      obtain ⟨us, h1, h2, h3, h4⟩ := ih (by omega)
      obtain ⟨b', off', x, y, z, e, hb, c0, c1, c2, hF⟩ := h.2.2 n (by omega)
      cases e
      refine ⟨us ++ [x, y, z], by rw [List.length_append, h1]; simp; omega, fun j u hj => ?_, fun u hu => ?_, fun i hi => ?_⟩
      · by_cases hjl : j < us.length
        · rw [List.getElem?_append_left hjl] at hj
          exact h2 j u hj
        · rw [List.getElem?_append_right (by omega)] at hj
          have hadd : (⟨b, off, none⟩ : Addr).add j = ⟨b, off + j, none⟩ := by unfold Addr.add; split <;> simp_all
          rw [hadd]
          obtain ⟨d, hd⟩ : ∃ d, j - us.length = d := ⟨_, rfl⟩
          rw [hd] at hj
          have ej : j = n * 3 + d := by omega
          match d, hj with
          | 0, hj => simp at hj; subst hj; rw [ej]; exact c0
          | 1, hj => simp at hj; subst hj; rw [ej, ← Nat.add_assoc]; exact c1
          | 2, hj => simp at hj; subst hj; rw [ej, ← Nat.add_assoc]; exact c2
      · rcases List.mem_append.1 hu with hu | hu
        · exact h3 u hu
        · exact hF.noI u hu
      · by_cases hin : i < n
        · obtain ⟨x', y', z', q0, q1, q2, q3⟩ := h4 i hin
          exact ⟨x', y', z', by rw [List.getElem?_append_left (by omega)]; exact q0, by rw [List.getElem?_append_left (by omega)]; exact q1, by rw [List.getElem?_append_left (by omega)]; exact q2, q3⟩
        · obtain rfl : i = n := by omega
          refine ⟨x, y, z, ?_, ?_, ?_, hF⟩
          · rw [List.getElem?_append_right (by omega), h1]; simp
          · rw [List.getElem?_append_right (by omega), h1, show i * 3 + 1 - i * 3 = 1 by omega]; simp
          · rw [List.getElem?_append_right (by omega), h1, show i * 3 + 2 - i * 3 = 2 by omega]; simp
  exact key _ (Nat.le_refl _)

/-- 'append(l, m...)' of fractions. -/
theorem wp_append_rts {w : World} {o : Oper} {a : Act} {K : Act → World → Prop} {Q : Exit → Act → World → Prop} (t e : TypeId)
    (ht : Tryz.prog.underlying t = some (.slice e)) (hinfo : (Tryz.prog.info? e).map (fun i => (i.zero, i.size, i.bytes)) = some (some rtZ, 3, 56))
    (s x : Operand) (ho : o.op = .call { callee := .builtin .append, args := #[s, x], argTypes := #[t, t] })
    (base : Nat) (v : Value) (k : Nat) (qs ms : List Rat) (hs : a.eval s = v) (hown : Ro e base w v k qs) (pa : Option Addr) (pc n : Nat) (hn : n = ms.length) (hx : a.eval x = .slice pa n pc) (hp : Rz w pa pc k ms) (hpn : pa = none → pc = 0) (hps : ∀ ad, pa = some ad → ∃ b off, ad = ⟨b, off, none⟩) (hlen : qs.length + ms.length ≤ 1000000) (hbase : base ≤ w.heap.size)
    (h : ∀ v' w', Ro e base w' v' k (qs ++ ms) → w.grownBy w' v.ownBlock → (v'.ownBlock = v.ownBlock ∨ v'.ownBlock = some w.heap.size) → K (a.put o.dst v') w') : o.wp Tryz.prog a w K Q := by
  subst hn
  obtain ⟨i0, hi, hz0, hz1, hz2⟩ := info_parts hinfo
  obtain ⟨vs, h3, hnI, h4⟩ := hown
  cases pa with
  | none =>
    obtain rfl := hpn rfl
    have hm : ms = [] := List.length_eq_zero_iff.1 (Nat.le_zero.1 hp.1)
    subst hm
    have hrun := run_append_owned_none (P := Tryz.prog) (w := w) base t o.type e i0 3 ht hi v qs.length vs h3
    have hx' : a.eval x = .slice none 0 0 := hx
    unfold Oper.wp execOp
    simp only [ho, resolve, invoke, builtin, Sem.run_bind, Sem.run_pure, Result.andThen_ok, List.map_toArray, List.map_cons, List.map_nil, hs, hx', hrun]
    exact h v w (by rw [List.append_nil]; exact ⟨vs, h3, hnI, h4⟩) (World.grownBy.refl w _) (.inl rfl)
  | some ad =>
    obtain ⟨b, off, rfl⟩ := hps ad rfl
    obtain ⟨us, l1, l2, l3, l4⟩ := hp.cells
    obtain ⟨v', w', hr, k1, k2, k3, k4⟩ := run_append_own_at (P := Tryz.prog) w base t o.type e i0 rtZ 3 56 ht hi hz0 hz1 hz2 rfl (by decide) v qs.length vs h3 ⟨b, off, none⟩ ms.length pc us l1 l2 (fun u hu => (l3 u hu).2) (by unfold maxLen; omega) (by omega) hbase
    have hn' : ∀ g, v'.ownBlock = some g → NoI w' g := by
      by_cases hm : 0 < ms.length
      · exact append_noIs base t o.type e i0 ht hi hz0 hz1 hz2 qs.length vs h3 hnI ⟨b, off, none⟩ ms.length pc us hm l1 l2 l3 hlen hr
      · have hm0 : ms.length = 0 := by omega
        rcases h3.2 with ⟨rfl, h0⟩ | ⟨g, cap, cur, rfl, hbg, hg, hnc, hcm, hcs, htake⟩
        · rw [k3.2 ⟨rfl, hm0⟩]
          intro g hg
          cases hg
        · have hus : us = [] := List.length_eq_zero_iff.1 (by omega)
          subst hus
          have h2 := run_append_room (P := Tryz.prog) w t o.type e i0 ht hi g qs.length cap cur hg ⟨b, off, none⟩ ms.length pc [] (by rw [hm0]; simp) (by simp) (by simp) (by omega) (by rw [hz1, hcs]; simp; omega)
          rw [h2] at hr
          injection hr with e1 e2
          subst e1 e2
          intro g' hg'
          simp [Value.ownBlock] at hg'
          subst hg'
          have hcur := (hnI g rfl).mem hg
          refine NoI.of (setRow_heap w g cur _ e _ hg) (fun c hc => ?_)
          simp only [List.mem_append] at hc
          rcases hc with (hc | hc) | hc
          · exact hcur c (List.mem_of_mem_take hc)
          · simp at hc
          · exact hcur c (List.mem_of_mem_drop hc)
    have hvs : vs.length = qs.length * 3 := h3.1
    unfold Oper.wp execOp
    simp only [ho, resolve, invoke, builtin, Sem.run_bind, Sem.run_pure, Result.andThen_ok, List.map_toArray, List.map_cons, List.map_nil, hs, hx, hr]
    refine h v' w' ⟨vs ++ us, by rw [List.length_append]; exact k1, hn', fun j hj => ?_⟩ k2 k4
    by_cases hjm : j < qs.length
    · obtain ⟨x', y', z', q0, q1, q2, q3⟩ := h4 j hjm
      have e' : (qs ++ ms).getD j 0 = qs.getD j 0 := by simp [List.getD, List.getElem?_append_left hjm]
      rw [e']
      exact ⟨x', y', z', by rw [List.getElem?_append_left (by omega)]; exact q0, by rw [List.getElem?_append_left (by omega)]; exact q1, by rw [List.getElem?_append_left (by omega)]; exact q2, q3.grown k2 hnI⟩
    · have hj' : j - qs.length < ms.length := by simp at hj; omega
      have e' : (qs ++ ms).getD j 0 = ms.getD (j - qs.length) 0 := by simp [List.getD, List.getElem?_append_right (show qs.length ≤ j by omega)]
      rw [e']
      obtain ⟨x', y', z', q0, q1, q2, q3⟩ := l4 _ hj'
      refine ⟨x', y', z', ?_, ?_, ?_, q3.grown k2 hnI⟩
      · rw [List.getElem?_append_right (by omega), hvs, show j * 3 - qs.length * 3 = (j - qs.length) * 3 by omega]; exact q0
      · rw [List.getElem?_append_right (by omega), hvs, show j * 3 + 1 - qs.length * 3 = (j - qs.length) * 3 + 1 by omega]; exact q1
      · rw [List.getElem?_append_right (by omega), hvs, show j * 3 + 2 - qs.length * 3 = (j - qs.length) * 3 + 2 by omega]; exact q2
theorem wpList_append_rts {w : World} {ops : Array Oper} {rest : List Oper} {o : Oper} {a : Act} {Q : Exit → Act → World → Prop} (t e : TypeId)
    (ht : Tryz.prog.underlying t = some (.slice e)) (hinfo : (Tryz.prog.info? e).map (fun i => (i.zero, i.size, i.bytes)) = some (some rtZ, 3, 56)) (hgd : o.guard = none)
    (s x : Operand) (ho : o.op = .call { callee := .builtin .append, args := #[s, x], argTypes := #[t, t] })
    (base : Nat) (v : Value) (k : Nat) (qs ms : List Rat) (hs : a.eval s = v) (hown : Ro e base w v k qs) (pa : Option Addr) (pc n : Nat) (hn : n = ms.length) (hx : a.eval x = .slice pa n pc) (hp : Rz w pa pc k ms) (hpn : pa = none → pc = 0) (hps : ∀ ad, pa = some ad → ∃ b off, ad = ⟨b, off, none⟩) (hlen : qs.length + ms.length ≤ 1000000) (hbase : base ≤ w.heap.size)
    (h : ∀ v' w', Ro e base w' v' k (qs ++ ms) → w.grownBy w' v.ownBlock → (v'.ownBlock = v.ownBlock ∨ v'.ownBlock = some w.heap.size) → wpList Tryz.prog ops Q rest (a.put o.dst v') w') : wpList Tryz.prog ops Q (o :: rest) a w :=
  wpList_plain hgd fun K hK => wp_append_rts t e ht hinfo s x ho base v k qs ms hs hown pa pc n hn hx hp hpn hps hlen hbase (fun v' w' k1 k2 k3 => hK _ _ (h v' w' k1 k2 k3))

/-- Fractions that are read, nil or in a row. -/
def Rf (w : World) (a : Option Addr) (cap k : Nat) (qs : List Rat) : Prop := Rz w a cap k qs ∧ (a = none → cap = 0) ∧ ∀ ad, a = some ad → ∃ b off, ad = ⟨b, off, none⟩
theorem Rf.nil (w : World) (k : Nat) : Rf w none 0 k [] := ⟨Rz.nil _ _ _ _ (Nat.zero_le _), (fun _ => rfl), (fun ad e => by cases e)⟩
theorem Rf.below {w w' : World} {a : Option Addr} {cap k : Nat} {qs : List Rat} (h : Rf w a cap k qs) (hb : Below w.heap.size w w') : Rf w' a cap k qs := ⟨h.1.below hb, h.2⟩
theorem Rz.le {w : World} {a : Option Addr} {cap k m : Nat} {qs : List Rat} (h : Rz w a cap k qs) (hk : k ≤ m) : Rz w a cap m qs := by
  refine ⟨h.1, h.2.1, fun i hi => ?_⟩
  obtain ⟨b, off, x, y, z, h1, h2, h3, h4, h5, h6⟩ := h.2.2 i hi
  exact ⟨b, off, x, y, z, h1, h2, h3, h4, h5, h6.le hk⟩
theorem Ro.rf {T : TypeId} {base : Nat} {w : World} {v : Value} {k : Nat} {qs : List Rat} (h : Ro T base w v k qs) : ∃ a cap, v = .slice a qs.length cap ∧ Rf w a cap k qs := by
  obtain ⟨a, cap, e, hz⟩ := h.slice
  obtain ⟨vs, h3, _, h4⟩ := h
  rcases h3.2 with ⟨e1, h0⟩ | ⟨g, cap', cur, e1, _⟩
  · rw [e] at e1
    injection e1 with e1 e2 e3
    exact ⟨a, cap, e, hz, (fun _ => e3), (fun ad e4 => by rw [e1] at e4; cases e4)⟩
  · rw [e] at e1
    injection e1 with e1 e2 e3
    exact ⟨a, cap, e, hz, (fun e4 => by rw [e1] at e4; cases e4), (fun ad e4 => by rw [e1] at e4; cases e4; exact ⟨_, _, rfl⟩)⟩
theorem Rz.one {w : World} {g k : Nat} {x y z : Value} {q : Rat} (hg : g < w.heap.size) (c0 : w.cell? ⟨g, 0, none⟩ = some x) (c1 : w.cell? ⟨g, 1, none⟩ = some y) (c2 : w.cell? ⟨g, 2, none⟩ = some z) (hF : Fr w (.agg #[x, y, z]) k q) : Rz w (some ⟨g, 0, none⟩) 1 k [q] := by
  refine ⟨Nat.le_refl _, by unfold maxLen; omega, fun i hi => ?_⟩
  obtain rfl : i = 0 := by simpa using hi
  exact ⟨g, 0, x, y, z, rfl, hg, c0, c1, c2, hF⟩

end Go.Proofs.YthoildjecoppgaaGreatDoor

namespace Go.Proofs.YthoildjecoppgaaGreatDoor
open Go.RowKit Go.Maps
set_option linter.unusedSimpArgs false
set_option linter.unusedVariables false

theorem Fr.cells3' {w : World} {v : Value} {k : Nat} {q : Rat} (h : Fr w v k q) : ∃ n a l c a' l' c', v = .agg #[.bool n, .slice a l c, .slice a' l' c'] := by
  obtain ⟨n, xs, ys, ⟨a, c, a', c', rfl, h1, h2⟩, h3⟩ := h
  exact ⟨_, _, _, _, _, _, _, rfl⟩
theorem rg_succ {α : Type} (f : Nat → α) (k : Nat) : (List.range (k + 1)).map f = (List.range k).map f ++ [f k] := by rw [List.range_succ, List.map_append]; rfl

set_option maxHeartbeats 2000000 in
set_option maxRecDepth 100000 in
theorem cfill_any (a : Option Addr) (ca : Nat) (ns : List Int) (ta : Option Addr) (tc : Nat) (ts : List Bool) (da : Option Addr) (dc : Nat) (cs : List Int) (w : World) (hn : Ri w a ca ns) (ht : Rl w ta tc ts) (hc : Ri w da dc cs) :
    Calls Tryz.prog 9 #[.slice a ns.length ca, .slice ta ts.length tc, .slice da cs.length dc] w fun e w' => ∃ a' c', e = .returned (.slice a' (fillQ ns ts cs).length c') ∧ Rf w' a' c' 7 (fillQ ns ts cs) ∧ Below w.heap.size w w' := by
  have b1 := hn.lenB
  have b2 := ht.lenB
  have b3 := hc.lenB
  cases hF : fitB ns ts cs with
  | false =>
    rw [fillQ_no hF]
    by_cases l1 : ts.length = ns.length
    · by_cases l2 : cs.length = ns.length
      · by_cases l3 : ns.length ≤ 80
        · have hf1 := ifields_any a ca ns w hn
          have hf2 := ifields_any da dc cs w hc
          cases hq : ns.all fdB with
          | false =>
            rw [hq] at hf1
            rw [l1, l2] at *
            generalize ns.length = n at *
            clear hF hq hn ht hc l1 l2 hf2
            have g1 : ¬ (n : Int) > 80 := by omega
            go_enter Tryz.func9, Tryz.ntmps9
            go_wp2_with fail
            refine hf1.mono ?_
            rintro e u0 ⟨rfl, rfl⟩
            go_wp2
            go_ret
            exact ⟨none, 0, rfl, Rf.nil _ _, Below.refl _ _⟩
          | true =>
            have hq2 : cs.all fdB = false := by
              cases h9 : cs.all fdB with
              | false => rfl
              | true => rw [fitB, hq, h9, decide_eq_true ⟨l1, l2, l3⟩] at hF; cases hF
            rw [hq] at hf1
            rw [hq2] at hf2
            rw [l1, l2] at *
            generalize ns.length = n at *
            clear hF hq hq2 hn ht hc l1 l2
            have g1 : ¬ (n : Int) > 80 := by omega
            go_enter Tryz.func9, Tryz.ntmps9
            go_wp2_with fail
            refine hf1.mono ?_
            rintro e u0 ⟨rfl, rfl⟩
            go_wp2_with fail
            refine hf2.mono ?_
            rintro e u0 ⟨rfl, rfl⟩
            go_wp2
            go_ret
            exact ⟨none, 0, rfl, Rf.nil _ _, Below.refl _ _⟩
        · rw [l1, l2] at *
          generalize ns.length = n at *
          have g1 : (n : Int) > 80 := by omega
          clear hF hn ht hc l1 l2
          go_enter Tryz.func9, Tryz.ntmps9
          go_wp2
          go_ret
          exact ⟨none, 0, rfl, Rf.nil _ _, Below.refl _ _⟩
      · rw [l1]
        generalize ns.length = n at *
        generalize cs.length = m at *
        have g1 : ¬ ((m : Int) = (n : Int)) := by omega
        clear hF hn ht hc l1
        go_enter Tryz.func9, Tryz.ntmps9
        go_wp2
        go_ret
        exact ⟨none, 0, rfl, Rf.nil _ _, Below.refl _ _⟩
    · generalize ns.length = n at *
      generalize ts.length = m at *
      generalize cs.length = m2 at *
      have g1 : ¬ ((m : Int) = (n : Int)) := by omega
      clear hF hn ht hc
      go_enter Tryz.func9, Tryz.ntmps9
      go_wp2
      go_ret
      exact ⟨none, 0, rfl, Rf.nil _ _, Below.refl _ _⟩
  | true =>
    obtain ⟨⟨l1, l2, l3⟩, f1, f2⟩ := fitB_iff.1 hF
    have hf1 := ifields_any a ca ns w hn
    have hf2 := ifields_any da dc cs w hc
    rw [show ns.all fdB = true from List.all_eq_true.2 (fun z hz => fdB_iff.2 (f1 z hz))] at hf1
    rw [show cs.all fdB = true from List.all_eq_true.2 (fun z hz => fdB_iff.2 (f2 z hz))] at hf2
    have HR : Hid (fillQ ns ts cs = (List.range ns.length).map (fiQ ns ts cs)) := fillQ_yes hF
    have hch := fun U (h1 : Ri U a ca ns) (h2 : Rl U ta tc ts) (h3 : Ri U da dc cs) i hi => changeAt_any i a ca ns ta tc ts da dc cs U h1 h2 h3 hF hi
    have HFL : Hid ((fillQ ns ts cs).length = ns.length) := fillQ_len hF
    rw [HFL.out]
    rw [l1, l2] at *
    obtain ⟨n, hnn⟩ : ∃ n, ns.length = n := ⟨_, rfl⟩
    have HN : Hid (Ri w a ca ns) := hn
    have HT : Hid (Rl w ta tc ts) := ht
    have HC : Hid (Ri w da dc cs) := hc
    rw [hnn] at HR HFL hf1 hf2 hch b1 l3 ⊢
    clear b2 b3
    have HL : Hid (ns.length = n) := hnn
    have HCH : Hid (∀ U, Ri U a ca ns → Rl U ta tc ts → Ri U da dc cs → ∀ i : Nat, i < n → Calls Tryz.prog 19 #[.int .i64 (i : Int), .slice a n ca, .slice ta n tc, .slice da n dc] U fun e w' => ∃ v', e = .returned v' ∧ Fr w' v' 7 (fiQ ns ts cs i) ∧ Below U.heap.size U w') := hch
    clear hF f1 f2 hn ht hc l1 l2 hnn hch
    have g1 : ¬ (n : Int) > 80 := by omega
    obtain ⟨i0, hi0, hz0, hz1, hz2⟩ := info_parts info_rt
    have hmk := run_make (P := Tryz.prog) w 29 51 i0 rtZ Tryz.underlying29 hi0 hz0 .i64 .i64 0 (n : Int) (by omega) (by omega) (by rw [hz2]; omega) (by omega)
    rw [hz1] at hmk
    simp only [Int.toNat_zero, Int.toNat_natCast] at hmk
    obtain ⟨w1, hw1⟩ : ∃ w1, w.alloc (.cells (madeCells rtZ.cells (n * 3)) 51) = w1 := ⟨_, rfl⟩
    have hI0 : Ro 51 w.heap.size w1 (.slice (some ⟨w.heap.size, 0, none⟩) 0 n) 7 ((List.range 0).map (fiQ ns ts cs)) := by
      refine ⟨[], ?_, fun g hg => ?_, fun i hi => by simp at hi⟩
      · rw [← hw1]
        have := World.ownsRow_made (base := w.heap.size) (e := 51) (size := 3) w (madeCells rtZ.cells (n * 3)) n (Nat.le_refl _) (by unfold maxLen; omega) (size_madeCells _ _)
        simpa using this
      · simp [Value.ownBlock] at hg
        subst hg
        rw [← hw1]
        exact NoI.of (heap_alloc_new w _) (rtZ_made _)
    have hB1u : Below w.heap.size w w1 := by rw [← hw1]; exact bl1 _
    rw [hw1] at hmk
    clear hw1 hi0 hz0 hz1 hz2
    go_enter Tryz.func9, Tryz.ntmps9
    go_wp2_with fail
    refine hf1.mono ?_
    rintro e u0 ⟨rfl, rfl⟩
    go_wp2_with fail
    refine hf2.mono ?_
    rintro e u0 ⟨rfl, rfl⟩
    clear hf1 hf2
    go_wp2
    go_loopw [8, 37] (fun v i wr => ∃ k : Nat, k ≤ n ∧ i = .int .i64 k ∧ Ro 51 w.heap.size wr v 7 ((List.range k).map (fiQ ns ts cs)) ∧ Below w.heap.size w wr) (fun _ i _ => n - (intOf i).toNat)
    case atStart => exact ⟨0, Nat.zero_le _, rfl, hI0, hB1u⟩
    case round =>
      obtain ⟨k, hk, rfl, hT, hB⟩ := hrel
      obtain ⟨a2, c2, rfl, hts⟩ := hT.rf
      have hlen : ((List.range k).map (fiQ ns ts cs)).length = k := by simp
      rw [hlen] at hT ⊢
      have HT2 : Hid (Ro 51 w.heap.size wr (.slice a2 k c2) 7 ((List.range k).map (fiQ ns ts cs))) := hT
      have HTS : Hid (Rf wr a2 c2 7 ((List.range k).map (fiQ ns ts cs))) := hts
      clear hT hts hmk hI0 hB1u
      have hsz := hB.size
      by_cases hkn : k < n
      · have hc1 := HCH.out wr (HN.out.below hB) (HT.out.below hB) (HC.out.below hB) k hkn
        have HS : Hid (_) := rg_succ (fiQ ns ts cs) k
        go_wp2_with fail
        refine hc1.mono ?_
        rintro e u1 ⟨v1, rfl, hF1, hb1⟩
        obtain ⟨z1, x1, x2, x3, x4, x5, x6, rfl⟩ := hF1.cells3'
        obtain ⟨V, hV, B4, hb4⟩ : ∃ V, V = u1.alloc (.cells #[.bool z1, .slice x1 x2 x3, .slice x4 x5 x6] 51) ∧ Box 51 V u1.heap.size (.bool z1) (.slice x1 x2 x3) (.slice x4 x5 x6) ∧ Below u1.heap.size u1 V := ⟨_, rfl, Box.new _ _ _ _ _, bl1 _⟩
        have hbv : Below wr.heap.size wr V := hb1.trans (hb4.mono hb1.size)
        obtain ⟨r0, r1, r2, _⟩ := B4.cells
        have hone := Rz.one B4.lt r0 r1 r2 (hF1.below hb4)
        have hown := HT2.out.below hbv
        have hll : ((List.range k).map (fiQ ns ts cs)).length + [fiQ ns ts cs k].length ≤ 1000000 := by rw [hlen]; simp; omega
        have hbs : w.heap.size ≤ V.heap.size := Nat.le_trans hsz hbv.size
        have hBV : Below w.heap.size w V := hB.trans (hbv.mono hsz)
        have hloV : ∀ g, (Value.slice a2 k c2).ownBlock = some g → w.heap.size ≤ g := fun g hg => (HT2.out.lo hg).1
        clear hc1 hF1 hb1 hb4 hbv B4 r0 r1 r2
        go_wp2_with (at_builtin; rw [← hV]; refine wpList_append_rts 29 51 Tryz.underlying29 info_rt rfl _ _ rfl w.heap.size (.slice a2 k c2) 7 _ _ rfl hown _ 1 1 rfl rfl hone (fun e => by cases e) (fun ad e => by cases e; exact ⟨_, _, rfl⟩) hll hbs ?_)
        intro v9 w9 hT9 hgrow _
        rw [← hV] at hgrow
        have hB9 : Below w.heap.size w w9 := hBV.grown hgrow hbs hloV
        rw [← HS.out] at hT9
        clear hgrow hbs hll HS hone hown hV
        go_wp2
        go_roundw
        case rel => exact ⟨k + 1, by omega, by go_num, hT9, hB9⟩
        case measure => simp [intOf]; omega
      · obtain rfl : k = n := by omega
        have g4 : ¬ (k : Int) < (k : Int) := by omega
        go_wp2
        go_ret
        exact ⟨a2, c2, rfl, by rw [HR.out]; exact HTS.out, hB⟩

end Go.Proofs.YthoildjecoppgaaGreatDoor

namespace Go.Proofs.YthoildjecoppgaaGreatDoor
open Go.RowKit Go.Maps
set_option linter.unusedSimpArgs false
set_option linter.unusedVariables false

theorem ri_three (w : World) (x y z : Int) (hx : I64 x) (hy : I64 y) (hz : I64 z) : Ri (w.alloc (.cells #[.int .i64 x, .int .i64 y, .int .i64 z] 3)) (some ⟨w.heap.size, 0, none⟩) 3 [x, y, z] := by
  have hb := heap_alloc_new w (.cells #[.int .i64 x, .int .i64 y, .int .i64 z] 3)
  refine ⟨fun u hu => ?_, Nat.le_refl _, by unfold maxLen; simp, .inr ⟨_, 0, rfl, by simp, fun i hi => ?_⟩⟩
  · simp at hu
    rcases hu with rfl | rfl | rfl <;> assumption
  · have h3 : i = 0 ∨ i = 1 ∨ i = 2 := by simp at hi; omega
    rw [cell_of_row _ _ _ _ _ (0, 0) hb]
    rcases h3 with rfl | rfl | rfl <;> rfl
theorem rl_three (w : World) (x y z : Bool) : Rl (w.alloc (.cells #[.bool x, .bool y, .bool z] 4)) (some ⟨w.heap.size, 0, none⟩) 3 [x, y, z] := by
  have hb := heap_alloc_new w (.cells #[.bool x, .bool y, .bool z] 4)
  refine ⟨Nat.le_refl _, by unfold maxLen; simp, (fun e => by cases e), fun i hi => ?_⟩
  refine ⟨_, 0, [.bool ([x, y, z].getD i false)], rfl, by simp, rfl, fun j hj => ?_⟩
  obtain rfl : j = 0 := by simp [El.bool] at hj; exact hj
  have h3 : i = 0 ∨ i = 1 ∨ i = 2 := by simp at hi; omega
  rw [cell_of_row _ _ _ _ _ (0, 0) hb]
  rcases h3 with rfl | rfl | rfl <;> rfl
theorem aw13_len : (fillQ [0, 5, 10] [true, false, true] [0, 0, 20]).length = 3 := by decide +kernel
theorem aw13_txt : txt ((fillQ [0, 5, 10] [true, false, true] [0, 0, 20]).getD 1 0) = [49, 48] := by decide +kernel

set_option maxHeartbeats 1000000 in
set_option maxRecDepth 100000 in
theorem awake13_any (w : World) (htab : Pow w) :
    Calls Tryz.prog 5 #[] w fun e w' => e = .returned (.bool true) ∧ Below w.heap.size w w' := by
  obtain ⟨W, hW, R1, R2, R3, hbW⟩ : ∃ W, W = (((w.alloc (.cells #[.int .i64 0, .int .i64 5, .int .i64 10] 3)).alloc (.cells #[.bool true, .bool false, .bool true] 4)).alloc (.cells #[.int .i64 0, .int .i64 0, .int .i64 20] 3)) ∧ Ri W (some ⟨w.heap.size, 0, none⟩) 3 [0, 5, 10] ∧ Rl W (some ⟨w.heap.size + 1, 0, none⟩) 3 [true, false, true] ∧ Ri W (some ⟨w.heap.size + 1 + 1, 0, none⟩) 3 [0, 0, 20] ∧ Below w.heap.size w W := by
    refine ⟨_, rfl, ((ri_three w 0 5 10 (by unfold I64; omega) (by unfold I64; omega) (by unfold I64; omega)).below (al1 _)).below (al1 _), Rl.below ?_ (al1 _), ?_, al3 _ _ _⟩
    · have := rl_three (w.alloc (.cells #[.int .i64 0, .int .i64 5, .int .i64 10] 3)) true false true
      simpa using this
    · have := ri_three ((w.alloc (.cells #[.int .i64 0, .int .i64 5, .int .i64 10] 3)).alloc (.cells #[.bool true, .bool false, .bool true] 4)) 0 0 20 (by unfold I64; omega) (by unfold I64; omega) (by unfold I64; omega)
      simpa using this
  have hfi := cfill_any _ _ _ _ _ _ _ _ _ _ R1 R2 R3
  have HT : Hid (txt ((fillQ [0, 5, 10] [true, false, true] [0, 0, 20]).getD 1 0) = [49, 48]) := aw13_txt
  have hl3 := aw13_len
  generalize fillQ [0, 5, 10] [true, false, true] [0, 0, 20] = qs at *
  rw [hl3] at hfi
  dsimp only [List.length] at hfi
  have HB : Hid (Pow w) := htab
  clear htab R1 R2 R3
  go_enter Tryz.func5, Tryz.ntmps5
  go_wp2_with fail
  rw [← hW]
  clear hW
  refine hfi.mono ?_
  rintro e u1 ⟨a', c', rfl, hR, hb1⟩
  replace hbW := hbW.trans (hb1.mono hbW.size)
  clear hb1 hfi
  obtain ⟨b, off, x, y, z, rfl, hb, d0, d1, d2, hF⟩ := hR.1.2.2 1 (by rw [hl3]; decide)
  have i1 : (1 : Int) < 3 := by decide
  rw [Nat.one_mul] at d0 d1 d2
  go_wp2_with fail
  refine (qtext_any 7 _ _ _ hF.ct (by decide) (by decide) (HB.out.below hbW)).mono ?_
  rintro e u3 ⟨rfl, hb3⟩
  replace hbW := hbW.trans (hb3.mono hbW.size)
  rw [HT.out]
  clear hb3 hF d0 d1 d2
  go_wp2
  go_ret
  exact ⟨rfl, hbW⟩

end Go.Proofs.YthoildjecoppgaaGreatDoor
