/-
  An append as an operation of a region that draws.
  Rows of the call's own: a store into an element; append as an operation of a region that draws.
-/
import Derived.Test.YtechkkefpigcaaaDoorZM1
import Derived.Test.YtechkkefpigcaaaDoorZM2
namespace Go.Proofs.YtechkkefpigcaaaDoor
open Go.RowKit Go.Maps
set_option linter.unusedSimpArgs false
set_option linter.unusedVariables false

theorem wp_append_own_at {P : Program} (w : World) {o : Oper} {a : Act} {K : Act → World → Prop} {Q : Exit → Act → World → Prop} (s x : Operand) (t : TypeId)
    (ho : o.op = .call { callee := .builtin .append, args := #[s, x], argTypes := #[t, t] })
    (base : Nat) (e : TypeId) (i : TypeInfo) (z : Value) (size bytes : Nat) (ht : P.underlying t = some (.slice e)) (hi : P.info? e = some i) (hz : i.zero = some z)
    (hsize : i.size = size) (hby : i.bytes = bytes) (hzs : z.cells.size = size) (hsz : 0 < size)
    (v : Value) (n : Nat) (xs : List Value) (hs : a.eval s = v) (hown : w.ownsRow base e size v n xs)
    (ad : Addr) (m c : Nat) (news : List Value) (hx : a.eval x = .slice (some ad) m c) (hl : news.length = m * size) (hnews : ∀ j u, news[j]? = some u → w.cell? (ad.add j) = some u) (h1 : ∀ u ∈ news, u.oneCell' = true)
    (h63 : n + m ≤ maxLen) (hbytes : (n + m) * bytes ≤ 140737488355328) (hbase : base ≤ w.heap.size)
    (h : ∀ v' w', w'.ownsRow base e size v' (n + m) (xs ++ news) → w.grownBy w' v.ownBlock → (v' = .slice none 0 0 ↔ v = .slice none 0 0 ∧ m = 0) → (v'.ownBlock = v.ownBlock ∨ v'.ownBlock = some w.heap.size) → K (a.put o.dst v') w') :
    o.wp P a w K Q := by
  obtain ⟨v', w', hr, h2, h3, h4, h5⟩ := run_append_own_at (P := P) w base t o.type e i z size bytes ht hi hz hsize hby hzs hsz v n xs hown ad m c news hl hnews h1 h63 hbytes hbase
  unfold Oper.wp execOp
  simp only [ho, resolve, invoke, builtin, Sem.run_bind, Sem.run_pure, Result.andThen_ok, List.map_toArray, List.map_cons, List.map_nil, hs, hx, hr]
  exact h v' w' h2 h3 h4 h5

end Go.Proofs.YtechkkefpigcaaaDoor

namespace Go.Proofs.YtechkkefpigcaaaDoor
open Go.RowKit Go.Maps
set_option linter.unusedSimpArgs false
set_option linter.unusedVariables false

theorem flat_set {sz : Nat} : ∀ {vss : List (List Value)} {i j : Nat} (x : Value), (∀ i, i < vss.length → (vss.getD i []).length = sz) → i < vss.length → j < sz → (vss.set i ((vss.getD i []).set j x)).flatten = vss.flatten.set (i * sz + j) x := by
  intro vss
  induction vss with
  | nil => intro i j x _ hi _; simp at hi
  | cons vs t ih =>
    intro i j x h hi hj
    have h0 : vs.length = sz := h 0 (by simp)
    cases i with
    | zero =>
      rw [List.set_cons_zero, List.getD_cons_zero, List.flatten_cons, List.flatten_cons, Nat.zero_mul, Nat.zero_add, List.set_append_left _ _ (by omega)]
    | succ i =>
      have h1 := ih (i := i) (j := j) x (fun i hi => h (i + 1) (by simpa using hi)) (by simpa using hi) hj
      rw [List.set_cons_succ, List.getD_cons_succ, List.flatten_cons, List.flatten_cons, h1, List.set_append_right _ _ (by rw [h0, Nat.add_mul]; omega), h0, show (i + 1) * sz + j - sz = i * sz + j by rw [Nat.add_mul]; omega]
/-- A row of the call's own that isn't empty: its block, its cells, and a store into one. -/
theorem Gw.own {α : Type} {E : El α} {t : TypeId} {base : Nat} {S : Nat → Prop} {w : World} {v : Value} {l : List α} (h : Gw E t base S w v l) (hne : l ≠ []) :
    ∃ g cap, v = .slice (some ⟨g, 0, none⟩) l.length cap ∧ base ≤ g ∧ g < w.heap.size ∧ l.length ≤ cap ∧ (∀ n, w.frozen? ⟨g, n, none⟩ = false) ∧
      (∀ i, i < l.length → ∃ vs, E.rep S w vs (l.getD i E.dfl) ∧ ∀ j, j < E.sz → w.cell? ⟨g, i * E.sz + j, none⟩ = vs[j]?) ∧
      ∀ i j x y, i < l.length → j < E.sz → (∀ S' vs, E.rep S' w vs (l.getD i E.dfl) → E.rep S' w (vs.set j x) y) → Gw E t base S (w.setCell ⟨g, i * E.sz + j, none⟩ x) v (l.set i y) := by
  have hsl := h
  obtain ⟨a0, c0, e0, hgr, _⟩ := hsl.slice
  obtain ⟨vss, hl, h3, h4⟩ := h
  have h5 : ∀ i, i < vss.length → (vss.getD i []).length = E.sz := fun i hi => E.len (h4 i (by omega))
  rcases h3.2 with ⟨rfl, e1⟩ | ⟨g, cap, cur, rfl, hb, hg, hc1, hc2, hc3, ht⟩
  · exact absurd (List.length_eq_zero_iff.1 e1) hne
  · refine ⟨g, cap, rfl, hb, (Array.getElem?_eq_some_iff.1 hg).1, hc1, fun n => frozen_of_row w g n _ _ hg, fun i hi => ?_, fun i j x y hi hj hrep => ?_⟩
    · obtain ⟨b, off, vs, e2, hb2, hr, hc⟩ := hgr.2.2.2 i hi
      injection e0 with e0
      rw [← e0] at e2
      cases e2
      exact ⟨vs, hr, fun j hj => by simpa using hc j hj⟩
    · have hset := heap_setCell_same w g (i * E.sz + j) cur t x hg
      have hoth : ∀ k, k ≠ g → (w.setCell ⟨g, i * E.sz + j, none⟩ x).heap[k]? = w.heap[k]? := fun k hk => Below.heap_setCell _ _ _ _ (fun e => hk e)
      have hsz : (w.setCell ⟨g, i * E.sz + j, none⟩ x).heap.size = w.heap.size := by simp [World.setCell]
      have hst : ∀ vs z, E.rep (fun k => S k ∧ (Value.slice (some ⟨g, 0, none⟩) l.length cap).ownBlock ≠ some k) w vs z → E.rep (fun k => S k ∧ (Value.slice (some ⟨g, 0, none⟩) l.length cap).ownBlock ≠ some k) (w.setCell ⟨g, i * E.sz + j, none⟩ x) vs z := fun vs z hz => E.stay hz (by rw [hsz]; exact Nat.le_refl _) (fun k hk _ => ⟨hk, hoth k (fun e => hk.2 (by rw [e]; rfl))⟩)
      have hfl := flat_set (i := i) (j := j) x h5 (by omega) hj
      refine ⟨vss.set i ((vss.getD i []).set j x), by rw [List.length_set, List.length_set, hl], ⟨?_, .inr ⟨g, cap, _, by rw [List.length_set], hb, hset, by simpa using hc1, hc2, by simpa using hc3, ?_⟩⟩, fun k hk => ?_⟩
      · rw [hfl, List.length_set, List.length_set]; exact h3.1
      · rw [hfl, List.length_set, ← ht]
        simp [List.take_set]
      · rw [List.length_set] at hk
        by_cases hki : k = i
        · subst hki
          have e1 : (vss.set k ((vss.getD k []).set j x)).getD k [] = (vss.getD k []).set j x := by simp [List.getD, show k < vss.length by omega]
          have e2 : (l.set k y).getD k E.dfl = y := by simp [List.getD, hk]
          rw [e1, e2]
          exact hst _ _ (hrep _ _ (h4 k hk))
        · have e1 : (vss.set i ((vss.getD i []).set j x)).getD k [] = vss.getD k [] := by simp [List.getD, List.getElem?_set_ne (fun e => hki e.symm)]
          have e2 : (l.set i y).getD k E.dfl = l.getD k E.dfl := by simp [List.getD, List.getElem?_set_ne (fun e => hki e.symm)]
          rw [e1, e2]
          exact hst _ _ (h4 k hk)
/-- 'append(v, x...)' in a region that draws; x isn't nil. -/
theorem wp_append_el {α : Type} {E : El α} {w : World} {o : Oper} {a : Act} {K : Act → World → Prop} {Q : Exit → Act → World → Prop} (t e : TypeId) {z : Value} {by' : Nat}
    (ht : Tryd.prog.underlying t = some (.slice e)) (hinfo : (Tryd.prog.info? e).map (fun i => (i.zero, i.size, i.bytes)) = some (some z, E.sz, by')) (hzs : z.cells.size = E.sz) (hsz : 0 < E.sz) (hby : by' ≤ 1000)
    (s x : Operand) (ho : o.op = .call { callee := .builtin .append, args := #[s, x], argTypes := #[t, t] })
    (base : Nat) (S : Nat → Prop) (v : Value) (l : List α) (hs : a.eval s = v) (hown : Gw E e base S w v l) (ad : Addr) (pc n : Nat) (m : List α) (hn : n = m.length) (hx : a.eval x = .slice (some ad) n pc)
    (hp : Gr E (fun k => S k ∧ v.ownBlock ≠ some k) w (some ad) pc m) (hlen : l.length + m.length ≤ 1000000) (hbase : base ≤ w.heap.size)
    (h : ∀ v' w', Gw E e base S w' v' (l ++ m) → w.grownBy w' v.ownBlock → (v'.ownBlock = v.ownBlock ∨ v'.ownBlock = some w.heap.size) → K (a.put o.dst v') w') : o.wp Tryd.prog a w K Q := by
  subst hn
  obtain ⟨i0, hi, hz0, hz1, hz2⟩ := info_parts hinfo
  obtain ⟨vss, hl, h3, h4⟩ := hown
  obtain ⟨uss, hul, hu⟩ : ∃ uss : List (List Value), uss.length = m.length ∧ ∀ i, i < m.length → E.rep (fun k => S k ∧ v.ownBlock ≠ some k) w (uss.getD i []) (m.getD i E.dfl) ∧ ∀ j, j < E.sz → w.cell? (ad.add (i * E.sz + j)) = (uss.getD i [])[j]? := by
    have key : ∀ k, k ≤ m.length → ∃ uss : List (List Value), uss.length = k ∧ ∀ i, i < k → E.rep (fun k => S k ∧ v.ownBlock ≠ some k) w (uss.getD i []) (m.getD i E.dfl) ∧ ∀ j, j < E.sz → w.cell? (ad.add (i * E.sz + j)) = (uss.getD i [])[j]? := by
      intro k
      induction k with
      | zero => exact fun _ => ⟨[], rfl, fun i hi => by omega⟩
      | succ k ih =>
        intro hk
        obtain ⟨uss, h1, h2⟩ := ih (by omega)
        obtain ⟨b, off, vs, e1, hb, hr, hc⟩ := hp.2.2.2 k (by omega)
        cases e1
        refine ⟨uss ++ [vs], by simp [h1], fun i hi => ?_⟩
        by_cases hik : i < k
        · have e2 : (uss ++ [vs]).getD i [] = uss.getD i [] := by simp [List.getD, List.getElem?_append_left (show i < uss.length by omega)]
          rw [e2]
          exact h2 i hik
        · obtain rfl : i = k := by omega
          have e2 : (uss ++ [vs]).getD i [] = vs := by simp [List.getD, ← h1]
          rw [e2]
          refine ⟨hr, fun j hj => ?_⟩
          have hadd : (⟨b, off, none⟩ : Addr).add (i * E.sz + j) = ⟨b, off + (i * E.sz + j), none⟩ := by unfold Addr.add; split <;> simp_all
          rw [hadd, ← Nat.add_assoc]
          exact hc j hj
    exact key m.length (Nat.le_refl _)
  have hul5 : ∀ i, i < uss.length → (uss.getD i []).length = E.sz := fun i hi => E.len (hu i (by omega)).1
  refine wp_append_own_at w s x t ho base e i0 z E.sz by' ht hi hz0 hz1 hz2 hzs hsz v l.length vss.flatten hs h3 ad m.length pc uss.flatten hx (by rw [flat_len' hul5, hul]) ?_ ?_ (by unfold maxLen; omega) (by
      have := Nat.mul_le_mul hlen hby
      omega) hbase (fun v' w' k1 k2 _ k4 => h v' w' ?_ k2 k4)
  · intro j u hj
    have hjl : j < m.length * E.sz := by
      rcases Nat.lt_or_ge j (m.length * E.sz) with h1 | h1
      · exact h1
      · rw [List.getElem?_eq_none (by rw [flat_len' hul5, hul]; exact h1)] at hj; cases hj
    have hjd : j / E.sz < m.length := (Nat.div_lt_iff_lt_mul hsz).2 hjl
    have e1 : j / E.sz * E.sz + j % E.sz = j := by rw [Nat.mul_comm]; exact Nat.div_add_mod j E.sz
    have h1 := (hu (j / E.sz) hjd).2 (j % E.sz) (Nat.mod_lt _ hsz)
    have h2 := flat_get hul5 (i := j / E.sz) (j := j % E.sz) (by omega) (Nat.mod_lt _ hsz)
    rw [e1] at h1 h2
    rw [h1, ← h2, hj]
  · intro u hu1
    obtain ⟨vs, hvs, hu2⟩ := List.mem_flatten.1 hu1
    obtain ⟨i, hi, e1⟩ := List.getElem_of_mem hvs
    have := E.one (hu i (by omega)).1 u
    rw [List.getD_eq_getElem?_getD, List.getElem?_eq_getElem hi, Option.getD_some, e1] at this
    exact this hu2
  · have hst : ∀ vs y, E.rep (fun k => S k ∧ v.ownBlock ≠ some k) w vs y → E.rep (fun k => S k ∧ v'.ownBlock ≠ some k) w' vs y := fun vs y hy => E.stay hy k2.size (fun k hk hlt => ⟨⟨hk.1, by
      rcases k4 with k4 | k4
      · rw [k4]; exact hk.2
      · rw [k4]; intro e'; cases e'; exact absurd hlt (Nat.lt_irrefl _)⟩, k2.block k hlt (fun e' => hk.2 e'.symm)⟩)
    refine ⟨vss ++ uss, by rw [List.length_append, List.length_append, hl, hul], by rw [List.length_append, List.flatten_append]; exact k1, fun i hi => ?_⟩
    by_cases him : i < l.length
    · have e1 : (l ++ m).getD i E.dfl = l.getD i E.dfl := by simp [List.getD, List.getElem?_append_left him]
      have e2 : (vss ++ uss).getD i [] = vss.getD i [] := by simp [List.getD, List.getElem?_append_left (show i < vss.length by omega)]
      rw [e1, e2]
      exact hst _ _ (h4 i him)
    · have him' : i - l.length < m.length := by simp at hi; omega
      have e1 : (l ++ m).getD i E.dfl = m.getD (i - l.length) E.dfl := by simp [List.getD, List.getElem?_append_right (show l.length ≤ i by omega)]
      have e2 : (vss ++ uss).getD i [] = uss.getD (i - l.length) [] := by simp [List.getD, List.getElem?_append_right (show vss.length ≤ i by omega), hl]
      rw [e1, e2]
      exact hst _ _ (hu _ him').1

end Go.Proofs.YtechkkefpigcaaaDoor
