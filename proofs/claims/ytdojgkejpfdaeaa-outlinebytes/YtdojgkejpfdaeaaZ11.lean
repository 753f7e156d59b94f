/-
  Outlines: what the reference's own reading goes through, step by step (plain mathematics).
  An append as an operation of a region that draws.
  Rows of the call's own: a store into an element; append as an operation of a region that draws.
  How points, parts and outlines lie in a world.
  outline.pointsOf: the walk.
-/
import Derived.Test.YtdojgkejpfdaeaaZ7
import Derived.Test.YtdojgkejpfdaeaaZ1
import Derived.Test.YtdojgkejpfdaeaaZ6
import Derived.Test.YtdojgkejpfdaeaaZ2
import Derived.Test.YtdojgkejpfdaeaaZ10
import Derived.Laws.OwnMore
namespace Go.Proofs.Ytdojgkejpfdaeaa
set_option linter.unusedSimpArgs false
set_option linter.unusedVariables false

/-- What is cut so far. -/
def CutI (es : List Nat) (l : List Pn) (k p : Nat) (D : List (List Pn)) : Prop := cutC es 0 l = (cutC (es.drop k) p l).map (fun r => D ++ r)
theorem CutI.zero (es : List Nat) (l : List Pn) : CutI es l 0 0 [] := by
  unfold CutI
  rw [List.drop_zero]
  cases cutC es 0 l <;> rfl
theorem drop_consN {es : List Nat} {k : Nat} (hk : k < es.length) : es.drop k = es.getD k 0 :: es.drop (k + 1) := by
  rw [List.drop_eq_getElem_cons hk]
  simp [List.getD, hk]
theorem CutI.bad {es : List Nat} {l : List Pn} {k p : Nat} {D : List (List Pn)} (h : CutI es l k p D) (hk : k < es.length) (hb : es.getD k 0 < p ∨ l.length ≤ es.getD k 0) : cutC es 0 l = none := by
  unfold CutI at h
  rw [h, drop_consN hk, cutC, if_pos hb]
  rfl
theorem CutI.step {es : List Nat} {l : List Pn} {k p : Nat} {D : List (List Pn)} (h : CutI es l k p D) (hk : k < es.length) (hb : ¬ (es.getD k 0 < p ∨ l.length ≤ es.getD k 0)) : CutI es l (k + 1) (es.getD k 0 + 1) (D ++ [(l.drop p).take (es.getD k 0 + 1 - p)]) := by
  unfold CutI at h ⊢
  rw [h, drop_consN hk, cutC, if_neg hb]
  cases cutC (es.drop (k + 1)) (es.getD k 0 + 1) l with
  | none => rfl
  | some r => simp
theorem CutI.all {es : List Nat} {l : List Pn} {p : Nat} {D : List (List Pn)} (h : CutI es l es.length p D) : cutC es 0 l = some D := by
  unfold CutI at h
  rw [h, List.drop_length, cutC]
  simp
/-- What is cut is not longer than its parts. -/
theorem cutC_le : ∀ (es : List Nat) (p : Nat) (l : List Pn) (cs : List (List Pn)), cutC es p l = some cs → cs.length = es.length ∧ cs.flatten.length ≤ es.length * l.length := by
  intro es
  induction es with
  | nil =>
    intro p l cs h
    injection h with h
    subst h
    exact ⟨rfl, Nat.zero_le _⟩
  | cons e t ih =>
    intro p l cs h
    rw [cutC] at h
    split at h
    · cases h
    · cases hc : cutC t (e + 1) l with
      | none => rw [hc] at h; cases h
      | some r =>
        rw [hc] at h
        injection h with h
        subst h
        obtain ⟨h1, h2⟩ := ih _ _ _ hc
        refine ⟨by rw [List.length_cons, List.length_cons, h1], ?_⟩
        rw [List.flatten_cons, List.length_append, List.length_cons, Nat.add_mul, Nat.one_mul, List.length_take, List.length_drop]
        omega
theorem rdG_le : ∀ (f n : Nat) (s acc : List Nat), Byt s → (rdG f n s acc).1.length ≤ max acc.length (n + 255) := by
  intro f
  induction f with
  | zero => intro n s acc hs; exact Nat.le_max_left _ _
  | succ f ih =>
    intro n s acc hs
    rw [rdG]
    split
    · have hb : hd1 (s.drop 1) ≤ 255 := by
        have hh : ∀ t : List Nat, Byt t → hd1 t ≤ 255 := fun t ht => by
          cases t with
          | nil => exact Nat.zero_le _
          | cons x t => have := ht x (by simp); show x ≤ 255; omega
        exact hh _ (fun x hx => hs x (List.mem_of_mem_drop hx))
      split
      · have := ih n (s.drop 2) (acc ++ List.replicate (hd1 (s.drop 1) + 1) (hd1 s)) (fun x hx => hs x (List.mem_of_mem_drop hx))
        rw [List.length_append, List.length_replicate] at this
        omega
      · have := ih n (s.drop 1) (acc ++ [hd1 s]) (fun x hx => hs x (List.mem_of_mem_drop hx))
        rw [List.length_append, List.length_singleton] at this
        omega
    · exact Nat.le_max_left _ _
/-- The points that are read are at most 80. -/
theorem lsW_len (n : Nat) (s : List Nat) : (lsW n s).length = (fsW n s).length := by
  unfold lsW
  exact mkP_len _ _ _ (rdD_len _ _ _ _ _) (rdD_len _ _ _ _ _)
theorem lsW_le (n : Nat) (s : List Nat) : (lsW n s).length ≤ 80 := by
  rw [lsW_len]
  unfold fsW flW
  by_cases h : ptsW n (rdE n s).1 ≤ 80
  · rw [if_pos h, List.length_take]
    omega
  · rw [if_neg h]
    simp
theorem candC_le (n : Nat) (s : List Nat) (hn : n ≤ 10) : (candC n s).cs.length ≤ 10 ∧ (candC n s).cs.flatten.length ≤ 800 ∧ (candC n s).ps = [] := by
  unfold candC
  cases hc : cutC (rdE n s).1 0 (lsW n s) with
  | none => exact ⟨Nat.zero_le _, Nat.zero_le _, rfl⟩
  | some cs =>
    obtain ⟨h1, h2⟩ := cutC_le _ _ _ _ hc
    rw [rdE_len] at h1 h2
    refine ⟨by show cs.length ≤ 10; omega, ?_, rfl⟩
    show cs.flatten.length ≤ 800
    have h3 := lsW_le n s
    have h4 : n * (lsW n s).length ≤ 10 * 80 := Nat.mul_le_mul hn h3
    omega
theorem candO_le (b : List Nat) : (candO b).cs.flatten.length ≤ 800 := by
  unfold candO
  split
  · exact Nat.zero_le _
  · split
    · exact (candC_le _ _ (by omega)).2.1
    · exact Nat.zero_le _

end Go.Proofs.Ytdojgkejpfdaeaa

namespace Go.Proofs.Ytdojgkejpfdaeaa
open Go.RowKit Go.Maps
set_option linter.unusedSimpArgs false
set_option linter.unusedVariables false

theorem wp_append_own_at {P : Program} (w : World) {o : Oper} {a : Act} {K : Act → World → Prop} {Q : Exit → Act → World → Prop} (s x : Operand) (t : TypeId)
    (ho : o.op = .call { callee := .builtin .append, args := #[s, x], argTypes := #[t, t] })
    (base : Nat) (e : TypeId) (i : TypeInfo) (z : Value) (size bytes : Nat) (ht : P.underlying t = some (.slice e)) (hi : P.info? e = some i) (hz : i.zero = some z)
    (hsize : i.size = size) (hby : i.bytes = bytes) (hzs : z.cells.size = size) (hsz : 0 < size)
    (v : Value) (n : Nat) (xs : List Value) (hs : a.eval s = v) (hown : w.ownsRow base e size v n xs)
    (ad : Addr) (m c : Nat) (news : List Value) (hx : a.eval x = .slice (some ad) m c) (hl : news.length = m * size) (hnews : ∀ j u, news[j]? = some u → w.cell? (ad.add j) = some u) (h1 : ∀ u ∈ news, u.oneCell' = true)
    (h63 : n + m ≤ maxLen) (hbytes : (n + m) * bytes ≤ 140737488355328) (hbase : base ≤ w.heap.size)
    (h : ∀ v' w', w'.ownsRow base e size v' (n + m) (xs ++ news) → w.grownBy w' v.ownBlock → (v' = .slice none 0 0 ↔ v = .slice none 0 0 ∧ m = 0) → (v'.ownBlock = v.ownBlock ∨ v'.ownBlock = some w.heap.size) → K (a.put o.dst v') w') :
    o.wp P a w K Q := by
  obtain ⟨v', w', hr, h2, h3, h4, h5⟩ := run_append_own_at (P := P) w base t o.type e i z size bytes ht hi hz hsize hby hzs hsz v n xs hown ad m c news hl hnews h1 h63 hbytes hbase
  unfold Oper.wp execOp
  simp only [ho, resolve, invoke, builtin, Sem.run_bind, Sem.run_pure, Result.andThen_ok, List.map_toArray, List.map_cons, List.map_nil, hs, hx, hr]
  exact h v' w' h2 h3 h4 h5

end Go.Proofs.Ytdojgkejpfdaeaa

namespace Go.Proofs.Ytdojgkejpfdaeaa
open Go.RowKit Go.Maps
set_option linter.unusedSimpArgs false
set_option linter.unusedVariables false

theorem flat_set {sz : Nat} : ∀ {vss : List (List Value)} {i j : Nat} (x : Value), (∀ i, i < vss.length → (vss.getD i []).length = sz) → i < vss.length → j < sz → (vss.set i ((vss.getD i []).set j x)).flatten = vss.flatten.set (i * sz + j) x := by
  intro vss
  induction vss with
  | nil => intro i j x _ hi _; simp at hi
  | cons vs t ih =>
    intro i j x h hi hj
    have h0 : vs.length = sz := h 0 (by simp)
    cases i with
    | zero =>
      rw [List.set_cons_zero, List.getD_cons_zero, List.flatten_cons, List.flatten_cons, Nat.zero_mul, Nat.zero_add, List.set_append_left _ _ (by omega)]
    | succ i =>
      have h1 := ih (i := i) (j := j) x (fun i hi => h (i + 1) (by simpa using hi)) (by simpa using hi) hj
      rw [List.set_cons_succ, List.getD_cons_succ, List.flatten_cons, List.flatten_cons, h1, List.set_append_right _ _ (by rw [h0, Nat.add_mul]; omega), h0, show (i + 1) * sz + j - sz = i * sz + j by rw [Nat.add_mul]; omega]
/-- A row of the call's own that isn't empty: its block, its cells, and a store into one. -/
theorem Gw.own {α : Type} {E : El α} {t : TypeId} {base : Nat} {S : Nat → Prop} {w : World} {v : Value} {l : List α} (h : Gw E t base S w v l) (hne : l ≠ []) :
    ∃ g cap, v = .slice (some ⟨g, 0, none⟩) l.length cap ∧ base ≤ g ∧ g < w.heap.size ∧ l.length ≤ cap ∧ (∀ n, w.frozen? ⟨g, n, none⟩ = false) ∧
      (∀ i, i < l.length → ∃ vs, E.rep S w vs (l.getD i E.dfl) ∧ ∀ j, j < E.sz → w.cell? ⟨g, i * E.sz + j, none⟩ = vs[j]?) ∧
      ∀ i j x y, i < l.length → j < E.sz → (∀ S' vs, E.rep S' w vs (l.getD i E.dfl) → E.rep S' w (vs.set j x) y) → Gw E t base S (w.setCell ⟨g, i * E.sz + j, none⟩ x) v (l.set i y) := by
  have hsl := h
  obtain ⟨a0, c0, e0, hgr, _⟩ := hsl.slice
  obtain ⟨vss, hl, h3, h4⟩ := h
  have h5 : ∀ i, i < vss.length → (vss.getD i []).length = E.sz := fun i hi => E.len (h4 i (by omega))
  rcases h3.2 with ⟨rfl, e1⟩ | ⟨g, cap, cur, rfl, hb, hg, hc1, hc2, hc3, ht⟩
  · exact absurd (List.length_eq_zero_iff.1 e1) hne
  · refine ⟨g, cap, rfl, hb, (Array.getElem?_eq_some_iff.1 hg).1, hc1, fun n => frozen_of_row w g n _ _ hg, fun i hi => ?_, fun i j x y hi hj hrep => ?_⟩
    · obtain ⟨b, off, vs, e2, hb2, hr, hc⟩ := hgr.2.2.2 i hi
      injection e0 with e0
      rw [← e0] at e2
      cases e2
      exact ⟨vs, hr, fun j hj => by simpa using hc j hj⟩
    · have hset := heap_setCell_same w g (i * E.sz + j) cur t x hg
      have hoth : ∀ k, k ≠ g → (w.setCell ⟨g, i * E.sz + j, none⟩ x).heap[k]? = w.heap[k]? := fun k hk => Below.heap_setCell _ _ _ _ (fun e => hk e)
      have hsz : (w.setCell ⟨g, i * E.sz + j, none⟩ x).heap.size = w.heap.size := by simp [World.setCell]
      have hst : ∀ vs z, E.rep (fun k => S k ∧ (Value.slice (some ⟨g, 0, none⟩) l.length cap).ownBlock ≠ some k) w vs z → E.rep (fun k => S k ∧ (Value.slice (some ⟨g, 0, none⟩) l.length cap).ownBlock ≠ some k) (w.setCell ⟨g, i * E.sz + j, none⟩ x) vs z := fun vs z hz => E.stay hz (by rw [hsz]; exact Nat.le_refl _) (fun k hk _ => ⟨hk, hoth k (fun e => hk.2 (by rw [e]; rfl))⟩)
      have hfl := flat_set (i := i) (j := j) x h5 (by omega) hj
      refine ⟨vss.set i ((vss.getD i []).set j x), by rw [List.length_set, List.length_set, hl], ⟨?_, .inr ⟨g, cap, _, by rw [List.length_set], hb, hset, by simpa using hc1, hc2, by simpa using hc3, ?_⟩⟩, fun k hk => ?_⟩
      · rw [hfl, List.length_set, List.length_set]; exact h3.1
      · rw [hfl, List.length_set, ← ht]
        simp [List.take_set]
      · rw [List.length_set] at hk
        by_cases hki : k = i
        · subst hki
          have e1 : (vss.set k ((vss.getD k []).set j x)).getD k [] = (vss.getD k []).set j x := by simp [List.getD, show k < vss.length by omega]
          have e2 : (l.set k y).getD k E.dfl = y := by simp [List.getD, hk]
          rw [e1, e2]
          exact hst _ _ (hrep _ _ (h4 k hk))
        · have e1 : (vss.set i ((vss.getD i []).set j x)).getD k [] = vss.getD k [] := by simp [List.getD, List.getElem?_set_ne (fun e => hki e.symm)]
          have e2 : (l.set i y).getD k E.dfl = l.getD k E.dfl := by simp [List.getD, List.getElem?_set_ne (fun e => hki e.symm)]
          rw [e1, e2]
          exact hst _ _ (h4 k hk)
/-- 'append(v, x...)' in a region that draws; x isn't nil. -/
theorem wp_append_el {α : Type} {E : El α} {w : World} {o : Oper} {a : Act} {K : Act → World → Prop} {Q : Exit → Act → World → Prop} (t e : TypeId) {z : Value} {by' : Nat}
    (ht : Try.prog.underlying t = some (.slice e)) (hinfo : (Try.prog.info? e).map (fun i => (i.zero, i.size, i.bytes)) = some (some z, E.sz, by')) (hzs : z.cells.size = E.sz) (hsz : 0 < E.sz) (hby : by' ≤ 1000)
    (s x : Operand) (ho : o.op = .call { callee := .builtin .append, args := #[s, x], argTypes := #[t, t] })
    (base : Nat) (S : Nat → Prop) (v : Value) (l : List α) (hs : a.eval s = v) (hown : Gw E e base S w v l) (ad : Addr) (pc n : Nat) (m : List α) (hn : n = m.length) (hx : a.eval x = .slice (some ad) n pc)
    (hp : Gr E (fun k => S k ∧ v.ownBlock ≠ some k) w (some ad) pc m) (hlen : l.length + m.length ≤ 1000000) (hbase : base ≤ w.heap.size)
    (h : ∀ v' w', Gw E e base S w' v' (l ++ m) → w.grownBy w' v.ownBlock → (v'.ownBlock = v.ownBlock ∨ v'.ownBlock = some w.heap.size) → K (a.put o.dst v') w') : o.wp Try.prog a w K Q := by
  subst hn
  obtain ⟨i0, hi, hz0, hz1, hz2⟩ := info_parts hinfo
  obtain ⟨vss, hl, h3, h4⟩ := hown
  obtain ⟨uss, hul, hu⟩ : ∃ uss : List (List Value), uss.length = m.length ∧ ∀ i, i < m.length → E.rep (fun k => S k ∧ v.ownBlock ≠ some k) w (uss.getD i []) (m.getD i E.dfl) ∧ ∀ j, j < E.sz → w.cell? (ad.add (i * E.sz + j)) = (uss.getD i [])[j]? := by
    have key : ∀ k, k ≤ m.length → ∃ uss : List (List Value), uss.length = k ∧ ∀ i, i < k → E.rep (fun k => S k ∧ v.ownBlock ≠ some k) w (uss.getD i []) (m.getD i E.dfl) ∧ ∀ j, j < E.sz → w.cell? (ad.add (i * E.sz + j)) = (uss.getD i [])[j]? := by
      intro k
      induction k with
      | zero => exact fun _ => ⟨[], rfl, fun i hi => by omega⟩
      | succ k ih =>
        intro hk
        obtain ⟨uss, h1, h2⟩ := ih (by omega)
        obtain ⟨b, off, vs, e1, hb, hr, hc⟩ := hp.2.2.2 k (by omega)
        cases e1
        refine ⟨uss ++ [vs], by simp [h1], fun i hi => ?_⟩
        by_cases hik : i < k
        · have e2 : (uss ++ [vs]).getD i [] = uss.getD i [] := by simp [List.getD, List.getElem?_append_left (show i < uss.length by omega)]
          rw [e2]
          exact h2 i hik
        · obtain rfl : i = k := by omega
          have e2 : (uss ++ [vs]).getD i [] = vs := by simp [List.getD, ← h1]
          rw [e2]
          refine ⟨hr, fun j hj => ?_⟩
          have hadd : (⟨b, off, none⟩ : Addr).add (i * E.sz + j) = ⟨b, off + (i * E.sz + j), none⟩ := by unfold Addr.add; split <;> simp_all
          rw [hadd, ← Nat.add_assoc]
          exact hc j hj
    exact key m.length (Nat.le_refl _)
  have hul5 : ∀ i, i < uss.length → (uss.getD i []).length = E.sz := fun i hi => E.len (hu i (by omega)).1
  refine wp_append_own_at w s x t ho base e i0 z E.sz by' ht hi hz0 hz1 hz2 hzs hsz v l.length vss.flatten hs h3 ad m.length pc uss.flatten hx (by rw [flat_len' hul5, hul]) ?_ ?_ (by unfold maxLen; omega) (by
      have := Nat.mul_le_mul hlen hby
      omega) hbase (fun v' w' k1 k2 _ k4 => h v' w' ?_ k2 k4)
  · intro j u hj
    have hjl : j < m.length * E.sz := by
      rcases Nat.lt_or_ge j (m.length * E.sz) with h1 | h1
      · exact h1
      · rw [List.getElem?_eq_none (by rw [flat_len' hul5, hul]; exact h1)] at hj; cases hj
    have hjd : j / E.sz < m.length := (Nat.div_lt_iff_lt_mul hsz).2 hjl
    have e1 : j / E.sz * E.sz + j % E.sz = j := by rw [Nat.mul_comm]; exact Nat.div_add_mod j E.sz
    have h1 := (hu (j / E.sz) hjd).2 (j % E.sz) (Nat.mod_lt _ hsz)
    have h2 := flat_get hul5 (i := j / E.sz) (j := j % E.sz) (by omega) (Nat.mod_lt _ hsz)
    rw [e1] at h1 h2
    rw [h1, ← h2, hj]
  · intro u hu1
    obtain ⟨vs, hvs, hu2⟩ := List.mem_flatten.1 hu1
    obtain ⟨i, hi, e1⟩ := List.getElem_of_mem hvs
    have := E.one (hu i (by omega)).1 u
    rw [List.getD_eq_getElem?_getD, List.getElem?_eq_getElem hi, Option.getD_some, e1] at this
    exact this hu2
  · have hst : ∀ vs y, E.rep (fun k => S k ∧ v.ownBlock ≠ some k) w vs y → E.rep (fun k => S k ∧ v'.ownBlock ≠ some k) w' vs y := fun vs y hy => E.stay hy k2.size (fun k hk hlt => ⟨⟨hk.1, by
      rcases k4 with k4 | k4
      · rw [k4]; exact hk.2
      · rw [k4]; intro e'; cases e'; exact absurd hlt (Nat.lt_irrefl _)⟩, k2.block k hlt (fun e' => hk.2 e'.symm)⟩)
    refine ⟨vss ++ uss, by rw [List.length_append, List.length_append, hl, hul], by rw [List.length_append, List.flatten_append]; exact k1, fun i hi => ?_⟩
    by_cases him : i < l.length
    · have e1 : (l ++ m).getD i E.dfl = l.getD i E.dfl := by simp [List.getD, List.getElem?_append_left him]
      have e2 : (vss ++ uss).getD i [] = vss.getD i [] := by simp [List.getD, List.getElem?_append_left (show i < vss.length by omega)]
      rw [e1, e2]
      exact hst _ _ (h4 i him)
    · have him' : i - l.length < m.length := by simp at hi; omega
      have e1 : (l ++ m).getD i E.dfl = m.getD (i - l.length) E.dfl := by simp [List.getD, List.getElem?_append_right (show l.length ≤ i by omega)]
      have e2 : (vss ++ uss).getD i [] = uss.getD (i - l.length) [] := by simp [List.getD, List.getElem?_append_right (show vss.length ≤ i by omega), hl]
      rw [e1, e2]
      exact hst _ _ (hu _ him').1

end Go.Proofs.Ytdojgkejpfdaeaa

namespace Go.Proofs.Ytdojgkejpfdaeaa
open Go.RowKit Go.Maps
set_option linter.unusedSimpArgs false
set_option linter.unusedVariables false

def PnE : El Pn := (El.int.cat (El.int.cat El.bool)).via (fun p => (p.x, p.y, p.on)) Pn.none
def PaE : El Pa := (El.int.cat (El.int.cat El.int)).via (fun p => (p.g, p.dx, p.dy)) Pa.none
def PnW (p : Pn) : Prop := I64 p.x ∧ I64 p.y
def PaW (p : Pa) : Prop := I64 p.g ∧ I64 p.dx ∧ I64 p.dy
def pnC (p : Pn) : List Value := [.int .i64 p.x, .int .i64 p.y, .bool p.on]
def paC (p : Pa) : List Value := [.int .i64 p.g, .int .i64 p.dx, .int .i64 p.dy]
theorem PnE_rep {S : Nat → Prop} {w : World} {vs : List Value} {p : Pn} : PnE.rep S w vs p ↔ vs = pnC p ∧ PnW p := by
  constructor
  · rintro ⟨us, ts, rfl, ⟨rfl, h1⟩, us2, ts2, rfl, ⟨rfl, h2⟩, h3⟩
    have h3 : ts2 = [.bool p.on] := h3
    subst h3
    exact ⟨rfl, h1, h2⟩
  · rintro ⟨rfl, h1, h2⟩
    exact ⟨[_], _, rfl, ⟨rfl, h1⟩, [_], [_], rfl, ⟨rfl, h2⟩, rfl⟩
theorem PaE_rep {S : Nat → Prop} {w : World} {vs : List Value} {p : Pa} : PaE.rep S w vs p ↔ vs = paC p ∧ PaW p := by
  constructor
  · rintro ⟨us, ts, rfl, ⟨rfl, h1⟩, us2, ts2, rfl, ⟨rfl, h2⟩, ⟨rfl, h3⟩⟩
    exact ⟨rfl, h1, h2, h3⟩
  · rintro ⟨rfl, h1, h2, h3⟩
    exact ⟨[_], _, rfl, ⟨rfl, h1⟩, [_], [_], rfl, ⟨rfl, h2⟩, ⟨rfl, h3⟩⟩
theorem Gr.pn {S : Nat → Prop} {w wr : World} {a : Option Addr} {cap : Nat} {l : List Pn} (h : Gr PnE S w a cap l) (hb : Below w.heap.size w wr) (k : Nat) (hk : k < l.length) :
    ∃ b off, a = some ⟨b, off, none⟩ ∧ b < w.heap.size ∧ PnW (l.getD k Pn.none) ∧ wr.cell? ⟨b, off + k * 3, none⟩ = some (.int .i64 (l.getD k Pn.none).x) ∧ wr.cell? ⟨b, off + k * 3 + 1, none⟩ = some (.int .i64 (l.getD k Pn.none).y) ∧ wr.cell? ⟨b, off + k * 3 + 2, none⟩ = some (.bool (l.getD k Pn.none).on) := by
  obtain ⟨b, off, vs, e, hl, hr, hc⟩ := h.at hb k hk
  obtain ⟨rfl, hw⟩ := PnE_rep.1 hr
  exact ⟨b, off, e, hl, hw, hc 0 (by decide), hc 1 (by decide), hc 2 (by decide)⟩
theorem Gr.pa {S : Nat → Prop} {w wr : World} {a : Option Addr} {cap : Nat} {l : List Pa} (h : Gr PaE S w a cap l) (hb : Below w.heap.size w wr) (k : Nat) (hk : k < l.length) :
    ∃ b off, a = some ⟨b, off, none⟩ ∧ b < w.heap.size ∧ PaW (l.getD k Pa.none) ∧ wr.cell? ⟨b, off + k * 3, none⟩ = some (.int .i64 (l.getD k Pa.none).g) ∧ wr.cell? ⟨b, off + k * 3 + 1, none⟩ = some (.int .i64 (l.getD k Pa.none).dx) ∧ wr.cell? ⟨b, off + k * 3 + 2, none⟩ = some (.int .i64 (l.getD k Pa.none).dy) := by
  obtain ⟨b, off, vs, e, hl, hr, hc⟩ := h.at hb k hk
  obtain ⟨rfl, hw⟩ := PaE_rep.1 hr
  exact ⟨b, off, e, hl, hw, hc 0 (by decide), hc 1 (by decide), hc 2 (by decide)⟩
/-- An element of a row of rows. -/
theorem Gr.rw {α : Type} {E : El α} {S : Nat → Prop} {w wr : World} {a : Option Addr} {cap : Nat} {m : List (List α)} (h : Gr E.row S w a cap m) (hb : Below w.heap.size w wr) (k : Nat) (hk : k < m.length) :
    ∃ b off a' cap', a = some ⟨b, off, none⟩ ∧ b < w.heap.size ∧ wr.cell? ⟨b, off + k, none⟩ = some (.slice a' (m.getD k []).length cap') ∧ Gr E S wr a' cap' (m.getD k []) ∧ (m.getD k []).length ≤ 140737488351232 ∧ ∀ b o, a' = some ⟨b, o, none⟩ → m.getD k [] ≠ [] → S b := by
  obtain ⟨b, off, vs, e, hl, ⟨a', cap', hv, hS, hr, hlb⟩, hc⟩ := h.at hb k hk
  have := hc 0 Nat.one_pos
  rw [hv, show k * E.row.sz = k from Nat.mul_one k] at this
  exact ⟨b, off, a', cap', e, hl, this, hr, hlb, hS⟩
/-- A row of rows, element by element, with no world told. -/
theorem getL' {α : Type} {m : List (List α)} {k : Nat} (hk : k < m.length) : m.getD k [] = m[k] := by simp [List.getD, hk]
theorem getL_mem' {α : Type} {m : List (List α)} {k : Nat} (hk : k < m.length) : m.getD k [] ∈ m := by rw [getL' hk]; exact List.getElem_mem hk
theorem get_mem {α : Type} {m : List α} {d : α} {k : Nat} (hk : k < m.length) : m.getD k d ∈ m := by rw [List.getD_eq_getElem?_getD, List.getElem?_eq_getElem hk]; exact List.getElem_mem hk
theorem of_get {α : Type} {p : α → Prop} {d : α} {m : List α} (h : ∀ k, k < m.length → p (m.getD k d)) : ∀ x ∈ m, p x := by
  intro x hx
  obtain ⟨i, hi, e⟩ := List.getElem_of_mem hx
  have := h i hi
  rw [List.getD_eq_getElem?_getD, List.getElem?_eq_getElem hi, Option.getD_some, e] at this
  exact this
theorem take_snoc {α : Type} {m : List α} {d : α} {k : Nat} (hk : k < m.length) : m.take (k + 1) = m.take k ++ [m.getD k d] := by
  rw [List.take_add_one, List.getElem?_eq_getElem hk]
  simp [List.getD, hk]
theorem info_pn : (Try.prog.info? 38).map (fun i => (i.zero, i.size, i.bytes)) = some (some (.agg #[.int .i64 0, .int .i64 0, .bool false]), 3, 24) := by kernel_rfl
theorem info_pa : (Try.prog.info? 59).map (fun i => (i.zero, i.size, i.bytes)) = some (some (.agg #[.int .i64 0, .int .i64 0, .int .i64 0]), 3, 24) := by kernel_rfl
theorem info_pns : (Try.prog.info? 39).map (fun i => (i.zero, i.size, i.bytes)) = some (some (.slice none 0 0), 1, 24) := by kernel_rfl

end Go.Proofs.Ytdojgkejpfdaeaa

namespace Go.Proofs.Ytdojgkejpfdaeaa
open Go.RowKit Go.Maps
set_option linter.unusedSimpArgs false
set_option linter.unusedVariables false

theorem flat_rep (vs : List Value) : ∀ n : Nat, (List.replicate n vs).flatten.length = n * vs.length := by
  intro n
  induction n with
  | zero => simp
  | succ n ih => rw [List.replicate_succ, List.flatten_cons, List.length_append, ih, Nat.add_mul]; omega
theorem made_flat {z : Array Value} {vs : List Value} (hz : z.toList = vs) (hs : 0 < vs.length) (n : Nat) : (madeCells z (n * vs.length)).toList = (List.replicate n vs).flatten := by
  apply List.ext_getElem?
  intro i
  subst hz
  by_cases hi : i < n * z.toList.length
  · have h5 : ∀ j, j < (List.replicate n z.toList).length → ((List.replicate n z.toList).getD j []).length = z.toList.length := fun j hj => by
      rw [List.length_replicate] at hj
      simp [List.getD, hj]
    have hd : i / z.toList.length < n := (Nat.div_lt_iff_lt_mul hs).2 hi
    have e1 : i / z.toList.length * z.toList.length + i % z.toList.length = i := by rw [Nat.mul_comm]; exact Nat.div_add_mod i _
    have h2 := flat_get h5 (i := i / z.toList.length) (j := i % z.toList.length) (by rw [List.length_replicate]; exact hd) (Nat.mod_lt _ hs)
    rw [e1] at h2
    rw [h2]
    have h3 : (List.replicate n z.toList).getD (i / z.toList.length) [] = z.toList := by rw [List.getD_eq_getElem?_getD, List.getElem?_replicate, if_pos hd]; rfl
    have hm : i % z.size < z.size := Nat.mod_lt _ hs
    have hi' : i < n * z.size := hi
    rw [h3]
    show (madeCells z (n * z.size)).toList[i]? = z.toList[i % z.size]?
    have e2 : (madeCells z (n * z.size)).toList[i]? = some (z[i % z.size]!) := by simp [madeCells, hi']
    rw [e2, List.getElem?_eq_getElem hm, getElem!_pos z _ hm]
    rfl
  · rw [List.getElem?_eq_none (by rw [Array.length_toList, size_madeCells]; omega), List.getElem?_eq_none (by rw [flat_rep]; omega)]
/-- A row that was made: of zeros. -/
theorem Gw.zeros {α : Type} {E : El α} {t : TypeId} {base : Nat} {w : World} {v : Value} {n : Nat} {z : Value} {vs : List Value} (h : w.ownsRow base t E.sz v n (madeCells z.cells (n * E.sz)).toList) (hz : z.cells.toList = vs) (hs : 0 < E.sz) (hr : E.rep (fun k => False ∧ v.ownBlock ≠ some k) w vs E.dfl) : Gw E t base (fun _ => False) w v (List.replicate n E.dfl) := by
  have hl := E.len hr
  refine ⟨List.replicate n vs, by rw [List.length_replicate, List.length_replicate], ?_, fun i hi => ?_⟩
  · rw [List.length_replicate, ← made_flat hz (by omega), hl]
    exact h
  · rw [List.length_replicate] at hi
    have e1 : (List.replicate n vs).getD i [] = vs := by rw [List.getD_eq_getElem?_getD, List.getElem?_replicate, if_pos hi]; rfl
    have e2 : (List.replicate n E.dfl).getD i E.dfl = E.dfl := by rw [List.getD_eq_getElem?_getD, List.getElem?_replicate, if_pos hi]; rfl
    rw [e1, e2]
    exact hr
/-- Points of the call's own: stores into one. -/
theorem Gw.pnSet {base : Nat} {w : World} {gP n c : Nat} {L : List Pn} (h : Gw PnE 38 base (fun _ => False) w (.slice (some ⟨gP, 0, none⟩) n c) L) {k : Nat} (hk : k < L.length) :
    (∀ x, I64 x → Gw PnE 38 base (fun _ => False) (w.setCell ⟨gP, k * 3, none⟩ (.int .i64 x)) (.slice (some ⟨gP, 0, none⟩) n c) (L.set k ⟨x, (L.getD k Pn.none).y, (L.getD k Pn.none).on⟩)) ∧
    (∀ y, I64 y → Gw PnE 38 base (fun _ => False) (w.setCell ⟨gP, k * 3 + 1, none⟩ (.int .i64 y)) (.slice (some ⟨gP, 0, none⟩) n c) (L.set k ⟨(L.getD k Pn.none).x, y, (L.getD k Pn.none).on⟩)) ∧
    (∀ o, Gw PnE 38 base (fun _ => False) (w.setCell ⟨gP, k * 3 + 2, none⟩ (.bool o)) (.slice (some ⟨gP, 0, none⟩) n c) (L.set k ⟨(L.getD k Pn.none).x, (L.getD k Pn.none).y, o⟩)) ∧ (∀ j, w.frozen? ⟨gP, j, none⟩ = false) ∧
    w.cell? ⟨gP, k * 3, none⟩ = some (.int .i64 (L.getD k Pn.none).x) ∧ w.cell? ⟨gP, k * 3 + 1, none⟩ = some (.int .i64 (L.getD k Pn.none).y) ∧ w.cell? ⟨gP, k * 3 + 2, none⟩ = some (.bool (L.getD k Pn.none).on) := by
  have hne : L ≠ [] := fun e => by rw [e] at hk; simp at hk
  obtain ⟨g, cap, ev, _, _, _, hfz, hcells, hset⟩ := h.own hne
  have eg : gP = g := by injection ev with e1 _ _; cases e1; rfl
  subst eg
  obtain ⟨vs, hr, hc⟩ := hcells k hk
  obtain ⟨rfl, hw⟩ := PnE_rep.1 hr
  refine ⟨fun x hx => ?_, fun y hy => ?_, fun o => ?_, hfz, hc 0 (by decide), hc 1 (by decide), hc 2 (by decide)⟩
  · exact hset k 0 (.int .i64 x) _ hk (by decide) (fun S' us hu => by obtain ⟨rfl, h1, h2⟩ := PnE_rep.1 hu; exact PnE_rep.2 ⟨rfl, hx, h2⟩)
  · exact hset k 1 (.int .i64 y) _ hk (by decide) (fun S' us hu => by obtain ⟨rfl, h1, h2⟩ := PnE_rep.1 hu; exact PnE_rep.2 ⟨rfl, h1, hy⟩)
  · exact hset k 2 (.bool o) _ hk (by decide) (fun S' us hu => by obtain ⟨rfl, h1, h2⟩ := PnE_rep.1 hu; exact PnE_rep.2 ⟨rfl, h1, h2⟩)
theorem Sc.other {t : TypeId} {w : World} {g b : Nat} {pa : Option Addr} {pc : Nat} {xs : List Nat} {p : Nat} (h : Sc t w g pa pc xs p) (j : Nat) (z : Value) (h1 : g ≠ b) (h2 : ∀ c o, pa = some ⟨c, o, none⟩ → xs ≠ [] → c ≠ b) : Sc t (w.setCell ⟨b, j, none⟩ z) g pa pc xs p :=
  ⟨h.1.other j z h1, h.2.1.keep' (by simp [World.setCell]) (fun c o _ e hne => Below.heap_setCell _ _ _ _ (fun e2 => h2 c o e hne e2)), h.2.2⟩
theorem Kp.other {g b : Nat} {a w : World} (h : Kp g a w) (j : Nat) (z : Value) (hb : a.heap.size ≤ b) : Kp g a (w.setCell ⟨b, j, none⟩ z) := Keep.setCell h (p := ⟨b, j, none⟩) (fun e => by have h1 : b < a.heap.size := e.1; omega) z
theorem fsK_byt {n : Nat} {s : List Nat} (hs : Byt s) : Byt (fsK n s) := (rdG_byt n n s [] hs Byt.nil).take n
theorem rdG_rest : ∀ (f n : Nat) (s acc : List Nat), ∃ j, (rdG f n s acc).2 = s.drop j := by
  intro f
  induction f with
  | zero => intro n s acc; exact ⟨0, rfl⟩
  | succ f ih =>
    intro n s acc
    rw [rdG]
    split
    · split
      · obtain ⟨j, e⟩ := ih n (s.drop 2) (acc ++ List.replicate (hd1 (s.drop 1) + 1) (hd1 s))
        exact ⟨2 + j, by rw [e, List.drop_drop]⟩
      · obtain ⟨j, e⟩ := ih n (s.drop 1) (acc ++ [hd1 s])
        exact ⟨1 + j, by rw [e, List.drop_drop]⟩
    · exact ⟨0, rfl⟩
theorem fgK_byt {n : Nat} {s : List Nat} (hs : Byt s) : Byt (fgK n s).2 := by
  obtain ⟨j, e⟩ := rdG_rest n n s []
  unfold fgK
  rw [e]
  exact hs.drop j
theorem xsK_byt {n : Nat} {s : List Nat} (hs : Byt s) : Byt (xsK n s).2 := by
  have := rdR_byt (sh := 2) (sm := 16) (fs := fsK n s) (a := 0) (fgK_byt (n := n) hs) (fsK n s).length (Nat.le_refl _)
  rw [rdR_all] at this
  exact this
theorem getD_set' {L : List Pn} {k i : Nat} {q : Pn} (hk : k < L.length) : (L.set k q).getD i Pn.none = if i = k then q else L.getD i Pn.none := by
  by_cases h : i = k
  · subst h; simp [List.getD, hk]
  · rw [if_neg h]; simp [List.getD, List.getElem?_set_ne (fun e => h e.symm)]
def onK (fs : List Nat) (i : Nat) : Bool := decide (fs.getD i 0 % 2 = 1)
/-- Points while they are read. -/
def pXk (X : List Int) (fs : List Nat) (k i : Nat) : Pn := if i < k then ⟨X.getD i 0, 0, onK fs i⟩ else Pn.none
def pYk (X Y : List Int) (fs : List Nat) (k i : Nat) : Pn := ⟨X.getD i 0, if i < k then Y.getD i 0 else 0, onK fs i⟩
theorem pts_all {L : List Pn} {n : Nat} {s : List Nat} (hl : L.length = n) (h : ∀ i, i < n → L.getD i Pn.none = pYk (xsK n s).1 (ysK n s).1 (fsK n s) n i) : L = ptK n s := by
  apply List.ext_getElem (by rw [hl, ptK_len])
  intro i h1 h2
  have e := h i (by omega)
  have e2 := mkP_get (xsK n s).1 (ysK n s).1 (fsK n s) i (by unfold xsK; rw [rdD_len]) (by unfold ysK; rw [rdD_len]) (by rw [fsK_len]; omega)
  rw [List.getD_eq_getElem?_getD, List.getElem?_eq_getElem h1, Option.getD_some] at e
  have e3 : (ptK n s).getD i Pn.none = (ptK n s)[i] := by rw [List.getD_eq_getElem?_getD, List.getElem?_eq_getElem h2, Option.getD_some]
  rw [e, ← e3]
  unfold ptK
  rw [e2]
  unfold pYk onK
  rw [if_pos (by omega)]

end Go.Proofs.Ytdojgkejpfdaeaa
