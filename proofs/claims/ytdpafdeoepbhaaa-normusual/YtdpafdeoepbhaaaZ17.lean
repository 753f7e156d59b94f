/-
  How pairs and bends lie in a world: read (Pz, Pzz); a pair's block (BxP).
  slices.Index, slices.Contains of pairs; bend.Plain's closure, slices.IndexFunc, slices.ContainsFunc with it; bend.ends: the walks.
  Bends: what lies beyond an end, what lies between two pairs (plain mathematics).
  bend.around: the walk.
-/
import Derived.Test.YtdpafdeoepbhaaaZ9
import Derived.Test.YtdpafdeoepbhaaaZ13
import Derived.Deep.RegionHeld3
namespace Go.Proofs.Ytdpafdeoepbhaaa
open Go.RowKit Go.Maps
set_option linter.unusedSimpArgs false
set_option linter.unusedVariables false

/-- A pair's block. -/
def BxP (w : World) (g : Nat) (x y : Value) : Prop := w.heap[g]? = some (.cells #[x, y] 68 (0, 0))
theorem BxP.cells {w : World} {g : Nat} {x y : Value} (h : BxP w g x y) :
    w.cell? ⟨g, 0, none⟩ = some x ∧ w.cell? ⟨g, 1, none⟩ = some y ∧ w.frozen? ⟨g, 0, none⟩ = false ∧ w.frozen? ⟨g, 1, none⟩ = false :=
  ⟨cell_of_row w g 0 _ _ (0, 0) h, cell_of_row w g 1 _ _ (0, 0) h, frozen_of_row w g 0 _ _ h, frozen_of_row w g 1 _ _ h⟩
theorem BxP.set0 {w : World} {g : Nat} {x y : Value} (h : BxP w g x y) (z : Value) : BxP (w.setCell ⟨g, 0, none⟩ z) g z y := heap_setCell_same w g 0 _ _ z h
theorem BxP.set1 {w : World} {g : Nat} {x y : Value} (h : BxP w g x y) (z : Value) : BxP (w.setCell ⟨g, 1, none⟩ z) g x z := heap_setCell_same w g 1 _ _ z h
theorem BxP.lt {w : World} {g : Nat} {x y : Value} (h : BxP w g x y) : g < w.heap.size := (Array.getElem?_eq_some_iff.1 h).1
theorem BxP.below {w w' : World} {g : Nat} {x y : Value} (h : BxP w g x y) (hb : Below w.heap.size w w') : BxP w' g x y := (hb.block g h.lt).trans h
theorem BxP.new (w : World) (x y : Value) : BxP (w.alloc (.cells #[x, y] 68)) w.heap.size x y := heap_alloc_new w _
theorem BxP.new1 (w : World) (o : Obj) (x y : Value) : BxP ((w.alloc o).alloc (.cells #[x, y] 68)) (w.heap.size + 1) x y := by
  have h := BxP.new (w.alloc o) x y
  simpa using h
/-- A pair's cells as a value. -/
def prC (p : Pr) : Array Value := #[.int .i64 p.1, .int .i64 p.2]

/-- Pairs that are read. -/
def Pz (w : World) (a : Option Addr) (cap : Nat) (l : List Pr) : Prop :=
  l.length ≤ cap ∧ cap ≤ maxLen ∧ (∀ t ∈ l, I64 t.1 ∧ I64 t.2) ∧
  ∀ i, i < l.length → ∃ b off, a = some ⟨b, off, none⟩ ∧ b < w.heap.size ∧ w.cell? ⟨b, off + i * 2, none⟩ = some (.int .i64 (l.getD i (0, 0)).1) ∧ w.cell? ⟨b, off + i * 2 + 1, none⟩ = some (.int .i64 (l.getD i (0, 0)).2)
theorem Pz.keep {w w' : World} {a : Option Addr} {cap : Nat} {l : List Pr} (h : Pz w a cap l) (hs : w.heap.size ≤ w'.heap.size)
    (hb : ∀ b, b < w.heap.size → (∃ o, a = some ⟨b, o, none⟩) → l ≠ [] → w'.heap[b]? = w.heap[b]?) : Pz w' a cap l := by
  refine ⟨h.1, h.2.1, h.2.2.1, fun i hi => ?_⟩
  obtain ⟨b, off, h1, h2, h3, h4⟩ := h.2.2.2 i hi
  have e := hb b h2 ⟨off, h1⟩ (fun e => by rw [e] at hi; simp at hi)
  exact ⟨b, off, h1, Nat.lt_of_lt_of_le h2 hs, (World.cell?_of_block (w := w) (a := ⟨b, off + i * 2, none⟩) e).trans h3, (World.cell?_of_block (w := w) (a := ⟨b, off + i * 2 + 1, none⟩) e).trans h4⟩
theorem Pz.below {w w' : World} {a : Option Addr} {cap : Nat} {l : List Pr} (h : Pz w a cap l) (hb : Below w.heap.size w w') : Pz w' a cap l :=
  h.keep hb.size fun b hb1 _ _ => hb.block b hb1
theorem Pz.at {w wr : World} {a : Option Addr} {cap : Nat} {l : List Pr} (h : Pz w a cap l) (hb : Below w.heap.size w wr) (k : Nat) (hk : k < l.length) :
    ∃ b off, a = some ⟨b, off, none⟩ ∧ b < w.heap.size ∧ wr.cell? ⟨b, off + k * 2, none⟩ = some (.int .i64 (l.getD k (0, 0)).1) ∧ wr.cell? ⟨b, off + k * 2 + 1, none⟩ = some (.int .i64 (l.getD k (0, 0)).2) := by
  obtain ⟨b, off, h1, h2, h3, h4⟩ := h.2.2.2 k hk
  exact ⟨b, off, h1, h2, (hb.cell (p := ⟨b, off + k * 2, none⟩) h2).trans h3, (hb.cell (p := ⟨b, off + k * 2 + 1, none⟩) h2).trans h4⟩
theorem Pz.w {w : World} {a : Option Addr} {cap : Nat} {l : List Pr} (h : Pz w a cap l) {k : Nat} (hk : k < l.length) : I64 (l.getD k (0, 0)).1 ∧ I64 (l.getD k (0, 0)).2 := h.2.2.1 _ (getP_mem hk)
theorem Pz.nil (w : World) (a : Option Addr) (cap : Nat) (h : cap ≤ maxLen) : Pz w a cap [] := ⟨Nat.zero_le _, h, (fun t ht => by cases ht), fun i hi => by simp at hi⟩
theorem Pz.lenB {w : World} {a : Option Addr} {cap : Nat} {l : List Pr} (h : Pz w a cap l) : l.length ≤ 9223372036854775807 := by
  have h1 := h.1
  have h2 := h.2.1
  unfold maxLen at h2
  omega

/-- Bends that are read. -/
def Pzz (w : World) (a : Option Addr) (cap : Nat) (m : List (List Pr)) : Prop :=
  m.length ≤ cap ∧ cap ≤ maxLen ∧
  ∀ i, i < m.length → ∃ b off a' cap', a = some ⟨b, off, none⟩ ∧ b < w.heap.size ∧ w.cell? ⟨b, off + i, none⟩ = some (.slice a' (m.getD i []).length cap') ∧ Pz w a' cap' (m.getD i [])
theorem Pzz.at {w wr : World} {a : Option Addr} {cap : Nat} {m : List (List Pr)} (h : Pzz w a cap m) (hb : Below w.heap.size w wr) (k : Nat) (hk : k < m.length) :
    ∃ b off a' cap', a = some ⟨b, off, none⟩ ∧ b < w.heap.size ∧ wr.cell? ⟨b, off + k, none⟩ = some (.slice a' (m.getD k []).length cap') ∧ Pz wr a' cap' (m.getD k []) := by
  obtain ⟨b, off, a', cap', h1, h2, h3, h4⟩ := h.2.2 k hk
  exact ⟨b, off, a', cap', h1, h2, (hb.cell (p := ⟨b, off + k, none⟩) h2).trans h3, h4.below hb⟩
theorem Pzz.below {w w' : World} {a : Option Addr} {cap : Nat} {m : List (List Pr)} (h : Pzz w a cap m) (hb : Below w.heap.size w w') : Pzz w' a cap m := by
  refine ⟨h.1, h.2.1, fun i hi => ?_⟩
  obtain ⟨b, off, a', cap', h1, h2, h3⟩ := h.at hb i hi
  exact ⟨b, off, a', cap', h1, Nat.lt_of_lt_of_le h2 hb.size, h3⟩
theorem Pzz.nil (w : World) (a : Option Addr) (cap : Nat) (h : cap ≤ maxLen) : Pzz w a cap [] := ⟨Nat.zero_le _, h, fun i hi => by simp at hi⟩
theorem Pzz.lenB {w : World} {a : Option Addr} {cap : Nat} {m : List (List Pr)} (h : Pzz w a cap m) : m.length ≤ 9223372036854775807 := by
  have h1 := h.1
  have h2 := h.2.1
  unfold maxLen at h2
  omega

end Go.Proofs.Ytdpafdeoepbhaaa

namespace Go.Proofs.Ytdpafdeoepbhaaa
open Go.RowKit Go.Maps
set_option linter.unusedSimpArgs false
set_option linter.unusedVariables false

set_option maxHeartbeats 1000000 in
set_option maxRecDepth 100000 in
theorem index_any (a : Option Addr) (cap : Nat) (l : List Pr) (p : Pr) (w : World) (h : Pz w a cap l) :
    Calls Try.prog 53 #[.slice a l.length cap, .agg (prC p)] w fun e w' => ∃ z : Int, e = .returned (.int .i64 z) ∧ (0 ≤ z ↔ p ∈ l) ∧ Below w.heap.size w w' := by
  have k1 := h.1
  have k2 := h.2.1
  unfold maxLen at k2
  obtain ⟨f, t⟩ := p
  unfold prC
  dsimp only
  have hX := BxP.new w (.int .i64 f) (.int .i64 t)
  have hB0 := bl1 (w := w) (.cells #[.int .i64 f, .int .i64 t] 68)
  have HP : Hid (Pz (w.alloc (.cells #[.int .i64 f, .int .i64 t] 68)) a cap l) := h.below hB0
  clear h
  go_enter Try.func53, Try.ntmps53
  go_wp2
  generalize w.alloc (.cells #[.int .i64 f, .int .i64 t] 68) = W at *
  go_loopw [8] (fun i wr => ∃ k : Nat, k ≤ l.length ∧ i = .int .i64 k ∧ (∀ j, j < k → l.getD j (0, 0) ≠ (f, t)) ∧ Below W.heap.size W wr) (fun i _ => l.length - (intOf i).toNat)
  case atStart => exact ⟨0, Nat.zero_le _, rfl, (fun j hj => by omega), Below.refl _ _⟩
  case round =>
    obtain ⟨k, hk, rfl, hno, hB⟩ := hrel
    by_cases hkn : k < l.length
    · obtain ⟨b, off, ea, hb, d0, d1⟩ := HP.out.at hB k hkn
      subst ea
      have hmem := getP_mem hkn
      have HNO : Hid (l.getD k (0, 0) ≠ (f, t) → ∀ j, j < k + 1 → l.getD j (0, 0) ≠ (f, t)) := fun hn j hj => by
        rcases Nat.lt_or_ge j k with h1 | h1
        · exact hno j h1
        · rw [show j = k by omega]; exact hn
      obtain ⟨s, hs⟩ : ∃ s, l.getD k (0, 0) = s := ⟨_, rfl⟩
      rw [hs] at d0 d1 hmem HNO
      obtain ⟨x, y⟩ := s
      dsimp only at d0 d1
      obtain ⟨c0, c1, _⟩ := (hX.below hB).cells
      have hBw : Below w.heap.size w wr := hB0.trans (hB.mono hB0.size)
      have i1 : (0 : Int) ≤ (k : Int) := by omega
      have i2 : (k : Int) < (l.length : Int) := by omega
      clear hs hno
      by_cases hx : f = x
      · subst hx
        by_cases hy : t = y
        · subst hy
          go_wp2_with fail
          go_quiet (fail)
          go_wp2
          go_ret
          exact ⟨k, rfl, ⟨fun _ => hmem, fun _ => by omega⟩, below_drewN hBw _⟩
        · have HN : Hid (∀ j, j < k + 1 → l.getD j (0, 0) ≠ (f, t)) := HNO.out (fun e => by cases e; exact hy rfl)
          clear hmem HNO
          go_wp2_with fail
          go_quiet (fail)
          go_wp2
          go_roundw
          case rel => exact ⟨k + 1, by omega, by go_num, HN.out, below_drewN hB _⟩
          case measure => simp [intOf]; omega
      · have HN : Hid (∀ j, j < k + 1 → l.getD j (0, 0) ≠ (f, t)) := HNO.out (fun e => by cases e; exact hx rfl)
        clear hmem HNO
        go_wp2_with fail
        go_quiet (fail)
        go_wp2
        go_roundw
        case rel => exact ⟨k + 1, by omega, by go_num, HN.out, below_drewN hB _⟩
        case measure => simp [intOf]; omega
    · obtain rfl : k = l.length := by omega
      have HN : Hid (¬ (f, t) ∈ l) := fun hm => by obtain ⟨j, hj, e⟩ := memP hm; exact hno j hj e
      have hBw : Below w.heap.size w wr := hB0.trans (hB.mono hB0.size)
      clear hno
      go_wp2
      go_ret
      exact ⟨-1, rfl, ⟨fun h => by omega, fun h => absurd h HN.out⟩, hBw⟩

set_option maxHeartbeats 400000 in
set_option maxRecDepth 100000 in
theorem contains_any (a : Option Addr) (cap : Nat) (l : List Pr) (p : Pr) (w : World) (h : Pz w a cap l) :
    Calls Try.prog 36 #[.slice a l.length cap, .agg (prC p)] w fun e w' => e = .returned (.bool (decide (p ∈ l))) ∧ Below w.heap.size w w' := by
  have hB0 := bl1 (w := w) (.cells (prC p) 68)
  have hI := index_any a cap l p _ (h.below hB0)
  obtain ⟨q, hq⟩ : ∃ q, decide (p ∈ l) = q := ⟨_, rfl⟩
  have HQ : Hid (decide (p ∈ l) = q) := hq
  rw [hq]
  clear hq h
  obtain ⟨f, t⟩ := p
  unfold prC at *
  dsimp only at *
  go_enter Try.func36, Try.ntmps36
  go_wp2_with fail
  refine hI.mono ?_
  rintro e u ⟨z, rfl, hz, hb⟩
  have HZ : Hid (0 ≤ z ↔ (f, t) ∈ l) := hz
  have hB1 := hB0.trans (hb.mono hB0.size)
  clear hz hb hB0 hI
  go_wp2
  go_ret
  exact ⟨rt_bool (by rw [← HQ.out]; exact decide_eq_decide.2 HZ.out), hB1⟩

set_option maxHeartbeats 400000 in
set_option maxRecDepth 100000 in
theorem ends_any (w : World) :
    Calls Try.prog 35 #[] w fun e w' => e = .returned (.tuple #[.agg #[.int .i64 (-16384), .int .i64 (-16384)], .agg #[.int .i64 16384, .int .i64 16384]]) ∧ Below w.heap.size w w' := by
  go_enter Try.func35, Try.ntmps35
  go_wp2
  exact bodyPost_ret (v := .tuple #[.agg #[.int .i64 (-16384), .int .i64 (-16384)], .agg #[.int .i64 16384, .int .i64 16384]]) (by simp [results, Try.results35, go_sem]) rfl ⟨rfl, bl2 _ _⟩

end Go.Proofs.Ytdpafdeoepbhaaa

namespace Go.Proofs.Ytdpafdeoepbhaaa
set_option linter.unusedSimpArgs false
set_option linter.unusedVariables false

/-- The two pairs around a number. -/
def Arnd (l : List Pr) (z : Int) (p q : Pr) : Prop :=
  (∃ j, j + 1 < l.length ∧ p = l.getD j (0, 0) ∧ q = l.getD (j + 1) (0, 0) ∧ z < q.1 ∧ ∀ i, i < j → (l.getD (i + 1) (0, 0)).1 ≤ z) ∨ ((∀ i, i + 1 < l.length → (l.getD (i + 1) (0, 0)).1 ≤ z) ∧ p = (-16384, -16384) ∧ q = (16384, 16384))
theorem fl14_ge {q : Rat} {z n : Int} (hz : (q * ((16384 : Int) : Rat)).floor = z) (h : n ≤ z) : ((n : Int) : Rat) / ((16384 : Int) : Rat) ≤ q := by
  have hp : (0 : Rat) < ((16384 : Int) : Rat) := ri_pos (by decide)
  rw [← hz] at h
  have := Rat.le_floor_iff.1 h
  rw [← Rat.not_lt, Rat.lt_div_iff hp, Rat.not_lt]
  exact this
theorem fl14_lt {q : Rat} {z n : Int} (hz : (q * ((16384 : Int) : Rat)).floor = z) (h : z < n) : q < ((n : Int) : Rat) / ((16384 : Int) : Rat) := by
  have hp : (0 : Rat) < ((16384 : Int) : Rat) := ri_pos (by decide)
  rw [← hz] at h
  rw [Rat.lt_div_iff hp, ← Rat.not_le]
  intro hh
  have := Rat.le_floor_iff.2 hh
  omega
theorem r14_one : ((16384 : Int) : Rat) / ((16384 : Int) : Rat) = ((1 : Int) : Rat) := by decide +kernel
theorem r14_neg : ((-16384 : Int) : Rat) / ((16384 : Int) : Rat) = ((-1 : Int) : Rat) := by decide +kernel
/-- What lies beyond an end comes to that end. -/
theorem beQ_out {l : List Pr} (hf : frP l = true) {q : Rat} {z : Int} (hz : (q * ((16384 : Int) : Rat)).floor = z) (h : z < -16384 ∨ 16384 ≤ z) : beQ l q = ((sgnQ q : Int) : Rat) := by
  have o : (0 : Rat) < ((1 : Int) : Rat) := ri_pos (by decide)
  have n : ((-1 : Int) : Rat) < 0 := by decide +kernel
  rcases h with h | h
  · have h1 := fl14_lt hz h
    rw [r14_neg] at h1
    have hs : sgnQ q = -1 := by unfold sgnQ; rw [if_neg (by grind), if_pos (by grind)]
    rw [hs, beQ, if_pos hf, clQ, if_pos h1]
    rcases frP_iff.1 hf with h0 | h0
    · obtain rfl := List.length_eq_zero_iff.1 h0
      rfl
    · exact h0.ends.1
  · have h1 := fl14_ge hz h
    rw [r14_one] at h1
    have hs : sgnQ q = 1 := by unfold sgnQ; rw [if_neg (by grind), if_neg (by grind)]
    have hc : clQ q = ((1 : Int) : Rat) := by
      unfold clQ
      rw [if_neg (by grind)]
      split
      · rfl
      · grind
    rw [hs, beQ, if_pos hf, hc]
    rcases frP_iff.1 hf with h0 | h0
    · obtain rfl := List.length_eq_zero_iff.1 h0
      rfl
    · exact h0.ends.2
/-- What lies between comes by the two pairs around it. -/
theorem beQ_arnd {l : List Pr} (hf : frP l = true) {q : Rat} {z : Int} (hz : (q * ((16384 : Int) : Rat)).floor = z) (h1 : -16384 ≤ z) (h2 : z < 16384) {p r : Pr} (ha : Arnd l z p r) :
    beQ l q = sgP p r q ∧ -16384 ≤ p.1 ∧ p.1 < r.1 ∧ r.1 ≤ 16384 ∧ -16384 ≤ p.2 ∧ p.2 ≤ 16384 ∧ -16384 ≤ r.2 ∧ r.2 ≤ 16384 := by
  have q1 := fl14_ge hz h1
  have q2 := fl14_lt hz h2
  rw [r14_neg] at q1
  rw [r14_one] at q2
  have hc := clQ_in q1 (Rat.le_of_lt q2)
  rw [beQ, if_pos hf, hc]
  rcases frP_iff.1 hf with h0 | h0
  · obtain rfl := List.length_eq_zero_iff.1 h0
    rcases ha with ⟨j, hj, _⟩ | ⟨_, rfl, rfl⟩
    · simp at hj
    · exact ⟨(sgP_same (a := (-16384, -16384)) (b := (16384, 16384)) (by decide) rfl rfl q).symm, by decide, by decide, by decide, by decide, by decide, by decide, by decide⟩
  · have hr : RiP l := h0.2.2.2.2.2
    rcases ha with ⟨j, hj, rfl, rfl, hlt, hle⟩ | ⟨hle, _⟩
    · have hp : (l.getD j (0, 0)).1 ≤ z := by
        rcases Nat.eq_zero_or_pos j with rfl | hj0
        · rw [h0.2.2.1]; exact h1
        · obtain ⟨i, rfl⟩ : ∃ i, j = i + 1 := ⟨j - 1, by omega⟩
          exact hle i (by omega)
      have a := h0.in (j := j) (by omega)
      have b := h0.in hj
      have r := hr j hj
      exact ⟨bnP_at hr hj (fl14_ge hz hp) (Rat.le_of_lt (fl14_lt hz hlt)), a.1, r.1, b.2.1, a.2.2.1, a.2.2.2, b.2.2.1, b.2.2.2⟩
    · exfalso
      have h3 := (FpP.doc.1 h0).1
      have := hle (l.length - 2) (by omega)
      rw [show l.length - 2 + 1 = l.length - 1 by omega, h0.2.2.2.1] at this
      dsimp only at this
      omega

end Go.Proofs.Ytdpafdeoepbhaaa

namespace Go.Proofs.Ytdpafdeoepbhaaa
open Go.RowKit Go.Maps
set_option linter.unusedSimpArgs false
set_option linter.unusedVariables false

/-- Two pairs that follow one another. -/
def TwoP (w : World) (b off j : Nat) (x0 y0 x1 y1 : Int) : Prop :=
  b < w.heap.size ∧ w.cell? ⟨b, off + j * 2, none⟩ = some (.int .i64 x0) ∧ w.cell? ⟨b, off + j * 2 + 1, none⟩ = some (.int .i64 y0) ∧ w.cell? ⟨b, off + (j + 1) * 2, none⟩ = some (.int .i64 x1) ∧ w.cell? ⟨b, off + (j + 1) * 2 + 1, none⟩ = some (.int .i64 y1)
theorem TwoP.cells {w : World} {b off j : Nat} {x0 y0 x1 y1 : Int} (h : TwoP w b off j x0 y0 x1 y1) : w.cell? ⟨b, off + j * 2, none⟩ = some (.int .i64 x0) ∧ w.cell? ⟨b, off + j * 2 + 1, none⟩ = some (.int .i64 y0) ∧ w.cell? ⟨b, off + (j + 1) * 2, none⟩ = some (.int .i64 x1) ∧ w.cell? ⟨b, off + (j + 1) * 2 + 1, none⟩ = some (.int .i64 y1) := h.2
theorem TwoP.keep {w w' : World} {b off j : Nat} {x0 y0 x1 y1 : Int} (h : TwoP w b off j x0 y0 x1 y1) (e : w'.heap[b]? = w.heap[b]?) : TwoP w' b off j x0 y0 x1 y1 := by
  obtain ⟨h0, h1, h2, h3, h4⟩ := h
  have hs : b < w'.heap.size := by
    rw [Array.getElem?_eq_getElem h0] at e
    exact (Array.getElem?_eq_some_iff.1 e).1
  exact ⟨hs, (World.cell?_of_block (w := w) (a := ⟨b, off + j * 2, none⟩) e).trans h1, (World.cell?_of_block (w := w) (a := ⟨b, off + j * 2 + 1, none⟩) e).trans h2, (World.cell?_of_block (w := w) (a := ⟨b, off + (j + 1) * 2, none⟩) e).trans h3, (World.cell?_of_block (w := w) (a := ⟨b, off + (j + 1) * 2 + 1, none⟩) e).trans h4⟩
theorem TwoP.below {w w' : World} {b off j : Nat} {x0 y0 x1 y1 : Int} (h : TwoP w b off j x0 y0 x1 y1) (hb : Below w.heap.size w w') : TwoP w' b off j x0 y0 x1 y1 := h.keep (hb.block b h.1)
theorem TwoP.other {u U : World} {g b off j : Nat} {x0 y0 x1 y1 : Int} (h : TwoP u b off j x0 y0 x1 y1) (hU : ∀ k, k ≠ g → U.heap[k]? = u.heap[k]?) (hk : b ≠ g) : TwoP U b off j x0 y0 x1 y1 := h.keep (hU b hk)
theorem Pz.two {w : World} {a : Option Addr} {cap : Nat} {l : List Pr} (h : Pz w a cap l) {j : Nat} (hj : j + 1 < l.length) : ∃ b off, a = some ⟨b, off, none⟩ ∧ b < w.heap.size ∧ TwoP w b off j (l.getD j (0, 0)).1 (l.getD j (0, 0)).2 (l.getD (j + 1) (0, 0)).1 (l.getD (j + 1) (0, 0)).2 := by
  obtain ⟨b, off, ea, hb, d0, d1⟩ := h.2.2.2 j (by omega)
  obtain ⟨_, _, ea2, _, c0, c1⟩ := h.2.2.2 (j + 1) hj
  rw [ea] at ea2
  cases ea2
  exact ⟨b, off, ea, hb, hb, d0, d1, c0, c1⟩
theorem BxP.other {u U : World} {b k : Nat} {x y : Value} (h : BxP u k x y) (hU : ∀ j, j ≠ b → U.heap[j]? = u.heap[j]?) (hk : k ≠ b) : BxP U k x y := (hU k hk).trans h
/-- A store into a pair's block, the world named. -/
theorem BxP.set_world {u : World} {g : Nat} {x y : Value} (B : BxP u g x y) (x' y' : Value) : ∃ U, U = (u.setCell ⟨g, 0, none⟩ x').setCell ⟨g, 1, none⟩ y' ∧ BxP U g x' y' ∧ (∀ B w, Below B w u → B ≤ g → Below B w U) ∧ (∀ j, j ≠ g → U.heap[j]? = u.heap[j]?) :=
  ⟨_, rfl, (B.set0 x').set1 y', fun _ _ h hb => (h.setCell (p := ⟨g, 0, none⟩) hb x').setCell (p := ⟨g, 1, none⟩) hb y', fun j hj => (Below.heap_setCell _ ⟨g, 1, none⟩ y' j hj).trans (Below.heap_setCell _ ⟨g, 0, none⟩ x' j hj)⟩
/-- Two pairs are handed back out of their blocks. -/
theorem retPP {P : Program} {fn : Func} {R : Ending → World → Prop} {ac : Act} {u : World} {g h : Nat} {x0 x1 x2 x3 y0 y1 y2 y3 v : Value} (B1 : BxP u g y0 y1) (B2 : BxP u h y2 y3) (hgh : g ≠ h)
    (hd : ac.defers = []) (hr : ∀ U, BxP U g x0 x1 → BxP U h x2 x3 → (results fn ac.tmps).run P U = .ok v U)
    (hR : ∀ U, (∀ B w, Below B w u → B ≤ g → B ≤ h → Below B w U) → R (.returned v) U) :
    bodyPost P fn R .ret ac ((((u.setCell ⟨g, 0, none⟩ x0).setCell ⟨g, 1, none⟩ x1).setCell ⟨h, 0, none⟩ x2).setCell ⟨h, 1, none⟩ x3) := by
  obtain ⟨U, hU, A1, b1, o1⟩ := B1.set_world x0 x1
  rw [← hU]
  obtain ⟨V, hV, A2, b2, o2⟩ := (B2.other o1 (Ne.symm hgh)).set_world x2 x3
  rw [← hV]
  exact bodyPost_ret (hr _ (A1.other o2 hgh) A2) hd (hR _ (fun _ _ hb h1 h2 => b2 _ _ (b1 _ _ hb h1) h2))

set_option maxHeartbeats 2000000 in
set_option maxRecDepth 100000 in
theorem around_any (a : Option Addr) (cap : Nat) (l : List Pr) (z : Int) (w : World) (h : Pz w a cap l) :
    Calls Try.prog 42 #[.slice a l.length cap, .int .i64 z] w fun e w' => ∃ p q : Pr, e = .returned (.tuple #[.agg (prC p), .agg (prC q)]) ∧ Arnd l z p q ∧ Below w.heap.size w w' := by
  have k1 := h.1
  have k2 := h.2.1
  unfold maxLen at k2
  obtain ⟨W, hW, hX1, hX2, hbW0⟩ : ∃ W, W = (w.alloc (.cells #[.int .i64 0, .int .i64 0] 68)).alloc (.cells #[.int .i64 0, .int .i64 0] 68) ∧ BxP W w.heap.size (.int .i64 0) (.int .i64 0) ∧ BxP W (w.heap.size + 1) (.int .i64 0) (.int .i64 0) ∧ Below w.heap.size w W := ⟨_, rfl, (BxP.new w _ _).below (bl1 _), BxP.new1 w _ _ _, bl2 _ _⟩
  have HP : Hid (Pz w a cap l) := h
  clear h
  go_enter Try.func42, Try.ntmps42
  go_wp2
  rw [← hW]
  clear hW
  go_loopw [6] (fun i wr => ∃ j : Nat, j ≤ l.length ∧ i = .int .i64 ((j : Int) + 1) ∧ (∀ i, i < j → i + 1 < l.length → (l.getD (i + 1) (0, 0)).1 ≤ z) ∧ Below W.heap.size W wr) (fun i _ => l.length + 1 - (intOf i).toNat)
  case atStart => exact ⟨0, Nat.zero_le _, rfl, (fun j hj => by omega), Below.refl _ _⟩
  case round =>
    obtain ⟨j, hj, rfl, hno, hB⟩ := hrel
    have X1 := hX1.below hB
    have X2 := hX2.below hB
    have hbW : Below w.heap.size w wr := hbW0.trans (hB.mono hbW0.size)
    by_cases hkn : j + 1 < l.length
    · obtain ⟨b, off, ea, hb, hT⟩ := HP.out.two hkn
      subst ea
      have T2 := hT.below hbW
      have HNO : Hid (∀ i, i < j → i + 1 < l.length → (l.getD (i + 1) (0, 0)).1 ≤ z) := hno
      obtain ⟨s, hs⟩ : ∃ s, l.getD j (0, 0) = s := ⟨_, rfl⟩
      obtain ⟨t, ht⟩ : ∃ s, l.getD (j + 1) (0, 0) = s := ⟨_, rfl⟩
      rw [hs, ht] at T2
      have HST : Hid (l.getD j (0, 0) = s ∧ l.getD (j + 1) (0, 0) = t) := ⟨hs, ht⟩
      clear hs ht hno hT
      obtain ⟨x0, y0⟩ := s
      obtain ⟨x1, y1⟩ := t
      dsimp only at T2
      by_cases hz : z < x1
      · have HAR : Hid (Arnd l z (x0, y0) (x1, y1)) := .inl ⟨j, hkn, HST.out.1.symm, HST.out.2.symm, hz, fun i hi => HNO.out i hi (by omega)⟩
        clear hB
        have hwr : IntKind.i64.wrap (j : Int) = j := wrapi64 (by omega) (by omega)
        have hjl : j < l.length := by omega
        have hj1 : (0 : Int) ≤ (j : Int) + 1 := by omega
        obtain ⟨p00, p01, p02, p03⟩ := T2.cells
        go_wp2_with fail
        refine wp_region_held_drew (S := (fun u => u.cell? ⟨b, (off + j * 2), none⟩ = some (.int .i64 x0) ∧ u.cell? ⟨b, (off + j * 2 + 1), none⟩ = some (.int .i64 y0) ∧ u.cell? ⟨b, (off + (j + 1) * 2), none⟩ = some (.int .i64 x1) ∧ u.cell? ⟨b, (off + (j + 1) * 2 + 1), none⟩ = some (.int .i64 y1))) (by kernel_rfl) ?_ (fun hHeld => ?_)
        · (try dsimp only)
          go_keep
        have hdr : Below wr.heap.size wr wr.drew := Below.drew1
        generalize wr.drew = ud1 at hdr hHeld ⊢
        replace X1 := X1.below hdr
        replace X2 := X2.below hdr
        replace T2 := T2.below hdr
        replace hbW : Below w.heap.size w ud1 := hbW.trans (hdr.mono hbW.size)
        clear hdr
        clear p00 p01 p02 p03
        obtain ⟨p00, p01, p02, p03⟩ := T2.cells
        refine hT 0 hHeld ?_
        refine hT 1 hHeld ?_
        refine hT 2 hHeld ?_
        refine hT 3 hHeld ?_
        refine hT 4 hHeld ?_
        refine hT 5 hHeld ?_
        refine hT 6 hHeld ?_
        refine hT 7 hHeld ?_
        refine hT 8 hHeld ?_
        refine hCall (i := 9) rfl (by kernel_rfl) (by rfl) (fun K hK => ?_)
        go_simp
        obtain ⟨q1, q2, q3, q4⟩ := X1.cells
        go_simp
        obtain ⟨u1, hU, A1, hbU, ho⟩ := X1.set_world (.int .i64 x0) (.int .i64 y0)
        rw [← hU]
        clear hU q1 q2 q3 q4
        replace hbW := hbU _ _ hbW (by omega)
        replace T2 := T2.other ho (by omega)
        replace X2 := X2.other ho (by omega)
        clear hbU ho
        clear p00 p01 p02 p03
        obtain ⟨p00, p01, p02, p03⟩ := T2.cells
        refine hK.out _ _ ?_ (fun hHeld => ?_)
        · (try dsimp only)
          exact ⟨p00, p01, p02, p03⟩
        clear hK K
        try simp only [Act.put, List.setIfInBounds_toArray, List.set_cons_zero, List.set_cons_succ]
        refine hCall (i := 10) rfl (by kernel_rfl) (by rfl) (fun K hK => ?_)
        go_simp
        obtain ⟨q1, q2, q3, q4⟩ := X2.cells
        go_simp
        obtain ⟨u2, hU, A2, hbU, ho⟩ := X2.set_world (.int .i64 x1) (.int .i64 y1)
        rw [← hU]
        clear hU q1 q2 q3 q4
        replace hbW := hbU _ _ hbW (by omega)
        replace T2 := T2.other ho (by omega)
        replace A1 := A1.other ho (by omega)
        clear hbU ho
        clear p00 p01 p02 p03
        obtain ⟨p00, p01, p02, p03⟩ := T2.cells
        refine hK.out _ _ ?_ (fun hHeld => ?_)
        · (try dsimp only)
          exact ⟨p00, p01, p02, p03⟩
        clear hK K
        try simp only [Act.put, List.setIfInBounds_toArray, List.set_cons_zero, List.set_cons_succ]
        refine wpAnyH_done (by kernel_rfl) ?_ _
        go_wp2
        refine bodyPost_ret (v := .tuple #[.agg #[.int .i64 x0, .int .i64 y0], .agg #[.int .i64 x1, .int .i64 y1]]) (by obtain ⟨r1, r2, _⟩ := A1.cells; obtain ⟨r3, r4, _⟩ := A2.cells; simp [results, Try.results42, go_sem, r1, r2, r3, r4]) rfl ⟨(x0, y0), (x1, y1), rfl, HAR.out, hbW⟩
      · obtain ⟨d0, d1, d2, d3⟩ := T2.cells
        go_wp2
        go_roundw
        case rel =>
          refine ⟨j + 1, by omega, by go_num, fun i hi hi2 => ?_, hB⟩
          rcases Nat.lt_or_ge i j with h1 | h1
          · exact HNO.out i h1 hi2
          · have : i = j := by omega
            rw [this, HST.out.2]
            exact Int.not_lt.1 hz
        case measure => simp [intOf]; omega
    · have HAR : Hid (Arnd l z (-16384, -16384) (16384, 16384)) := .inr ⟨fun i hi => hno i (by omega) hi, rfl, rfl⟩
      have g1 : ¬ (j : Int) + 1 < (l.length : Int) := by omega
      clear hno hB
      go_wp2_with fail
      refine (ends_any _).mono ?_
      rintro e u ⟨rfl, hbu⟩
      replace X1 := X1.below hbu
      replace X2 := X2.below hbu
      replace hbW := hbW.trans (hbu.mono hbW.size)
      clear hbu
      obtain ⟨q1, q2, q3, q4⟩ := X1.cells
      obtain ⟨q5, q6, q7, q8⟩ := X2.cells
      go_wp2
      refine retPP (v := .tuple #[.agg #[.int .i64 (-16384), .int .i64 (-16384)], .agg #[.int .i64 16384, .int .i64 16384]]) X1 X2 (by omega) rfl (fun U hU hV => by obtain ⟨r1, r2, _⟩ := hU.cells; obtain ⟨r3, r4, _⟩ := hV.cells; simp [results, Try.results42, go_sem, r1, r2, r3, r4]) (fun U hU => ⟨(-16384, -16384), (16384, 16384), rfl, HAR.out, hU _ _ hbW (by omega) (by omega)⟩)

end Go.Proofs.Ytdpafdeoepbhaaa
