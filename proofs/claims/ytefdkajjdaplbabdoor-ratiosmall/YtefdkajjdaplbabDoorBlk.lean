/-
  A block of limbs that is known whole, and what a store does to it.
-/
import Derived.Test.YtefdkajjdaplbabDoorAdd
namespace Go.Proofs.YtefdkajjdaplbabDoor
open Go.RowKit
set_option linter.unusedSimpArgs false
set_option linter.unusedVariables false

/-- Block g begins with the limbs zs, and may be written. -/
def Blk (e : TypeId) (w : World) (g : Nat) (zs : List Nat) : Prop :=
  ∃ cur : Array Value, w.heap[g]? = some (.cells cur e (0, 0)) ∧ zs.length ≤ cur.size ∧ cur.toList.take zs.length = zs.map U

theorem Blk.cell {e : TypeId} {w : World} {g : Nat} {zs : List Nat} (h : Blk e w g zs) (i : Nat) (hi : i < zs.length) : w.cell? ⟨g, i, none⟩ = some (.int .u32 (zs.getD i 0 : Nat)) := by
  obtain ⟨cur, h1, h2, h3⟩ := h
  rw [cell_of_row w g i _ e (0, 0) h1]
  have h4 : (cur.toList.take zs.length)[i]? = (zs.map U)[i]? := by rw [h3]
  rw [List.getElem?_take, if_pos hi] at h4
  simp at h4
  rw [h4]
  simp [List.getD, U, hi]
theorem Blk.frozen {e : TypeId} {w : World} {g : Nat} {zs : List Nat} (h : Blk e w g zs) (i : Nat) : w.frozen? ⟨g, i, none⟩ = false := by
  obtain ⟨cur, h1, _⟩ := h
  exact frozen_of_row w g i _ e h1
theorem Blk.lt {e : TypeId} {w : World} {g : Nat} {zs : List Nat} (h : Blk e w g zs) : g < w.heap.size := by
  obtain ⟨cur, h1, _⟩ := h
  exact (Array.getElem?_eq_some_iff.1 h1).1

theorem Blk.set {e : TypeId} {w : World} {g : Nat} {zs : List Nat} (h : Blk e w g zs) (i : Nat) (q : Int) (z : Nat) (hi : i < zs.length) (hq : q = (z : Int)) : Blk e (w.setCell ⟨g, i, none⟩ (.int .u32 q)) g (zs.set i z) := by
  subst hq
  obtain ⟨cur, h1, h2, h3⟩ := h
  refine ⟨cur.setIfInBounds i (.int .u32 (z : Int)), heap_setCell_same w g i _ e (.int .u32 (z : Int)) h1, by simpa using h2, ?_⟩
  rw [List.map_set, ← h3, Array.toList_setIfInBounds, List.length_set, List.take_set]
  rfl

theorem Blk.below {e : TypeId} {w w' : World} {g : Nat} {zs : List Nat} (h : Blk e w g zs) (hb : Below w.heap.size w w') : Blk e w' g zs := by
  have hl := h.lt
  obtain ⟨cur, h1, h2⟩ := h
  exact ⟨cur, (hb.block g hl).trans h1, h2⟩

theorem Blk.other {e : TypeId} {w w' : World} {g k : Nat} {zs : List Nat} (h : Blk e w g zs) (hg : w.grownBy w' (some k)) (hne : g ≠ k) : Blk e w' g zs := by
  have hl := h.lt
  obtain ⟨cur, h1, h2⟩ := h
  exact ⟨cur, (hg.block g hl (by simpa using hne)).trans h1, h2⟩

theorem Blk.rd {e : TypeId} {w : World} {g : Nat} {zs : List Nat} (h : Blk e w g zs) (hl : Lim zs) (off n cap : Nat) (h1 : off + n ≤ zs.length) (h2 : n ≤ cap) (h3 : cap ≤ maxLen) :
    Rd w (some ⟨g, off, none⟩) cap ((zs.drop off).take n) := by
  refine ⟨(hl.drop off).take n, by simp; omega, h3, (by simp), .inr ⟨g, off, rfl, h.lt, fun i hi => ?_⟩⟩
  simp at hi
  rw [h.cell (off + i) (by omega)]
  simp [List.getD, show off + i < zs.length by omega, show i < n by omega]

theorem grownBy_setCell {w wr : World} {g : Nat} (h : w.grownBy wr (some g)) (i : Nat) (v : Value) : w.grownBy (wr.setCell ⟨g, i, none⟩ v) (some g) :=
  ⟨h.os, h.tape, h.output, by have := h.size; simp [World.setCell]; exact this, fun k hk hne => by rw [Below.heap_setCell wr ⟨g, i, none⟩ v k (fun e => hne (by simp [e]))]; exact h.block k hk hne⟩

/-- A slice in another block than the one that is written reads as it did. -/
theorem Fm.other {w wr : World} {g : Nat} {a : Option Addr} {xs : List Nat} (h : Fm w a xs) (hg : w.grownBy wr (some g)) (hs : ∀ k o, a = some ⟨k, o, none⟩ → xs ≠ [] → k ≠ g) (k : Nat) (hk : k < xs.length) :
    ∃ b off, a = some ⟨b, off, none⟩ ∧ b ≠ g ∧ wr.cell? ⟨b, off + k, none⟩ = some (.int .u32 (xs.getD k 0 : Nat)) := by
  rcases h with rfl | ⟨b, off, h1, h2, h3⟩
  · simp at hk
  · have hne : b ≠ g := hs b off h1 (by intro e; rw [e] at hk; simp at hk)
    exact ⟨b, off, h1, hne, (World.cell?_of_block (w := w) (a := ⟨b, off + k, none⟩) (hg.block b h2 (by simpa using hne))).trans (h3 k hk)⟩

theorem Rd.other {w wr : World} {g : Nat} {a : Option Addr} {cap : Nat} {xs : List Nat} (h : Rd w a cap xs) (hg : w.grownBy wr (some g)) (hs : ∀ k o, a = some ⟨k, o, none⟩ → xs ≠ [] → k ≠ g) : Rd wr a cap xs := by
  obtain ⟨h1, h2, h3, h5, h4⟩ := h
  refine ⟨h1, h2, h3, h5, ?_⟩
  rcases h4 with h4 | ⟨b, off, e, hb1, hc⟩
  · exact .inl h4
  · by_cases hx : xs = []
    · exact .inl hx
    · exact .inr ⟨b, off, e, Nat.lt_of_lt_of_le hb1 hg.size, fun i hi => (World.cell?_of_block (w := w) (a := ⟨b, off + i, none⟩) (hg.block b hb1 (by simpa using hs b off e hx))).trans (hc i hi)⟩

theorem madeCells_zero (n : Nat) : (madeCells (Value.int .u32 0).cells n).toList = (List.replicate n 0).map U := by
  apply List.ext_getElem?
  intro i
  by_cases h : i < n
  · simp [madeCells, h, U, Value.cells, Nat.mod_one]
  · simp [madeCells, h, U]

/-- What 'make([]uint32, n)' lays. -/
theorem blk_made {e : TypeId} {w' : World} {base n g : Nat} (h : w'.ownsRow base e 1 (.slice (some ⟨g, 0, none⟩) n n) n (madeCells #[Value.int .u32 0] n).toList) : Blk e w' g (List.replicate n 0) := by
  rw [show (#[Value.int .u32 0] : Array Value) = (Value.int .u32 0).cells from rfl, madeCells_zero] at h
  rcases h.2 with ⟨h0, _⟩ | ⟨g', cap, cur, h1, h2, h3, h4, h5, h6, h7⟩
  · cases h0
  · simp at h1
    obtain ⟨rfl, rfl⟩ := h1
    exact ⟨cur, h3, by simp; omega, by simpa using h7⟩

/-- Out of a row of the call's own. -/
theorem Res.blk {e : TypeId} {base : Nat} {w : World} {a : Option Addr} {cap : Nat} {xs : List Nat} (h : Res e base w a cap xs) :
    xs = [] ∨ ∃ g, a = some ⟨g, 0, none⟩ ∧ base ≤ g ∧ Blk e w g xs := by
  rcases h.2.2 with ⟨h0, h1⟩ | ⟨g, cap', cur, h1, h2, h3, h4, h5, h6, h7⟩
  · exact .inl (List.length_eq_zero_iff.1 h1)
  · simp at h1
    obtain ⟨rfl, rfl⟩ := h1
    exact .inr ⟨g, rfl, h2, cur, h3, by omega, by simpa using h7⟩

end Go.Proofs.YtefdkajjdaplbabDoor
