/-
  Point numbers and changes, number by number (plain mathematics).
  Tuples: their bytes; what is written is read (plain mathematics).
  Glyphs: formed ones, their bytes; what is written is read (plain mathematics).
  How regions, rows and stores lie in a world: read (Tzz, Rii).
  store.isField, allFields, hasRow, Fits: the walks.
  store.Fits, store.Formed: the walks.
-/
import Derived.Test.YtkmcodofnckdmaaGreatZQ25
import Derived.Test.YtkmcodofnckdmaaGreatZQ13
import Derived.Test.YtkmcodofnckdmaaGreatZQ9
import Derived.Test.YtkmcodofnckdmaaGreatZQ12
import Derived.Test.YtkmcodofnckdmaaGreatZQ5
import Derived.Test.YtkmcodofnckdmaaGreatZQ18
set_option linter.unusedSimpArgs false
set_option linter.unusedVariables false
namespace Go.Proofs.YtkmcodofnckdmaaGreat
def g1 (b : List Nat) (p : Nat) : Nat := nmV b (p : Int) 4
def g2 (b : List Nat) (p : Nat) : Nat := p + 4 + g1 b p
def g3 (b : List Nat) (p : Nat) : Nat := nmV b (g2 b p : Int) 4
def g4 (b : List Nat) (p : Nat) : Nat := g2 b p + 4 + g3 b p
open Go.RowKit Go.Maps
def Tzz (w : World) (a : Option Addr) (cap : Nat) (g : List (List Te)) : Prop :=
 g.length ≤ cap ∧ cap ≤ maxLen ∧
 ∀ i, i < g.length → ∃ b off a' cap', a = some ⟨b, off, none⟩ ∧ b < w.heap.size ∧ w.cell? ⟨b, off + i, none⟩ = some (.slice a' (g.getD i []).length cap') ∧ Tz w a' cap' (g.getD i [])
theorem Tzz.at {w wr : World} {a : Option Addr} {cap : Nat} {m : List (List Te)} (h : Tzz w a cap m) (hb : Below w.heap.size w wr) (k : Nat) (hk : k < m.length) :
    ∃ b off a' cap', a = some ⟨b, off, none⟩ ∧ b < w.heap.size ∧ wr.cell? ⟨b, off + k, none⟩ = some (.slice a' (m.getD k []).length cap') ∧ Tz wr a' cap' (m.getD k []) := by
 obtain ⟨b, off, a', cap', h1, h2, h3, h4⟩ := h.2.2 k hk
 exact ⟨b, off, a', cap', h1, h2, (hb.cell (p := ⟨b, off + k, none⟩) h2).trans h3, h4.below hb⟩
theorem Tzz.below {w w' : World} {a : Option Addr} {cap : Nat} {m : List (List Te)} (h : Tzz w a cap m) (hb : Below w.heap.size w w') : Tzz w' a cap m := by
 refine ⟨h.1, h.2.1, fun i hi => ?_⟩
 obtain ⟨b, off, a', cap', h1, h2, h3⟩ := h.at hb i hi
 exact ⟨b, off, a', cap', h1, Nat.lt_of_lt_of_le h2 hb.size, h3⟩
theorem Tzz.lenB {w : World} {a : Option Addr} {cap : Nat} {m : List (List Te)} (h : Tzz w a cap m) : m.length ≤ 9223372036854775807 := by
 have h1 := h.1
 have h2 := h.2.1
 unfold maxLen at h2
 omega
def Rii (w : World) (a : Option Addr) (cap : Nat) (m : List (List Int)) : Prop :=
 m.length ≤ cap ∧ cap ≤ maxLen ∧
 ∀ i, i < m.length → ∃ b off a' cap', a = some ⟨b, off, none⟩ ∧ b < w.heap.size ∧ w.cell? ⟨b, off + i, none⟩ = some (.slice a' (m.getD i []).length cap') ∧ Ri w a' cap' (m.getD i [])
theorem Rii.at {w wr : World} {a : Option Addr} {cap : Nat} {m : List (List Int)} (h : Rii w a cap m) (hb : Below w.heap.size w wr) (k : Nat) (hk : k < m.length) :
    ∃ b off a' cap', a = some ⟨b, off, none⟩ ∧ b < w.heap.size ∧ wr.cell? ⟨b, off + k, none⟩ = some (.slice a' (m.getD k []).length cap') ∧ Ri wr a' cap' (m.getD k []) := by
 obtain ⟨b, off, a', cap', h1, h2, h3, h4⟩ := h.2.2 k hk
 exact ⟨b, off, a', cap', h1, h2, (hb.cell (p := ⟨b, off + k, none⟩) h2).trans h3, h4.below hb⟩
theorem Rii.below {w w' : World} {a : Option Addr} {cap : Nat} {m : List (List Int)} (h : Rii w a cap m) (hb : Below w.heap.size w w') : Rii w' a cap m := by
 refine ⟨h.1, h.2.1, fun i hi => ?_⟩
 obtain ⟨b, off, a', cap', h1, h2, h3⟩ := h.at hb i hi
 exact ⟨b, off, a', cap', h1, Nat.lt_of_lt_of_le h2 hb.size, h3⟩
theorem Rii.lenB {w : World} {a : Option Addr} {cap : Nat} {m : List (List Int)} (h : Rii w a cap m) : m.length ≤ 9223372036854775807 := by
 have h1 := h.1
 have h2 := h.2.1
 unfold maxLen at h2
 omega
def BxS (w : World) (g : Nat) (x y : Value) : Prop := w.heap[g]? = some (.cells #[x, y] 26 (0, 0))
theorem BxS.cells {w : World} {g : Nat} {x y : Value} (h : BxS w g x y) :
    w.cell? ⟨g, 0, none⟩ = some x ∧ w.cell? ⟨g, 1, none⟩ = some y ∧ w.frozen? ⟨g, 0, none⟩ = false ∧ w.frozen? ⟨g, 1, none⟩ = false :=
 ⟨cell_of_row w g 0 _ _ (0, 0) h, cell_of_row w g 1 _ _ (0, 0) h, frozen_of_row w g 0 _ _ h, frozen_of_row w g 1 _ _ h⟩
theorem BxS.new (w : World) (x y : Value) : BxS (w.alloc (.cells #[x, y] 26)) w.heap.size x y := heap_alloc_new w _
end Go.Proofs.YtkmcodofnckdmaaGreat
