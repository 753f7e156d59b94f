/-
  Point numbers and changes, number by number (plain mathematics).
  Tuples: their bytes; what is written is read (plain mathematics).
  Glyphs: formed ones, their bytes; what is written is read (plain mathematics).
  How regions, rows and stores lie in a world: read (Tzz, Rii).
  store.isField, allFields, hasRow, Fits: the walks.
  store.Fits, store.Formed: the walks.
-/
import Derived.Test.YtkmcodofnckdmaaGreatZS25
import Derived.Test.YtkmcodofnckdmaaGreatZS13
import Derived.Test.YtkmcodofnckdmaaGreatZS9
import Derived.Test.YtkmcodofnckdmaaGreatZS12
import Derived.Test.YtkmcodofnckdmaaGreatZS5
import Derived.Test.YtkmcodofnckdmaaGreatZS18
set_option maxHeartbeats 2000000
set_option maxRecDepth 100000
set_option linter.unusedSimpArgs false
set_option linter.unusedVariables false
namespace Go.Proofs.YtkmcodofnckdmaaGreat
def g1 (b : List Nat) (p : Nat) : Nat := nmV b (p : Int) 4
def g2 (b : List Nat) (p : Nat) : Nat := p + 4 + g1 b p
def g3 (b : List Nat) (p : Nat) : Nat := nmV b (g2 b p : Int) 4
def g4 (b : List Nat) (p : Nat) : Nat := g2 b p + 4 + g3 b p
open Go.RowKit Go.Maps
def Tzz (w : World) (a : Option Addr) (cap : Nat) (g : List (List Te)) : Prop :=
 g.length ≤ cap ∧ cap ≤ maxLen ∧
 ∀ i, i < g.length → ∃ b off a' cap', a = some ⟨b, off, none⟩ ∧ b < w.heap.size ∧ w.cell? ⟨b, off + i, none⟩ = some (.slice a' (g.getD i []).length cap') ∧ Tz w a' cap' (g.getD i [])
theorem Tzz.at {w wr : World} {a : Option Addr} {cap : Nat} {m : List (List Te)} (h : Tzz w a cap m) (hb : Below w.heap.size w wr) (k : Nat) (hk : k < m.length) :
    ∃ b off a' cap', a = some ⟨b, off, none⟩ ∧ b < w.heap.size ∧ wr.cell? ⟨b, off + k, none⟩ = some (.slice a' (m.getD k []).length cap') ∧ Tz wr a' cap' (m.getD k []) := by
 obtain ⟨b, off, a', cap', h1, h2, h3, h4⟩ := h.2.2 k hk
 exact ⟨b, off, a', cap', h1, h2, (hb.cell (p := ⟨b, off + k, none⟩) h2).trans h3, h4.below hb⟩
theorem Tzz.below {w w' : World} {a : Option Addr} {cap : Nat} {m : List (List Te)} (h : Tzz w a cap m) (hb : Below w.heap.size w w') : Tzz w' a cap m := by
 refine ⟨h.1, h.2.1, fun i hi => ?_⟩
 obtain ⟨b, off, a', cap', h1, h2, h3⟩ := h.at hb i hi
 exact ⟨b, off, a', cap', h1, Nat.lt_of_lt_of_le h2 hb.size, h3⟩
theorem Tzz.lenB {w : World} {a : Option Addr} {cap : Nat} {m : List (List Te)} (h : Tzz w a cap m) : m.length ≤ 9223372036854775807 := by
 have h1 := h.1
 have h2 := h.2.1
 unfold maxLen at h2
 omega
def Rii (w : World) (a : Option Addr) (cap : Nat) (m : List (List Int)) : Prop :=
 m.length ≤ cap ∧ cap ≤ maxLen ∧
 ∀ i, i < m.length → ∃ b off a' cap', a = some ⟨b, off, none⟩ ∧ b < w.heap.size ∧ w.cell? ⟨b, off + i, none⟩ = some (.slice a' (m.getD i []).length cap') ∧ Ri w a' cap' (m.getD i [])
theorem Rii.at {w wr : World} {a : Option Addr} {cap : Nat} {m : List (List Int)} (h : Rii w a cap m) (hb : Below w.heap.size w wr) (k : Nat) (hk : k < m.length) :
    ∃ b off a' cap', a = some ⟨b, off, none⟩ ∧ b < w.heap.size ∧ wr.cell? ⟨b, off + k, none⟩ = some (.slice a' (m.getD k []).length cap') ∧ Ri wr a' cap' (m.getD k []) := by
 obtain ⟨b, off, a', cap', h1, h2, h3, h4⟩ := h.2.2 k hk
 exact ⟨b, off, a', cap', h1, h2, (hb.cell (p := ⟨b, off + k, none⟩) h2).trans h3, h4.below hb⟩
theorem Rii.below {w w' : World} {a : Option Addr} {cap : Nat} {m : List (List Int)} (h : Rii w a cap m) (hb : Below w.heap.size w w') : Rii w' a cap m := by
 refine ⟨h.1, h.2.1, fun i hi => ?_⟩
 obtain ⟨b, off, a', cap', h1, h2, h3⟩ := h.at hb i hi
 exact ⟨b, off, a', cap', h1, Nat.lt_of_lt_of_le h2 hb.size, h3⟩
theorem Rii.lenB {w : World} {a : Option Addr} {cap : Nat} {m : List (List Int)} (h : Rii w a cap m) : m.length ≤ 9223372036854775807 := by
 have h1 := h.1
 have h2 := h.2.1
 unfold maxLen at h2
 omega
def BxS (w : World) (g : Nat) (x y : Value) : Prop := w.heap[g]? = some (.cells #[x, y] 26 (0, 0))
theorem BxS.cells {w : World} {g : Nat} {x y : Value} (h : BxS w g x y) :
    w.cell? ⟨g, 0, none⟩ = some x ∧ w.cell? ⟨g, 1, none⟩ = some y ∧ w.frozen? ⟨g, 0, none⟩ = false ∧ w.frozen? ⟨g, 1, none⟩ = false :=
 ⟨cell_of_row w g 0 _ _ (0, 0) h, cell_of_row w g 1 _ _ (0, 0) h, frozen_of_row w g 0 _ _ h, frozen_of_row w g 1 _ _ h⟩
theorem BxS.lt {w : World} {g : Nat} {x y : Value} (h : BxS w g x y) : g < w.heap.size := (Array.getElem?_eq_some_iff.1 h).1
theorem BxS.below {w w' : World} {g : Nat} {x y : Value} (h : BxS w g x y) (hb : Below w.heap.size w w') : BxS w' g x y := (hb.block g h.lt).trans h
theorem BxS.new (w : World) (x y : Value) : BxS (w.alloc (.cells #[x, y] 26)) w.heap.size x y := heap_alloc_new w _
def BxL (w : World) (g : Nat) (x y : Value) : Prop := w.heap[g]? = some (.cells #[x, y] 60 (0, 0))
theorem BxL.cells {w : World} {g : Nat} {x y : Value} (h : BxL w g x y) :
    w.cell? ⟨g, 0, none⟩ = some x ∧ w.cell? ⟨g, 1, none⟩ = some y ∧ w.frozen? ⟨g, 0, none⟩ = false ∧ w.frozen? ⟨g, 1, none⟩ = false :=
 ⟨cell_of_row w g 0 _ _ (0, 0) h, cell_of_row w g 1 _ _ (0, 0) h, frozen_of_row w g 0 _ _ h, frozen_of_row w g 1 _ _ h⟩
theorem BxL.lt {w : World} {g : Nat} {x y : Value} (h : BxL w g x y) : g < w.heap.size := (Array.getElem?_eq_some_iff.1 h).1
theorem BxL.below {w w' : World} {g : Nat} {x y : Value} (h : BxL w g x y) (hb : Below w.heap.size w w') : BxL w' g x y := (hb.block g h.lt).trans h
theorem BxL.new (w : World) (x y : Value) : BxL (w.alloc (.cells #[x, y] 60)) w.heap.size x y := heap_alloc_new w _
theorem BxL.new1 (w : World) (o : Obj) (x y : Value) : BxL ((w.alloc o).alloc (.cells #[x, y] 60)) (w.heap.size + 1) x y := by
 have h := BxL.new (w.alloc o) x y
 simpa using h
theorem wrap16_fd (z : Int) : (IntKind.i16.wrap z == z) = fdB z := by
 rw [wrap_i16, fdB, Bool.eq_iff_iff, beq_iff_eq, decide_eq_true_iff]
 split <;> omega
theorem cisField_any (z : Int) (w : World) (hz : I64 z) :
    Calls Tryz.prog 105 #[.int .i64 z] w fun e w' => e = .returned (.bool (fdB z)) ∧ w = w' := by
 have HE : Hid ((IntKind.i16.wrap z == z) = fdB z) := wrap16_fd z
 have h1 : IntKind.i64.wrap (IntKind.i16.wrap z) = IntKind.i16.wrap z := by rw [wrap_i16]; simp only [IntKind.wrap, IntKind.bits, IntKind.signed]; split <;> (simp; omega)
 go_enter Tryz.func105, Tryz.ntmps105
 go_wp2
 go_ret
 exact ⟨rt_bool HE.out, rfl⟩
def hrB (s : Sr) (i : Int) : Bool := decide (0 ≤ i) && decide (i < (s.rw.length : Int))
theorem chasRow_any (x : Value) (b : Option Addr) (cb : Nat) (s : Sr) (i : Int) (w : World) (hl : s.rw.length ≤ 9223372036854775807) (hx : x.oneCell' = true) :
    Calls Tryz.prog 106 #[.agg #[x, .slice b s.rw.length cb], .int .i64 i] w fun e w' => e = .returned (.bool (hrB s i)) ∧ Below w.heap.size w w' := by
 by_cases h1 : 0 ≤ i
 · have g1 : decide (0 ≤ i) = true := decide_eq_true h1
   have HE : Hid (hrB s i = decide (i < (s.rw.length : Int))) := by show _ = _; rw [hrB, g1, Bool.true_and]
   go_enter Tryz.func106, Tryz.ntmps106
   go_wp2
   go_ret
   exact ⟨rt_bool HE.out.symm, bl1 _⟩
 · have g1 : decide (0 ≤ i) = false := decide_eq_false h1
   have HE : Hid (hrB s i = false) := by show _ = _; rw [hrB, g1, Bool.false_and]
   go_enter Tryz.func106, Tryz.ntmps106
   go_wp2
   go_ret
   exact ⟨rt_bool HE.out.symm, bl1 _⟩
theorem cfits_any (a : Option Addr) (ca : Nat) (b : Option Addr) (cb : Nat) (s : Sr) (x r : Int) (w : World) (hl : s.rw.length ≤ 9223372036854775807) (hx : I64 x) (hr : I64 r) :
    Calls Tryz.prog 59 #[.agg #[.slice a s.rg.length ca, .slice b s.rw.length cb], .agg #[.int .i64 x, .int .i64 r]] w fun e w' => e = .returned (.bool (fiS s x r)) ∧ Below w.heap.size w w' := by
 obtain ⟨W, hW, X1, X2, hbW⟩ : ∃ W, W = (w.alloc (.cells #[.slice a s.rg.length ca, .slice b s.rw.length cb] 26)).alloc (.cells #[.int .i64 x, .int .i64 r] 60) ∧
     BxS W w.heap.size (.slice a s.rg.length ca) (.slice b s.rw.length cb) ∧ BxL W (w.heap.size + 1) (.int .i64 x) (.int .i64 r) ∧ Below w.heap.size w W := ⟨_, rfl, (BxS.new _ _ _).below (bl1 _), BxL.new1 _ _ _ _, bl2 _ _⟩
 have hif := fun U => cisField_any x U hx
 have hhr := fun U => chasRow_any (.slice a s.rg.length ca) b cb s r U hl rfl
 cases hf : fdB x with
 | false =>
  have HE : Hid (fiS s x r = false) := by show _ = _; rw [fiS, hf, Bool.false_and]
  simp only [hf] at hif
  clear hf
  go_enter Tryz.func59, Tryz.ntmps59
  go_wp2_with fail
  rw [← hW]; clear hW
  refine (hif _).mono ?_
  rintro e u1 ⟨rfl, rfl⟩; obtain ⟨c0, c1, _⟩ := X1.cells; obtain ⟨d0, d1, _⟩ := X2.cells; go_wp2
  go_ret
  exact ⟨rt_bool HE.out.symm, hbW⟩
 | true =>
  simp only [hf] at hif
  by_cases h1 : r = -1
  · have HE : Hid (fiS s x r = true) := by show _ = _; rw [fiS, hf, Bool.true_and, decide_eq_true h1, Bool.true_or]
    have g1 : (r == -1) = true := by simp [h1]
    clear hf h1
    go_enter Tryz.func59, Tryz.ntmps59
    go_wp2_with fail
    rw [← hW]; clear hW
    refine (hif _).mono ?_
    rintro e u1 ⟨rfl, rfl⟩; obtain ⟨c0, c1, _⟩ := X1.cells; obtain ⟨d0, d1, _⟩ := X2.cells; go_wp2
    go_ret
    exact ⟨rt_bool HE.out.symm, hbW⟩
  · have g1 : (r == -1) = false := by simp [h1]
    have HE : Hid (fiS s x r = (hrB s r && decide (r < 400))) := by show _ = _; rw [fiS, hf, Bool.true_and, decide_eq_false h1, Bool.false_or, hrB, Bool.and_assoc]
    clear hf h1
    cases hh : hrB s r with
    | false =>
     have HE2 : Hid (fiS s x r = false) := by show _ = _; rw [HE.out, hh, Bool.false_and]
     simp only [hh] at hhr
     clear hh
     go_enter Tryz.func59, Tryz.ntmps59
     go_wp2_with fail
     rw [← hW]; clear hW
     refine (hif _).mono ?_
     rintro e u1 ⟨rfl, rfl⟩; obtain ⟨c0, c1, _⟩ := X1.cells; obtain ⟨d0, d1, _⟩ := X2.cells
     go_wp2_with fail
     refine (hhr _).mono ?_
     rintro e u2 ⟨rfl, hb2⟩; replace X2 := X2.below hb2
     replace hbW := hbW.trans (hb2.mono hbW.size)
     clear c0 c1 d0 d1 hb2; obtain ⟨d0, d1, _⟩ := X2.cells; go_wp2
     go_ret
     exact ⟨rt_bool HE2.out.symm, hbW⟩
    | true =>
     have HE2 : Hid (fiS s x r = decide (r < 400)) := by show _ = _; rw [HE.out, hh, Bool.true_and]
     simp only [hh] at hhr
     clear hh
     go_enter Tryz.func59, Tryz.ntmps59
     go_wp2_with fail
     rw [← hW]; clear hW
     refine (hif _).mono ?_
     rintro e u1 ⟨rfl, rfl⟩; obtain ⟨c0, c1, _⟩ := X1.cells; obtain ⟨d0, d1, _⟩ := X2.cells
     go_wp2_with fail
     refine (hhr _).mono ?_
     rintro e u2 ⟨rfl, hb2⟩; replace X2 := X2.below hb2
     replace hbW := hbW.trans (hb2.mono hbW.size)
     clear c0 c1 d0 d1 hb2; obtain ⟨d0, d1, _⟩ := X2.cells; go_wp2
     go_ret
     exact ⟨rt_bool HE2.out.symm, hbW⟩
end Go.Proofs.YtkmcodofnckdmaaGreat
