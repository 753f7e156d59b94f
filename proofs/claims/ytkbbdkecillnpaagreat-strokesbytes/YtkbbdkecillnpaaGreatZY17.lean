/-
  How regions, rows and stores lie in a world: read (Tzz, Rii).
  store.isField, allFields, hasRow, Fits: the walks.
  tents.rises, turned: the walks.
  tents.Formed, tents.coordinateOf: the walks.
  tents.Region, tents.Everywhere, tents.Peak: the walks.
-/
import Derived.Test.YtkbbdkecillnpaaGreatZY16
import Derived.Test.YtkbbdkecillnpaaGreatZY15
import Derived.Laws.MakeOwn
namespace Go.Proofs.YtkbbdkecillnpaaGreat
open Go.RowKit Go.Maps
set_option linter.unusedSimpArgs false
set_option linter.unusedVariables false

/-- Regions that are read. -/
def Tzz (w : World) (a : Option Addr) (cap : Nat) (g : List (List Te)) : Prop :=
  g.length ≤ cap ∧ cap ≤ maxLen ∧
  ∀ i, i < g.length → ∃ b off a' cap', a = some ⟨b, off, none⟩ ∧ b < w.heap.size ∧ w.cell? ⟨b, off + i, none⟩ = some (.slice a' (g.getD i []).length cap') ∧ Tz w a' cap' (g.getD i [])
theorem Tzz.at {w wr : World} {a : Option Addr} {cap : Nat} {m : List (List Te)} (h : Tzz w a cap m) (hb : Below w.heap.size w wr) (k : Nat) (hk : k < m.length) :
    ∃ b off a' cap', a = some ⟨b, off, none⟩ ∧ b < w.heap.size ∧ wr.cell? ⟨b, off + k, none⟩ = some (.slice a' (m.getD k []).length cap') ∧ Tz wr a' cap' (m.getD k []) := by
  obtain ⟨b, off, a', cap', h1, h2, h3, h4⟩ := h.2.2 k hk
  exact ⟨b, off, a', cap', h1, h2, (hb.cell (p := ⟨b, off + k, none⟩) h2).trans h3, h4.below hb⟩
theorem Tzz.below {w w' : World} {a : Option Addr} {cap : Nat} {m : List (List Te)} (h : Tzz w a cap m) (hb : Below w.heap.size w w') : Tzz w' a cap m := by
  refine ⟨h.1, h.2.1, fun i hi => ?_⟩
  obtain ⟨b, off, a', cap', h1, h2, h3⟩ := h.at hb i hi
  exact ⟨b, off, a', cap', h1, Nat.lt_of_lt_of_le h2 hb.size, h3⟩
theorem Tzz.nil (w : World) (a : Option Addr) (cap : Nat) (h : cap ≤ maxLen) : Tzz w a cap [] := ⟨Nat.zero_le _, h, fun i hi => by simp at hi⟩
theorem Tzz.lenB {w : World} {a : Option Addr} {cap : Nat} {m : List (List Te)} (h : Tzz w a cap m) : m.length ≤ 9223372036854775807 := by
  have h1 := h.1
  have h2 := h.2.1
  unfold maxLen at h2
  omega

/-- Rows of numbers that are read. -/
def Rii (w : World) (a : Option Addr) (cap : Nat) (m : List (List Int)) : Prop :=
  m.length ≤ cap ∧ cap ≤ maxLen ∧
  ∀ i, i < m.length → ∃ b off a' cap', a = some ⟨b, off, none⟩ ∧ b < w.heap.size ∧ w.cell? ⟨b, off + i, none⟩ = some (.slice a' (m.getD i []).length cap') ∧ Ri w a' cap' (m.getD i [])
theorem Rii.at {w wr : World} {a : Option Addr} {cap : Nat} {m : List (List Int)} (h : Rii w a cap m) (hb : Below w.heap.size w wr) (k : Nat) (hk : k < m.length) :
    ∃ b off a' cap', a = some ⟨b, off, none⟩ ∧ b < w.heap.size ∧ wr.cell? ⟨b, off + k, none⟩ = some (.slice a' (m.getD k []).length cap') ∧ Ri wr a' cap' (m.getD k []) := by
  obtain ⟨b, off, a', cap', h1, h2, h3, h4⟩ := h.2.2 k hk
  exact ⟨b, off, a', cap', h1, h2, (hb.cell (p := ⟨b, off + k, none⟩) h2).trans h3, h4.below hb⟩
theorem Rii.below {w w' : World} {a : Option Addr} {cap : Nat} {m : List (List Int)} (h : Rii w a cap m) (hb : Below w.heap.size w w') : Rii w' a cap m := by
  refine ⟨h.1, h.2.1, fun i hi => ?_⟩
  obtain ⟨b, off, a', cap', h1, h2, h3⟩ := h.at hb i hi
  exact ⟨b, off, a', cap', h1, Nat.lt_of_lt_of_le h2 hb.size, h3⟩
theorem Rii.nil (w : World) (a : Option Addr) (cap : Nat) (h : cap ≤ maxLen) : Rii w a cap [] := ⟨Nat.zero_le _, h, fun i hi => by simp at hi⟩
theorem Rii.lenB {w : World} {a : Option Addr} {cap : Nat} {m : List (List Int)} (h : Rii w a cap m) : m.length ≤ 9223372036854775807 := by
  have h1 := h.1
  have h2 := h.2.1
  unfold maxLen at h2
  omega
theorem Rii.lens {w : World} {a : Option Addr} {cap : Nat} {m : List (List Int)} (h : Rii w a cap m) (k : Nat) (hk : k < m.length) : (m.getD k []).length ≤ 9223372036854775807 := by
  obtain ⟨_, _, _, _, _, _, _, h4⟩ := h.2.2 k hk
  exact h4.lenB

/-- A store's block: two slices. -/
def BxS (w : World) (g : Nat) (x y : Value) : Prop := w.heap[g]? = some (.cells #[x, y] 26 (0, 0))
theorem BxS.cells {w : World} {g : Nat} {x y : Value} (h : BxS w g x y) :
    w.cell? ⟨g, 0, none⟩ = some x ∧ w.cell? ⟨g, 1, none⟩ = some y ∧ w.frozen? ⟨g, 0, none⟩ = false ∧ w.frozen? ⟨g, 1, none⟩ = false :=
  ⟨cell_of_row w g 0 _ _ (0, 0) h, cell_of_row w g 1 _ _ (0, 0) h, frozen_of_row w g 0 _ _ h, frozen_of_row w g 1 _ _ h⟩
theorem BxS.set0 {w : World} {g : Nat} {x y : Value} (h : BxS w g x y) (z : Value) : BxS (w.setCell ⟨g, 0, none⟩ z) g z y := heap_setCell_same w g 0 _ _ z h
theorem BxS.set1 {w : World} {g : Nat} {x y : Value} (h : BxS w g x y) (z : Value) : BxS (w.setCell ⟨g, 1, none⟩ z) g x z := heap_setCell_same w g 1 _ _ z h
theorem BxS.lt {w : World} {g : Nat} {x y : Value} (h : BxS w g x y) : g < w.heap.size := (Array.getElem?_eq_some_iff.1 h).1
theorem BxS.below {w w' : World} {g : Nat} {x y : Value} (h : BxS w g x y) (hb : Below w.heap.size w w') : BxS w' g x y := (hb.block g h.lt).trans h
theorem BxS.new (w : World) (x y : Value) : BxS (w.alloc (.cells #[x, y] 26)) w.heap.size x y := heap_alloc_new w _
/-- A slot's block: two numbers. -/
def BxL (w : World) (g : Nat) (x y : Value) : Prop := w.heap[g]? = some (.cells #[x, y] 79 (0, 0))
theorem BxL.cells {w : World} {g : Nat} {x y : Value} (h : BxL w g x y) :
    w.cell? ⟨g, 0, none⟩ = some x ∧ w.cell? ⟨g, 1, none⟩ = some y ∧ w.frozen? ⟨g, 0, none⟩ = false ∧ w.frozen? ⟨g, 1, none⟩ = false :=
  ⟨cell_of_row w g 0 _ _ (0, 0) h, cell_of_row w g 1 _ _ (0, 0) h, frozen_of_row w g 0 _ _ h, frozen_of_row w g 1 _ _ h⟩
theorem BxL.lt {w : World} {g : Nat} {x y : Value} (h : BxL w g x y) : g < w.heap.size := (Array.getElem?_eq_some_iff.1 h).1
theorem BxL.below {w w' : World} {g : Nat} {x y : Value} (h : BxL w g x y) (hb : Below w.heap.size w w') : BxL w' g x y := (hb.block g h.lt).trans h
theorem BxL.new (w : World) (x y : Value) : BxL (w.alloc (.cells #[x, y] 79)) w.heap.size x y := heap_alloc_new w _
theorem BxL.new1 (w : World) (o : Obj) (x y : Value) : BxL ((w.alloc o).alloc (.cells #[x, y] 79)) (w.heap.size + 1) x y := by
  have h := BxL.new (w.alloc o) x y
  simpa using h

end Go.Proofs.YtkbbdkecillnpaaGreat

namespace Go.Proofs.YtkbbdkecillnpaaGreat
open Go.RowKit Go.Maps
set_option linter.unusedSimpArgs false
set_option linter.unusedVariables false

theorem wrap16_fd (z : Int) : (IntKind.i16.wrap z == z) = fdB z := by
  rw [wrap_i16, fdB, Bool.eq_iff_iff, beq_iff_eq, decide_eq_true_iff]
  split <;> omega
set_option maxHeartbeats 400000 in
set_option maxRecDepth 100000 in
theorem cisField_any (z : Int) (w : World) (hz : I64 z) :
    Calls Tryz.prog 60 #[.int .i64 z] w fun e w' => e = .returned (.bool (fdB z)) ∧ w = w' := by
  have HE : Hid ((IntKind.i16.wrap z == z) = fdB z) := wrap16_fd z
  have h1 : IntKind.i64.wrap (IntKind.i16.wrap z) = IntKind.i16.wrap z := by rw [wrap_i16]; simp only [IntKind.wrap, IntKind.bits, IntKind.signed]; split <;> (simp; omega)
  go_enter Tryz.func60, Tryz.ntmps60
  go_wp2
  go_ret
  exact ⟨rt_bool HE.out, rfl⟩

theorem all_noI {r : List Int} {k : Nat} (hk : k < r.length) (h : fdB (r.getD k 0) = false) : r.all fdB = false := by
  rw [Bool.eq_false_iff]
  intro e
  have := List.all_eq_true.1 e (r.getD k 0) (by rw [List.getD_eq_getElem?_getD, List.getElem?_eq_getElem hk]; exact List.getElem_mem hk)
  rw [h] at this
  cases this
theorem all_yesI {r : List Int} (h : ∀ j, j < r.length → fdB (r.getD j 0) = true) : r.all fdB = true := by
  rw [List.all_eq_true]
  intro z hz
  obtain ⟨i, hi, e⟩ := List.getElem_of_mem hz
  have := h i hi
  rw [List.getD_eq_getElem?_getD, List.getElem?_eq_getElem hi] at this
  rw [← e]
  exact this

/-- Whether a number is a row's. -/
def hrB (s : Sr) (i : Int) : Bool := decide (0 ≤ i) && decide (i < (s.rw.length : Int))
set_option maxHeartbeats 1000000 in
set_option maxRecDepth 100000 in
theorem chasRow_any (x : Value) (b : Option Addr) (cb : Nat) (s : Sr) (i : Int) (w : World) (hl : s.rw.length ≤ 9223372036854775807) (hx : x.oneCell' = true) :
    Calls Tryz.prog 61 #[.agg #[x, .slice b s.rw.length cb], .int .i64 i] w fun e w' => e = .returned (.bool (hrB s i)) ∧ Below w.heap.size w w' := by
  by_cases h1 : 0 ≤ i
  · have g1 : decide (0 ≤ i) = true := decide_eq_true h1
    have HE : Hid (hrB s i = decide (i < (s.rw.length : Int))) := by show _ = _; rw [hrB, g1, Bool.true_and]
    go_enter Tryz.func61, Tryz.ntmps61
    go_wp2
    go_ret
    exact ⟨rt_bool HE.out.symm, bl1 _⟩
  · have g1 : decide (0 ≤ i) = false := decide_eq_false h1
    have HE : Hid (hrB s i = false) := by show _ = _; rw [hrB, g1, Bool.false_and]
    go_enter Tryz.func61, Tryz.ntmps61
    go_wp2
    go_ret
    exact ⟨rt_bool HE.out.symm, bl1 _⟩

end Go.Proofs.YtkbbdkecillnpaaGreat

namespace Go.Proofs.YtkbbdkecillnpaaGreat
open Go.RowKit Go.Maps
set_option linter.unusedSimpArgs false
set_option linter.unusedVariables false

/-- A tent that rises above 0. -/
def riB (t : Te) : Bool := decide (0 ≤ t.st) && (decide (t.st < t.pk) && (decide (t.pk < t.en) || (t.pk == 16384 && t.en == 16384)))

set_option maxHeartbeats 1000000 in
set_option maxRecDepth 100000 in
theorem rises_any (t : Te) (w : World) :
    Calls Tryz.prog 149 #[.agg #[.int .i64 t.st, .int .i64 t.pk, .int .i64 t.en]] w fun e w' => e = .returned (.bool (riB t)) ∧ Below w.heap.size w w' := by
  obtain ⟨st, pk, en⟩ := t
  simp only [riB]
  by_cases h1 : 0 ≤ st
  · have g1 : decide (0 ≤ st) = true := decide_eq_true h1
    rw [g1]
    by_cases h2 : st < pk
    · have g2 : decide (st < pk) = true := decide_eq_true h2
      rw [g2]
      by_cases h3 : pk < en
      · have g3 : decide (pk < en) = true := decide_eq_true h3
        rw [g3]
        go_enter Tryz.func149, Tryz.ntmps149
        go_wp2
        go_ret
        exact ⟨rt_bool (by simp), al1 _⟩
      · have g3 : decide (pk < en) = false := decide_eq_false h3
        rw [g3]
        by_cases h4 : pk = 16384
        · have g4 : (pk == 16384) = true := by simp [h4]
          rw [g4]
          clear h4
          go_enter Tryz.func149, Tryz.ntmps149
          go_wp2
          go_ret
          exact ⟨rt_bool (by simp), al1 _⟩
        · have g4 : (pk == 16384) = false := by simp [h4]
          rw [g4]
          clear h4
          go_enter Tryz.func149, Tryz.ntmps149
          go_wp2
          go_ret
          exact ⟨rt_bool (by simp), al1 _⟩
    · have g2 : decide (st < pk) = false := decide_eq_false h2
      rw [g2]
      go_enter Tryz.func149, Tryz.ntmps149
      go_wp2
      go_ret
      exact ⟨rt_bool (by simp), al1 _⟩
  · have g1 : decide (0 ≤ st) = false := decide_eq_false h1
    rw [g1]
    go_enter Tryz.func149, Tryz.ntmps149
    go_wp2
    go_ret
    exact ⟨rt_bool (by simp), al1 _⟩

set_option maxHeartbeats 1000000 in
set_option maxRecDepth 100000 in
theorem turned_any (t : Te) (w : World) (h1 : crd t.st = true) (h2 : crd t.pk = true) (h3 : crd t.en = true) :
    Calls Tryz.prog 150 #[.agg #[.int .i64 t.st, .int .i64 t.pk, .int .i64 t.en]] w fun e w' => e = .returned (.agg #[.int .i64 (-t.en), .int .i64 (-t.pk), .int .i64 (-t.st)]) ∧ Below w.heap.size w w' := by
  obtain ⟨st, pk, en⟩ := t
  rw [crdT] at h1 h2 h3
  dsimp only at *
  have k1 : IntKind.i64.wrap (-en) = -en := wrapi64 (by omega) (by omega)
  have k2 : IntKind.i64.wrap (-pk) = -pk := wrapi64 (by omega) (by omega)
  have k3 : IntKind.i64.wrap (-st) = -st := wrapi64 (by omega) (by omega)
  go_enter Tryz.func150, Tryz.ntmps150
  go_wp2
  exact bodyPost_ret (v := .agg #[.int .i64 (-en), .int .i64 (-pk), .int .i64 (-st)]) (by simp [results, Tryz.results150, go_sem]) rfl ⟨rfl, al2 _ _⟩

end Go.Proofs.YtkbbdkecillnpaaGreat

namespace Go.Proofs.YtkbbdkecillnpaaGreat
open Go.RowKit Go.Maps
set_option linter.unusedSimpArgs false
set_option linter.unusedVariables false

theorem riB_iff {t : Te} : riB t = true ↔ (0 ≤ t.st ∧ t.st < t.pk ∧ (t.pk < t.en ∨ (t.pk = 16384 ∧ t.en = 16384))) := by
  simp [riB]
/-- As the code asks it. -/
theorem tfB_neg {t : Te} (h1 : crd t.st = true) (h2 : crd t.pk = true) (h3 : crd t.en = true) (h : t.pk < 0) : riB ⟨-t.en, -t.pk, -t.st⟩ = tfB t := by
  rw [crdT] at h1 h2 h3
  rw [Bool.eq_iff_iff, riB_iff, tfB_iff]
  unfold TfT
  dsimp only
  omega
theorem tfB_pos {t : Te} (h1 : crd t.st = true) (h2 : crd t.pk = true) (h3 : crd t.en = true) (h : ¬ t.pk < 0) (hz : ¬ (t.st = 0 ∧ t.pk = 0 ∧ t.en = 0)) : riB t = tfB t := by
  rw [crdT] at h1 h2 h3
  rw [Bool.eq_iff_iff, riB_iff, tfB_iff]
  unfold TfT
  omega

set_option maxHeartbeats 2000000 in
set_option maxRecDepth 100000 in
theorem cformT_any (t : Te) (w : World) :
    Calls Tryz.prog 135 #[.agg #[.int .i64 t.st, .int .i64 t.pk, .int .i64 t.en]] w fun e w' => e = .returned (.bool (tfB t)) ∧ Below w.heap.size w w' := by
  obtain ⟨W, hW, X1, hbW⟩ : ∃ W, W = w.alloc (.cells #[.int .i64 t.st, .int .i64 t.pk, .int .i64 t.en] 166) ∧ Box 166 W w.heap.size (.int .i64 t.st) (.int .i64 t.pk) (.int .i64 t.en) ∧ Below w.heap.size w W := ⟨_, rfl, Box.new _ _ _ _ _, al1 _⟩
  cases c1 : crd t.st with
  | false =>
    have HF : Hid (tfB t = false) := tfB_no (fun h => by rw [crdT.2 h.1] at c1; cases c1)
    obtain ⟨st, pk, en⟩ := t
    dsimp only at *
    go_enter Tryz.func135, Tryz.ntmps135
    go_wp2_with fail
    refine (coord_any st _).mono ?_
    rintro e u1 ⟨rfl, rfl⟩
    rw [c1]
    go_wp2
    go_ret
    exact ⟨rt_bool HF.out.symm, hW ▸ hbW⟩
  | true =>
    cases c2 : crd t.pk with
    | false =>
      have HF : Hid (tfB t = false) := tfB_no (fun h => by rw [crdT.2 h.2.1] at c2; cases c2)
      obtain ⟨st, pk, en⟩ := t
      dsimp only at *
      go_enter Tryz.func135, Tryz.ntmps135
      go_wp2_with fail
      refine (coord_any st _).mono ?_
      rintro e u1 ⟨rfl, rfl⟩
      rw [c1]
      go_wp2_with fail
      refine (coord_any pk _).mono ?_
      rintro e u1 ⟨rfl, rfl⟩
      rw [c2]
      go_wp2
      go_ret
      exact ⟨rt_bool HF.out.symm, hW ▸ hbW⟩
    | true =>
      cases c3 : crd t.en with
      | false =>
        have HF : Hid (tfB t = false) := tfB_no (fun h => by rw [crdT.2 h.2.2.1] at c3; cases c3)
        obtain ⟨st, pk, en⟩ := t
        dsimp only at *
        go_enter Tryz.func135, Tryz.ntmps135
        go_wp2_with fail
        refine (coord_any st _).mono ?_
        rintro e u1 ⟨rfl, rfl⟩
        rw [c1]
        go_wp2_with fail
        refine (coord_any pk _).mono ?_
        rintro e u1 ⟨rfl, rfl⟩
        rw [c2]
        go_wp2_with fail
        refine (coord_any en _).mono ?_
        rintro e u1 ⟨rfl, rfl⟩
        rw [c3]
        go_wp2
        go_ret
        exact ⟨rt_bool HF.out.symm, hW ▸ hbW⟩
      | true =>
        by_cases hn : t.pk < 0
        · have HF : Hid (riB ⟨-t.en, -t.pk, -t.st⟩ = tfB t) := tfB_neg c1 c2 c3 hn
          have ht := fun U => turned_any t U c1 c2 c3
          have hr := fun U => rises_any ⟨-t.en, -t.pk, -t.st⟩ U
          obtain ⟨st, pk, en⟩ := t
          dsimp only at *
          go_enter Tryz.func135, Tryz.ntmps135
          go_wp2_with fail
          rw [← hW]
          clear hW
          refine (coord_any st _).mono ?_
          rintro e u1 ⟨rfl, rfl⟩
          rw [c1]
          obtain ⟨p0, p1, p2, _⟩ := X1.cells
          go_wp2_with fail
          refine (coord_any pk _).mono ?_
          rintro e u1 ⟨rfl, rfl⟩
          rw [c2]
          go_wp2_with fail
          refine (coord_any en _).mono ?_
          rintro e u1 ⟨rfl, rfl⟩
          rw [c3]
          clear c1 c2 c3
          go_wp2_with fail
          refine (ht _).mono ?_
          rintro e u1 ⟨rfl, hb1⟩
          replace hbW := hbW.trans (hb1.mono hbW.size)
          clear ht hb1 p0 p1 p2
          go_wp2_with fail
          refine (hr _).mono ?_
          rintro e u2 ⟨rfl, hb2⟩
          rw [HF.out]
          replace hbW := hbW.trans (hb2.mono hbW.size)
          clear hr hb2
          go_wp2
          go_ret
          exact ⟨rfl, hbW⟩
        · have HF : Hid (¬ (t.st = 0 ∧ t.pk = 0 ∧ t.en = 0) → riB t = tfB t) := tfB_pos c1 c2 c3 hn
          have HZ : Hid (t.st = 0 ∧ t.pk = 0 ∧ t.en = 0 → tfB t = true) := fun h => by
            rw [tfB_iff]
            unfold TfT
            omega
          have hr := fun U => rises_any t U
          obtain ⟨st, pk, en⟩ := t
          dsimp only at *
          go_enter Tryz.func135, Tryz.ntmps135
          go_wp2_with fail
          rw [← hW]
          clear hW
          refine (coord_any st _).mono ?_
          rintro e u1 ⟨rfl, rfl⟩
          rw [c1]
          obtain ⟨p0, p1, p2, _⟩ := X1.cells
          go_wp2_with fail
          refine (coord_any pk _).mono ?_
          rintro e u1 ⟨rfl, rfl⟩
          rw [c2]
          go_wp2_with fail
          refine (coord_any en _).mono ?_
          rintro e u1 ⟨rfl, rfl⟩
          rw [c3]
          clear c1 c2 c3
          by_cases s0 : st = 0
          · subst s0
            by_cases q0 : pk = 0
            · subst q0
              by_cases e0 : en = 0
              · subst e0
                go_wp2
                go_ret
                exact ⟨rt_bool (HZ.out (by simp)).symm, hbW⟩
              · go_wp2_with fail
                refine (hr _).mono ?_
                rintro e u2 ⟨rfl, hb2⟩
                rw [HF.out (by omega)]
                replace hbW := hbW.trans (hb2.mono hbW.size)
                clear hr hb2
                go_wp2
                go_ret
                exact ⟨rfl, hbW⟩
            · go_wp2_with fail
              refine (hr _).mono ?_
              rintro e u2 ⟨rfl, hb2⟩
              rw [HF.out (by omega)]
              replace hbW := hbW.trans (hb2.mono hbW.size)
              clear hr hb2
              go_wp2
              go_ret
              exact ⟨rfl, hbW⟩
          · go_wp2_with fail
            refine (hr _).mono ?_
            rintro e u2 ⟨rfl, hb2⟩
            rw [HF.out (by omega)]
            replace hbW := hbW.trans (hb2.mono hbW.size)
            clear hr hb2
            go_wp2
            go_ret
            exact ⟨rfl, hbW⟩

set_option maxHeartbeats 1000000 in
set_option maxRecDepth 100000 in
theorem coordOf_any (a : Option Addr) (cap : Nat) (cs : List Int) (k : Nat) (w : World) (h : Ri w a cap cs) (hk : k ≤ 1000000) :
    Calls Tryz.prog 111 #[.slice a cs.length cap, .int .i64 (k : Int)] w fun e w' => e = .returned (.int .i64 (cs.getD k 0)) ∧ Below w.heap.size w w' := by
  have k1 := h.lenB
  by_cases hkn : k < cs.length
  · obtain ⟨b, off, ea, hb, d0⟩ := h.at (Below.refl _ _) k hkn
    subst ea
    have g1 : (k : Int) < (cs.length : Int) := by omega
    generalize cs.getD k 0 = z at *
    clear h
    go_enter Tryz.func111, Tryz.ntmps111
    go_wp2
    go_ret
    exact ⟨rfl, Below.refl _ _⟩
  · have g1 : ¬ (k : Int) < (cs.length : Int) := by omega
    have HZ : Hid (cs.getD k 0 = 0) := by show _ = _; rw [List.getD_eq_getElem?_getD, List.getElem?_eq_none (by omega)]; rfl
    clear h
    go_enter Tryz.func111, Tryz.ntmps111
    go_wp2
    go_ret
    exact ⟨rt_int (by first | rfl | exact HZ.out.symm), Below.refl _ _⟩

end Go.Proofs.YtkbbdkecillnpaaGreat

namespace Go.Proofs.YtkbbdkecillnpaaGreat
open Go.RowKit Go.Maps
set_option linter.unusedSimpArgs false
set_option linter.unusedVariables false

theorem all_noT {l : List Te} {p : Te → Bool} {k : Nat} (hk : k < l.length) (h : p (l.getD k Te.none) = false) : l.all p = false := by
  rw [Bool.eq_false_iff]
  intro e
  have := allT.1 e k hk
  rw [h] at this
  cases this

end Go.Proofs.YtkbbdkecillnpaaGreat
