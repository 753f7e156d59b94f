/-
  Point numbers and changes, number by number (plain mathematics).
  Tuples: their bytes; what is written is read (plain mathematics).
  Glyphs: formed ones, their bytes; what is written is read (plain mathematics).
  How regions, rows and stores lie in a world: read (Tzz, Rii).
  store.isField, allFields, hasRow, Fits: the walks.
  store.Fits, store.Formed: the walks.
-/
import Derived.Test.YtkmcodofnckdmaaGreatZV25
import Derived.Test.YtkmcodofnckdmaaGreatZV13
import Derived.Test.YtkmcodofnckdmaaGreatZV9
import Derived.Test.YtkmcodofnckdmaaGreatZV12
import Derived.Test.YtkmcodofnckdmaaGreatZV5
import Derived.Test.YtkmcodofnckdmaaGreatZV18
set_option maxHeartbeats 4000000
set_option maxRecDepth 100000
set_option linter.unusedSimpArgs false
set_option linter.unusedVariables false
namespace Go.Proofs.YtkmcodofnckdmaaGreat
def foGx (l : List Gl) (s : Sr) (ax : Int) (i : Nat) : Bool := (dq l 6 (i : Int)).isSome && (decide (szG l (i : Int) ≤ 2000) && (foT (l.getD i Gl.none).o (l.getD i Gl.none).ts ax && fiS s (l.getD i Gl.none).ab (l.getD i Gl.none).ar))
def foG (l : List Gl) (s : Sr) (ax : Int) : Bool := decide (1 ≤ l.length ∧ l.length ≤ 100) && (stB s ax && (List.range l.length).all (foGx l s ax))
theorem foGx_iff {l : List Gl} {s : Sr} {ax : Int} {i : Nat} : foGx l s ax i = true ↔ (dq l 6 (i : Int)).isSome = true ∧ szG l (i : Int) ≤ 2000 ∧ foT (l.getD i Gl.none).o (l.getD i Gl.none).ts ax = true ∧ fiS s (l.getD i Gl.none).ab (l.getD i Gl.none).ar = true := by
 unfold foGx
 simp only [Bool.and_eq_true, decide_eq_true_iff]
theorem foG_iff {l : List Gl} {s : Sr} {ax : Int} : foG l s ax = true ↔ (1 ≤ l.length ∧ l.length ≤ 100) ∧ stB s ax = true ∧ ∀ i, i < l.length → foGx l s ax i = true := by
 unfold foG
 simp only [Bool.and_eq_true, decide_eq_true_iff, List.all_eq_true, List.mem_range]
def g1 (b : List Nat) (p : Nat) : Nat := nmV b (p : Int) 4
def g2 (b : List Nat) (p : Nat) : Nat := p + 4 + g1 b p
def g3 (b : List Nat) (p : Nat) : Nat := nmV b (g2 b p : Int) 4
def g4 (b : List Nat) (p : Nat) : Nat := g2 b p + 4 + g3 b p
open Go.RowKit Go.Maps
def Tzz (w : World) (a : Option Addr) (cap : Nat) (g : List (List Te)) : Prop :=
 g.length ≤ cap ∧ cap ≤ maxLen ∧
 ∀ i, i < g.length → ∃ b off a' cap', a = some ⟨b, off, none⟩ ∧ b < w.heap.size ∧ w.cell? ⟨b, off + i, none⟩ = some (.slice a' (g.getD i []).length cap') ∧ Tz w a' cap' (g.getD i [])
theorem Tzz.at {w wr : World} {a : Option Addr} {cap : Nat} {m : List (List Te)} (h : Tzz w a cap m) (hb : Below w.heap.size w wr) (k : Nat) (hk : k < m.length) :
    ∃ b off a' cap', a = some ⟨b, off, none⟩ ∧ b < w.heap.size ∧ wr.cell? ⟨b, off + k, none⟩ = some (.slice a' (m.getD k []).length cap') ∧ Tz wr a' cap' (m.getD k []) := by
 obtain ⟨b, off, a', cap', h1, h2, h3, h4⟩ := h.2.2 k hk
 exact ⟨b, off, a', cap', h1, h2, (hb.cell (p := ⟨b, off + k, none⟩) h2).trans h3, h4.below hb⟩
theorem Tzz.below {w w' : World} {a : Option Addr} {cap : Nat} {m : List (List Te)} (h : Tzz w a cap m) (hb : Below w.heap.size w w') : Tzz w' a cap m := by
 refine ⟨h.1, h.2.1, fun i hi => ?_⟩
 obtain ⟨b, off, a', cap', h1, h2, h3⟩ := h.at hb i hi
 exact ⟨b, off, a', cap', h1, Nat.lt_of_lt_of_le h2 hb.size, h3⟩
theorem Tzz.lenB {w : World} {a : Option Addr} {cap : Nat} {m : List (List Te)} (h : Tzz w a cap m) : m.length ≤ 9223372036854775807 := by
 have h1 := h.1
 have h2 := h.2.1
 unfold maxLen at h2
 omega
def Rii (w : World) (a : Option Addr) (cap : Nat) (m : List (List Int)) : Prop :=
 m.length ≤ cap ∧ cap ≤ maxLen ∧
 ∀ i, i < m.length → ∃ b off a' cap', a = some ⟨b, off, none⟩ ∧ b < w.heap.size ∧ w.cell? ⟨b, off + i, none⟩ = some (.slice a' (m.getD i []).length cap') ∧ Ri w a' cap' (m.getD i [])
theorem Rii.at {w wr : World} {a : Option Addr} {cap : Nat} {m : List (List Int)} (h : Rii w a cap m) (hb : Below w.heap.size w wr) (k : Nat) (hk : k < m.length) :
    ∃ b off a' cap', a = some ⟨b, off, none⟩ ∧ b < w.heap.size ∧ wr.cell? ⟨b, off + k, none⟩ = some (.slice a' (m.getD k []).length cap') ∧ Ri wr a' cap' (m.getD k []) := by
 obtain ⟨b, off, a', cap', h1, h2, h3, h4⟩ := h.2.2 k hk
 exact ⟨b, off, a', cap', h1, h2, (hb.cell (p := ⟨b, off + k, none⟩) h2).trans h3, h4.below hb⟩
theorem Rii.below {w w' : World} {a : Option Addr} {cap : Nat} {m : List (List Int)} (h : Rii w a cap m) (hb : Below w.heap.size w w') : Rii w' a cap m := by
 refine ⟨h.1, h.2.1, fun i hi => ?_⟩
 obtain ⟨b, off, a', cap', h1, h2, h3⟩ := h.at hb i hi
 exact ⟨b, off, a', cap', h1, Nat.lt_of_lt_of_le h2 hb.size, h3⟩
theorem Rii.lenB {w : World} {a : Option Addr} {cap : Nat} {m : List (List Int)} (h : Rii w a cap m) : m.length ≤ 9223372036854775807 := by
 have h1 := h.1
 have h2 := h.2.1
 unfold maxLen at h2
 omega
def BxS (w : World) (g : Nat) (x y : Value) : Prop := w.heap[g]? = some (.cells #[x, y] 26 (0, 0))
theorem BxS.cells {w : World} {g : Nat} {x y : Value} (h : BxS w g x y) :
    w.cell? ⟨g, 0, none⟩ = some x ∧ w.cell? ⟨g, 1, none⟩ = some y ∧ w.frozen? ⟨g, 0, none⟩ = false ∧ w.frozen? ⟨g, 1, none⟩ = false :=
 ⟨cell_of_row w g 0 _ _ (0, 0) h, cell_of_row w g 1 _ _ (0, 0) h, frozen_of_row w g 0 _ _ h, frozen_of_row w g 1 _ _ h⟩
theorem BxS.lt {w : World} {g : Nat} {x y : Value} (h : BxS w g x y) : g < w.heap.size := (Array.getElem?_eq_some_iff.1 h).1
theorem BxS.below {w w' : World} {g : Nat} {x y : Value} (h : BxS w g x y) (hb : Below w.heap.size w w') : BxS w' g x y := (hb.block g h.lt).trans h
theorem BxS.new (w : World) (x y : Value) : BxS (w.alloc (.cells #[x, y] 26)) w.heap.size x y := heap_alloc_new w _
def BxL (w : World) (g : Nat) (x y : Value) : Prop := w.heap[g]? = some (.cells #[x, y] 60 (0, 0))
theorem BxL.cells {w : World} {g : Nat} {x y : Value} (h : BxL w g x y) :
    w.cell? ⟨g, 0, none⟩ = some x ∧ w.cell? ⟨g, 1, none⟩ = some y ∧ w.frozen? ⟨g, 0, none⟩ = false ∧ w.frozen? ⟨g, 1, none⟩ = false :=
 ⟨cell_of_row w g 0 _ _ (0, 0) h, cell_of_row w g 1 _ _ (0, 0) h, frozen_of_row w g 0 _ _ h, frozen_of_row w g 1 _ _ h⟩
theorem BxL.lt {w : World} {g : Nat} {x y : Value} (h : BxL w g x y) : g < w.heap.size := (Array.getElem?_eq_some_iff.1 h).1
theorem BxL.below {w w' : World} {g : Nat} {x y : Value} (h : BxL w g x y) (hb : Below w.heap.size w w') : BxL w' g x y := (hb.block g h.lt).trans h
theorem BxL.new (w : World) (x y : Value) : BxL (w.alloc (.cells #[x, y] 60)) w.heap.size x y := heap_alloc_new w _
theorem BxL.new1 (w : World) (o : Obj) (x y : Value) : BxL ((w.alloc o).alloc (.cells #[x, y] 60)) (w.heap.size + 1) x y := by
 have h := BxL.new (w.alloc o) x y
 simpa using h
theorem wrap16_fd (z : Int) : (IntKind.i16.wrap z == z) = fdB z := by
 rw [wrap_i16, fdB, Bool.eq_iff_iff, beq_iff_eq, decide_eq_true_iff]
 split <;> omega
theorem cisField_any (z : Int) (w : World) (hz : I64 z) :
    Calls Tryz.prog 105 #[.int .i64 z] w fun e w' => e = .returned (.bool (fdB z)) ∧ w = w' := by
 have HE : Hid ((IntKind.i16.wrap z == z) = fdB z) := wrap16_fd z
 have h1 : IntKind.i64.wrap (IntKind.i16.wrap z) = IntKind.i16.wrap z := by rw [wrap_i16]; simp only [IntKind.wrap, IntKind.bits, IntKind.signed]; split <;> (simp; omega)
 go_enter Tryz.func105, Tryz.ntmps105
 go_wp2
 go_ret
 exact ⟨rt_bool HE.out, rfl⟩
theorem all_noI {r : List Int} {k : Nat} (hk : k < r.length) (h : fdB (r.getD k 0) = false) : r.all fdB = false := by
 rw [Bool.eq_false_iff]
 intro e
 have := List.all_eq_true.1 e (r.getD k 0) (by rw [List.getD_eq_getElem?_getD, List.getElem?_eq_getElem hk]; exact List.getElem_mem hk)
 rw [h] at this
 cases this
theorem all_yesI {r : List Int} (h : ∀ j, j < r.length → fdB (r.getD j 0) = true) : r.all fdB = true := by
 rw [List.all_eq_true]
 intro z hz
 obtain ⟨i, hi, e⟩ := List.getElem_of_mem hz
 have := h i hi
 rw [List.getD_eq_getElem?_getD, List.getElem?_eq_getElem hi] at this
 rw [← e]
 exact this
theorem callFl_any (a : Option Addr) (cap : Nat) (r : List Int) (w : World) (h : Ri w a cap r) :
    Calls Tryz.prog 100 #[.slice a r.length cap] w fun e w' => e = .returned (.bool (r.all fdB)) ∧ Below w.heap.size w w' := by
 have k2 := h.lenB
 have HH : Hid (Ri w a cap r) := h
 clear h
 go_enter Tryz.func100, Tryz.ntmps100
 go_wp2
 go_loopw [7] (fun i wr => ∃ k : Nat, k ≤ r.length ∧ i = .int .i64 k ∧ (∀ j, j < k → fdB (r.getD j 0) = true) ∧ Below w.heap.size w wr) (fun i _ => r.length - (intOf i).toNat)
 case atStart => exact ⟨0, Nat.zero_le _, rfl, (fun j hj => by omega), Below.refl _ _⟩
 case round =>
  obtain ⟨k, hk, rfl, hok, hB⟩ := hrel
  have HOK : Hid (∀ j, j < k → fdB (r.getD j 0) = true) := hok
  clear hok
  by_cases hkn : k < r.length
  · obtain ⟨b, off, ea, hb, d0⟩ := HH.out.at hB k hkn
    subst ea
    have hz := HH.out.i64 hkn
    obtain ⟨z, hzz⟩ : ∃ z, r.getD k 0 = z := ⟨_, rfl⟩
    have HZ : Hid (r.getD k 0 = z) := hzz
    rw [hzz] at d0 hz
    have hfo := fun U => cisField_any z U hz
    clear hzz
    cases hf : fdB z with
    | false =>
     have HF : Hid (r.all fdB = false) := all_noI hkn (by rw [HZ.out]; exact hf)
     simp only [hf] at hfo
     clear hf HZ HOK
     go_wp2_with fail
     refine (hfo _).mono ?_
     rintro e u1 ⟨rfl, rfl⟩; go_wp2
     go_ret
     exact ⟨rt_bool HF.out.symm, hB⟩
    | true =>
     have HOK2 : Hid (∀ j, j < k + 1 → fdB (r.getD j 0) = true) := fun j hj => by
      rcases Nat.lt_or_ge j k with h1 | h1
      · exact HOK.out j h1
      · rw [show j = k by omega, HZ.out]; exact hf
     simp only [hf] at hfo
     clear hf HZ HOK
     go_wp2_with fail
     refine (hfo _).mono ?_
     rintro e u1 ⟨rfl, rfl⟩; go_wp2
     go_roundw
     case rel => exact ⟨k + 1, by omega, by go_num, HOK2.out, hB⟩
     case measure => simp [intOf]; omega
  · obtain rfl : k = r.length := by omega
    have HF : Hid (r.all fdB = true) := all_yesI HOK.out
    clear HOK; go_wp2
    go_ret
    exact ⟨rt_bool HF.out.symm, hB⟩
def hrB (s : Sr) (i : Int) : Bool := decide (0 ≤ i) && decide (i < (s.rw.length : Int))
theorem chasRow_any (x : Value) (b : Option Addr) (cb : Nat) (s : Sr) (i : Int) (w : World) (hl : s.rw.length ≤ 9223372036854775807) (hx : x.oneCell' = true) :
    Calls Tryz.prog 106 #[.agg #[x, .slice b s.rw.length cb], .int .i64 i] w fun e w' => e = .returned (.bool (hrB s i)) ∧ Below w.heap.size w w' := by
 by_cases h1 : 0 ≤ i
 · have g1 : decide (0 ≤ i) = true := decide_eq_true h1
   have HE : Hid (hrB s i = decide (i < (s.rw.length : Int))) := by show _ = _; rw [hrB, g1, Bool.true_and]
   go_enter Tryz.func106, Tryz.ntmps106
   go_wp2
   go_ret
   exact ⟨rt_bool HE.out.symm, bl1 _⟩
 · have g1 : decide (0 ≤ i) = false := decide_eq_false h1
   have HE : Hid (hrB s i = false) := by show _ = _; rw [hrB, g1, Bool.false_and]
   go_enter Tryz.func106, Tryz.ntmps106
   go_wp2
   go_ret
   exact ⟨rt_bool HE.out.symm, bl1 _⟩
theorem cfits_any (a : Option Addr) (ca : Nat) (b : Option Addr) (cb : Nat) (s : Sr) (x r : Int) (w : World) (hl : s.rw.length ≤ 9223372036854775807) (hx : I64 x) (hr : I64 r) :
    Calls Tryz.prog 59 #[.agg #[.slice a s.rg.length ca, .slice b s.rw.length cb], .agg #[.int .i64 x, .int .i64 r]] w fun e w' => e = .returned (.bool (fiS s x r)) ∧ Below w.heap.size w w' := by
 obtain ⟨W, hW, X1, X2, hbW⟩ : ∃ W, W = (w.alloc (.cells #[.slice a s.rg.length ca, .slice b s.rw.length cb] 26)).alloc (.cells #[.int .i64 x, .int .i64 r] 60) ∧
     BxS W w.heap.size (.slice a s.rg.length ca) (.slice b s.rw.length cb) ∧ BxL W (w.heap.size + 1) (.int .i64 x) (.int .i64 r) ∧ Below w.heap.size w W := ⟨_, rfl, (BxS.new _ _ _).below (bl1 _), BxL.new1 _ _ _ _, bl2 _ _⟩
 have hif := fun U => cisField_any x U hx
 have hhr := fun U => chasRow_any (.slice a s.rg.length ca) b cb s r U hl rfl
 cases hf : fdB x with
 | false =>
  have HE : Hid (fiS s x r = false) := by show _ = _; rw [fiS, hf, Bool.false_and]
  simp only [hf] at hif
  clear hf
  go_enter Tryz.func59, Tryz.ntmps59
  go_wp2_with fail
  rw [← hW]; clear hW
  refine (hif _).mono ?_
  rintro e u1 ⟨rfl, rfl⟩; obtain ⟨c0, c1, _⟩ := X1.cells; obtain ⟨d0, d1, _⟩ := X2.cells; go_wp2
  go_ret
  exact ⟨rt_bool HE.out.symm, hbW⟩
 | true =>
  simp only [hf] at hif
  by_cases h1 : r = -1
  · have HE : Hid (fiS s x r = true) := by show _ = _; rw [fiS, hf, Bool.true_and, decide_eq_true h1, Bool.true_or]
    have g1 : (r == -1) = true := by simp [h1]
    clear hf h1
    go_enter Tryz.func59, Tryz.ntmps59
    go_wp2_with fail
    rw [← hW]; clear hW
    refine (hif _).mono ?_
    rintro e u1 ⟨rfl, rfl⟩; obtain ⟨c0, c1, _⟩ := X1.cells; obtain ⟨d0, d1, _⟩ := X2.cells; go_wp2
    go_ret
    exact ⟨rt_bool HE.out.symm, hbW⟩
  · have g1 : (r == -1) = false := by simp [h1]
    have HE : Hid (fiS s x r = (hrB s r && decide (r < 400))) := by show _ = _; rw [fiS, hf, Bool.true_and, decide_eq_false h1, Bool.false_or, hrB, Bool.and_assoc]
    clear hf h1
    cases hh : hrB s r with
    | false =>
     have HE2 : Hid (fiS s x r = false) := by show _ = _; rw [HE.out, hh, Bool.false_and]
     simp only [hh] at hhr
     clear hh
     go_enter Tryz.func59, Tryz.ntmps59
     go_wp2_with fail
     rw [← hW]; clear hW
     refine (hif _).mono ?_
     rintro e u1 ⟨rfl, rfl⟩; obtain ⟨c0, c1, _⟩ := X1.cells; obtain ⟨d0, d1, _⟩ := X2.cells
     go_wp2_with fail
     refine (hhr _).mono ?_
     rintro e u2 ⟨rfl, hb2⟩; replace X2 := X2.below hb2
     replace hbW := hbW.trans (hb2.mono hbW.size)
     clear c0 c1 d0 d1 hb2; obtain ⟨d0, d1, _⟩ := X2.cells; go_wp2
     go_ret
     exact ⟨rt_bool HE2.out.symm, hbW⟩
    | true =>
     have HE2 : Hid (fiS s x r = decide (r < 400)) := by show _ = _; rw [HE.out, hh, Bool.true_and]
     simp only [hh] at hhr
     clear hh
     go_enter Tryz.func59, Tryz.ntmps59
     go_wp2_with fail
     rw [← hW]; clear hW
     refine (hif _).mono ?_
     rintro e u1 ⟨rfl, rfl⟩; obtain ⟨c0, c1, _⟩ := X1.cells; obtain ⟨d0, d1, _⟩ := X2.cells
     go_wp2_with fail
     refine (hhr _).mono ?_
     rintro e u2 ⟨rfl, hb2⟩; replace X2 := X2.below hb2
     replace hbW := hbW.trans (hb2.mono hbW.size)
     clear c0 c1 d0 d1 hb2; obtain ⟨d0, d1, _⟩ := X2.cells; go_wp2
     go_ret
     exact ⟨rt_bool HE2.out.symm, hbW⟩
theorem stB_no {s : Sr} {n : Int} (h : ¬ ((0 ≤ n ∧ n ≤ 4) ∧ s.rg.length ≤ 40 ∧ s.rw.length ≤ 400 ∧ (∀ l ∈ s.rg, rgB l n = true) ∧ (∀ r ∈ s.rw, r.length = s.rg.length ∧ r.all fdB = true))) : stB s n = false := by
 rw [Bool.eq_false_iff]
 intro e
 unfold stB roB at e
 simp only [Bool.and_eq_true, decide_eq_true_iff, List.all_eq_true (p := fun l => rgB l n), List.all_eq_true (p := fun (r : List Int) => decide (r.length = s.rg.length) && r.all fdB)] at e
 exact h e
theorem stB_yes {s : Sr} {n : Int} (h1 : 0 ≤ n ∧ n ≤ 4) (h2 : s.rg.length ≤ 40) (h3 : s.rw.length ≤ 400) (h4 : ∀ j, j < s.rg.length → rgB (s.rg.getD j []) n = true) (h5 : ∀ j, j < s.rw.length → (s.rw.getD j []).length = s.rg.length ∧ (s.rw.getD j []).all fdB = true) : stB s n = true := by
 unfold stB roB
 simp only [Bool.and_eq_true, decide_eq_true_iff, List.all_eq_true (p := fun l => rgB l n), List.all_eq_true (p := fun (r : List Int) => decide (r.length = s.rg.length) && r.all fdB)]
 refine ⟨h1, h2, h3, fun l hl => ?_, fun r hr => ?_⟩
 · obtain ⟨i, hi, e⟩ := List.getElem_of_mem hl
   have := h4 i hi
   rw [getL hi, e] at this
   exact this
 · obtain ⟨i, hi, e⟩ := List.getElem_of_mem hr
   have := h5 i hi
   rw [getL hi, e] at this
   exact this
theorem cformS_any (a : Option Addr) (ca : Nat) (b : Option Addr) (cb : Nat) (s : Sr) (n : Int) (w : World) (hg : Tzz w a ca s.rg) (hm : Rii w b cb s.rw) :
    Calls Tryz.prog 57 #[.agg #[.slice a s.rg.length ca, .slice b s.rw.length cb], .int .i64 n] w fun e w' => e = .returned (.bool (stB s n)) ∧ Below w.heap.size w w' := by
 have k1 := hg.lenB
 have k2 := hm.lenB
 have HNO : Hid (∀ h : ¬ ((0 ≤ n ∧ n ≤ 4) ∧ s.rg.length ≤ 40 ∧ s.rw.length ≤ 400 ∧ (∀ l ∈ s.rg, rgB l n = true) ∧ (∀ r ∈ s.rw, r.length = s.rg.length ∧ r.all fdB = true)), stB s n = false) := fun h => stB_no h
 have HG : Hid (Tzz w a ca s.rg) := hg
 have HM : Hid (Rii w b cb s.rw) := hm
 clear hg hm
 by_cases h1 : n < 0
 · have g1 : decide (n < 0) = true := decide_eq_true h1
   have HE : Hid (stB s n = false) := HNO.out (fun h => by omega)
   go_enter Tryz.func57, Tryz.ntmps57
   go_wp2
   go_ret
   exact ⟨rt_bool HE.out.symm, bl1 _⟩
 have g1 : decide (n < 0) = false := decide_eq_false h1
 by_cases h2 : 4 < n
 · have g2 : decide (4 < n) = true := decide_eq_true h2
   have HE : Hid (stB s n = false) := HNO.out (fun h => by omega)
   go_enter Tryz.func57, Tryz.ntmps57
   go_wp2
   go_ret
   exact ⟨rt_bool HE.out.symm, bl1 _⟩
 have g2 : decide (4 < n) = false := decide_eq_false h2
 by_cases h3 : 40 < s.rg.length
 · have g3 : decide ((40 : Int) < (s.rg.length : Int)) = true := decide_eq_true (by omega)
   have HE : Hid (stB s n = false) := HNO.out (fun h => by omega)
   go_enter Tryz.func57, Tryz.ntmps57
   go_wp2
   go_ret
   exact ⟨rt_bool HE.out.symm, bl1 _⟩
 have g3 : decide ((40 : Int) < (s.rg.length : Int)) = false := decide_eq_false (by omega)
 by_cases h4 : 400 < s.rw.length
 · have g4 : decide ((400 : Int) < (s.rw.length : Int)) = true := decide_eq_true (by omega)
   have HE : Hid (stB s n = false) := HNO.out (fun h => by omega)
   go_enter Tryz.func57, Tryz.ntmps57
   go_wp2
   go_ret
   exact ⟨rt_bool HE.out.symm, bl1 _⟩
 have g4 : decide ((400 : Int) < (s.rw.length : Int)) = false := decide_eq_false (by omega)
 have HB : Hid ((0 ≤ n ∧ n ≤ 4) ∧ s.rg.length ≤ 40 ∧ s.rw.length ≤ 400) := ⟨⟨by omega, by omega⟩, by omega, by omega⟩
 obtain ⟨W, hW, X1, hbW⟩ : ∃ W, W = w.alloc (.cells #[.slice a s.rg.length ca, .slice b s.rw.length cb] 26) ∧ BxS W w.heap.size (.slice a s.rg.length ca) (.slice b s.rw.length cb) ∧ Below w.heap.size w W := ⟨_, rfl, BxS.new _ _ _, bl1 _⟩
 go_enter Tryz.func57, Tryz.ntmps57
 go_wp2; rw [← hW]; clear hW
 go_loopw [30] (fun i wr => ∃ k : Nat, k ≤ s.rg.length ∧ i = .int .i64 k ∧ (∀ j, j < k → rgB (s.rg.getD j []) n = true) ∧ BxS wr w.heap.size (.slice a s.rg.length ca) (.slice b s.rw.length cb) ∧ Below w.heap.size w wr) (fun i _ => s.rg.length - (intOf i).toNat)
 case atStart => exact ⟨0, Nat.zero_le _, rfl, (fun j hj => by omega), X1, hbW⟩
 case round =>
  clear X1 hbW; obtain ⟨k, hk, rfl, hok, X1, hB⟩ := hrel
  have HOK : Hid (∀ j, j < k → rgB (s.rg.getD j []) n = true) := hok
  clear hok
  by_cases hkn : k < s.rg.length
  · obtain ⟨b1, o1, a1, c1, ea, _, d0, hp⟩ := HG.out.at hB k hkn
    have hmem := getL_mem hkn
    have hrg := cregion_any a1 c1 (s.rg.getD k []) n wr hp
    obtain ⟨l, hl⟩ : ∃ l, s.rg.getD k [] = l := ⟨_, rfl⟩
    have HL : Hid (s.rg.getD k [] = l) := hl
    rw [hl] at d0 hmem hrg; subst ea; clear hl hp
    cases hf : rgB l n with
    | false =>
     have HE : Hid (stB s n = false) := HNO.out (fun h => by have := h.2.2.2.1 l hmem; rw [hf] at this; cases this)
     rw [hf] at hrg; clear hf hmem HL HOK X1
     go_wp2_with fail
     refine hrg.mono ?_
     rintro e u1 ⟨rfl, hb1⟩
     replace hB := hB.trans (hb1.mono hB.size)
     clear hb1 hrg; go_wp2
     go_ret
     exact ⟨rt_bool HE.out.symm, hB⟩
    | true =>
     have HOK2 : Hid (∀ j, j < k + 1 → rgB (s.rg.getD j []) n = true) := fun j hj => by
      rcases Nat.lt_or_ge j k with h1 | h1
      · exact HOK.out j h1
      · rw [show j = k by omega, HL.out]; exact hf
     rw [hf] at hrg; clear hf hmem HL HOK
     go_wp2_with fail
     refine hrg.mono ?_
     rintro e u1 ⟨rfl, hb1⟩
     replace hB := hB.trans (hb1.mono hB.size)
     replace X1 := X1.below hb1; clear hb1 hrg; go_wp2
     go_roundw
     case rel => exact ⟨k + 1, by omega, by go_num, HOK2.out, X1, hB⟩
     case measure => simp [intOf]; omega
  · obtain rfl : k = s.rg.length := by omega
    obtain ⟨x0, x1, _⟩ := X1.cells; go_wp2
    go_loopw [42] (fun i wr => ∃ k : Nat, k ≤ s.rw.length ∧ i = .int .i64 k ∧ (∀ j, j < k → (s.rw.getD j []).length = s.rg.length ∧ (s.rw.getD j []).all fdB = true) ∧ BxS wr w.heap.size (.slice a s.rg.length ca) (.slice b s.rw.length cb) ∧ Below w.heap.size w wr) (fun i _ => s.rw.length - (intOf i).toNat)
    case atStart => exact ⟨0, Nat.zero_le _, rfl, (fun j hj => by omega), X1, hB⟩
    case round =>
     clear X1 hB x0 x1 hk hkn; obtain ⟨k, hk, rfl, hok, X1, hB⟩ := hrel
     have HOK3 : Hid (∀ j, j < k → (s.rw.getD j []).length = s.rg.length ∧ (s.rw.getD j []).all fdB = true) := hok
     clear hok
     by_cases hkn : k < s.rw.length
     · obtain ⟨b1, o1, a1, c1, ea, _, d0, hp⟩ := HM.out.at hB k hkn
       have hmem := getL_mem hkn
       have hfl := callFl_any a1 c1 (s.rw.getD k []) wr hp
       have hrl := hp.lenB
       obtain ⟨r, hr⟩ : ∃ r, s.rw.getD k [] = r := ⟨_, rfl⟩
       have HL : Hid (s.rw.getD k [] = r) := hr
       rw [hr] at d0 hmem hfl hrl; subst ea; clear hr hp; obtain ⟨x0, x1, _⟩ := X1.cells
       by_cases hlen : r.length = s.rg.length
       rotate_left
       · have HE : Hid (stB s n = false) := HNO.out (fun h => hlen (h.2.2.2.2 r hmem).1)
         have g5 : ((r.length : Int) != (s.rg.length : Int)) = true := bne_iff_ne.2 (by omega)
         clear hmem HL HOK3 X1 hfl; go_wp2
         go_ret
         exact ⟨rt_bool HE.out.symm, hB⟩
       have g5 : ((r.length : Int) != (s.rg.length : Int)) = false := by simp [hlen]
       cases hf : r.all fdB with
       | false =>
        have HE : Hid (stB s n = false) := HNO.out (fun h => by have := (h.2.2.2.2 r hmem).2; rw [hf] at this; cases this)
        rw [hf] at hfl; clear hf hmem HL HOK3 X1 hlen
        go_wp2_with fail
        refine hfl.mono ?_
        rintro e u1 ⟨rfl, hb1⟩
        replace hB := hB.trans (hb1.mono hB.size)
        clear hb1 hfl; go_wp2
        go_ret
        exact ⟨rt_bool HE.out.symm, hB⟩
       | true =>
        have HOK4 : Hid (∀ j, j < k + 1 → (s.rw.getD j []).length = s.rg.length ∧ (s.rw.getD j []).all fdB = true) := fun j hj => by
         rcases Nat.lt_or_ge j k with h1 | h1
         · exact HOK3.out j h1
         · rw [show j = k by omega, HL.out]; exact ⟨hlen, hf⟩
        rw [hf] at hfl; clear hf hmem HL HOK3 hlen
        go_wp2_with fail
        refine hfl.mono ?_
        rintro e u1 ⟨rfl, hb1⟩
        replace hB := hB.trans (hb1.mono hB.size)
        replace X1 := X1.below hb1; clear hb1 hfl; go_wp2
        go_roundw
        case rel => exact ⟨k + 1, by omega, by go_num, HOK4.out, X1, hB⟩
        case measure => simp [intOf]; omega
     · obtain rfl : k = s.rw.length := by omega
       have HE : Hid (stB s n = true) := stB_yes HB.out.1 HB.out.2.1 HB.out.2.2 HOK.out HOK3.out
       clear HOK HOK3; go_wp2
       go_ret
       exact ⟨rt_bool HE.out.symm, hB⟩
end Go.Proofs.YtkmcodofnckdmaaGreat
