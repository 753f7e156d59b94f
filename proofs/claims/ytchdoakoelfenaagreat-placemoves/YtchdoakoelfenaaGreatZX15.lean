/-
  store.isField, allFields, hasRow, Fits: the walks.
  tents.rises, turned: the walks.
  tents.Formed, tents.coordinateOf: the walks.
  tents.Region, tents.Everywhere, tents.Peak: the walks.
  store.Fits, store.Formed: the walks.
-/
import Derived.Test.YtchdoakoelfenaaGreatZX14
import Derived.Test.YtchdoakoelfenaaGreatZX13
import Derived.Laws.MakeOwn
namespace Go.Proofs.YtchdoakoelfenaaGreat
open Go.RowKit Go.Maps
set_option linter.unusedSimpArgs false
set_option linter.unusedVariables false

theorem wrap16_fd (z : Int) : (IntKind.i16.wrap z == z) = fdB z := by
  rw [wrap_i16, fdB, Bool.eq_iff_iff, beq_iff_eq, decide_eq_true_iff]
  split <;> omega
set_option maxHeartbeats 400000 in
set_option maxRecDepth 100000 in
theorem cisField_any (z : Int) (w : World) (hz : I64 z) :
    Calls Tryz.prog 52 #[.int .i64 z] w fun e w' => e = .returned (.bool (fdB z)) ∧ w = w' := by
  have HE : Hid ((IntKind.i16.wrap z == z) = fdB z) := wrap16_fd z
  have h1 : IntKind.i64.wrap (IntKind.i16.wrap z) = IntKind.i16.wrap z := by rw [wrap_i16]; simp only [IntKind.wrap, IntKind.bits, IntKind.signed]; split <;> (simp; omega)
  go_enter Tryz.func52, Tryz.ntmps52
  go_wp2
  go_ret
  exact ⟨rt_bool HE.out, rfl⟩

theorem all_noI {r : List Int} {k : Nat} (hk : k < r.length) (h : fdB (r.getD k 0) = false) : r.all fdB = false := by
  rw [Bool.eq_false_iff]
  intro e
  have := List.all_eq_true.1 e (r.getD k 0) (by rw [List.getD_eq_getElem?_getD, List.getElem?_eq_getElem hk]; exact List.getElem_mem hk)
  rw [h] at this
  cases this
theorem all_yesI {r : List Int} (h : ∀ j, j < r.length → fdB (r.getD j 0) = true) : r.all fdB = true := by
  rw [List.all_eq_true]
  intro z hz
  obtain ⟨i, hi, e⟩ := List.getElem_of_mem hz
  have := h i hi
  rw [List.getD_eq_getElem?_getD, List.getElem?_eq_getElem hi] at this
  rw [← e]
  exact this

/-- Whether a number is a row's. -/
def hrB (s : Sr) (i : Int) : Bool := decide (0 ≤ i) && decide (i < (s.rw.length : Int))
set_option maxHeartbeats 1000000 in
set_option maxRecDepth 100000 in
theorem chasRow_any (x : Value) (b : Option Addr) (cb : Nat) (s : Sr) (i : Int) (w : World) (hl : s.rw.length ≤ 9223372036854775807) (hx : x.oneCell' = true) :
    Calls Tryz.prog 53 #[.agg #[x, .slice b s.rw.length cb], .int .i64 i] w fun e w' => e = .returned (.bool (hrB s i)) ∧ Below w.heap.size w w' := by
  by_cases h1 : 0 ≤ i
  · have g1 : decide (0 ≤ i) = true := decide_eq_true h1
    have HE : Hid (hrB s i = decide (i < (s.rw.length : Int))) := by show _ = _; rw [hrB, g1, Bool.true_and]
    go_enter Tryz.func53, Tryz.ntmps53
    go_wp2
    go_ret
    exact ⟨rt_bool HE.out.symm, bl1 _⟩
  · have g1 : decide (0 ≤ i) = false := decide_eq_false h1
    have HE : Hid (hrB s i = false) := by show _ = _; rw [hrB, g1, Bool.false_and]
    go_enter Tryz.func53, Tryz.ntmps53
    go_wp2
    go_ret
    exact ⟨rt_bool HE.out.symm, bl1 _⟩

end Go.Proofs.YtchdoakoelfenaaGreat

namespace Go.Proofs.YtchdoakoelfenaaGreat
open Go.RowKit Go.Maps
set_option linter.unusedSimpArgs false
set_option linter.unusedVariables false

/-- A tent that rises above 0. -/
def riB (t : Te) : Bool := decide (0 ≤ t.st) && (decide (t.st < t.pk) && (decide (t.pk < t.en) || (t.pk == 16384 && t.en == 16384)))

set_option maxHeartbeats 1000000 in
set_option maxRecDepth 100000 in
theorem rises_any (t : Te) (w : World) :
    Calls Tryz.prog 133 #[.agg #[.int .i64 t.st, .int .i64 t.pk, .int .i64 t.en]] w fun e w' => e = .returned (.bool (riB t)) ∧ Below w.heap.size w w' := by
  obtain ⟨st, pk, en⟩ := t
  simp only [riB]
  by_cases h1 : 0 ≤ st
  · have g1 : decide (0 ≤ st) = true := decide_eq_true h1
    rw [g1]
    by_cases h2 : st < pk
    · have g2 : decide (st < pk) = true := decide_eq_true h2
      rw [g2]
      by_cases h3 : pk < en
      · have g3 : decide (pk < en) = true := decide_eq_true h3
        rw [g3]
        go_enter Tryz.func133, Tryz.ntmps133
        go_wp2
        go_ret
        exact ⟨rt_bool (by simp), al1 _⟩
      · have g3 : decide (pk < en) = false := decide_eq_false h3
        rw [g3]
        by_cases h4 : pk = 16384
        · have g4 : (pk == 16384) = true := by simp [h4]
          rw [g4]
          clear h4
          go_enter Tryz.func133, Tryz.ntmps133
          go_wp2
          go_ret
          exact ⟨rt_bool (by simp), al1 _⟩
        · have g4 : (pk == 16384) = false := by simp [h4]
          rw [g4]
          clear h4
          go_enter Tryz.func133, Tryz.ntmps133
          go_wp2
          go_ret
          exact ⟨rt_bool (by simp), al1 _⟩
    · have g2 : decide (st < pk) = false := decide_eq_false h2
      rw [g2]
      go_enter Tryz.func133, Tryz.ntmps133
      go_wp2
      go_ret
      exact ⟨rt_bool (by simp), al1 _⟩
  · have g1 : decide (0 ≤ st) = false := decide_eq_false h1
    rw [g1]
    go_enter Tryz.func133, Tryz.ntmps133
    go_wp2
    go_ret
    exact ⟨rt_bool (by simp), al1 _⟩

set_option maxHeartbeats 1000000 in
set_option maxRecDepth 100000 in
theorem turned_any (t : Te) (w : World) (h1 : crd t.st = true) (h2 : crd t.pk = true) (h3 : crd t.en = true) :
    Calls Tryz.prog 134 #[.agg #[.int .i64 t.st, .int .i64 t.pk, .int .i64 t.en]] w fun e w' => e = .returned (.agg #[.int .i64 (-t.en), .int .i64 (-t.pk), .int .i64 (-t.st)]) ∧ Below w.heap.size w w' := by
  obtain ⟨st, pk, en⟩ := t
  rw [crdT] at h1 h2 h3
  dsimp only at *
  have k1 : IntKind.i64.wrap (-en) = -en := wrapi64 (by omega) (by omega)
  have k2 : IntKind.i64.wrap (-pk) = -pk := wrapi64 (by omega) (by omega)
  have k3 : IntKind.i64.wrap (-st) = -st := wrapi64 (by omega) (by omega)
  go_enter Tryz.func134, Tryz.ntmps134
  go_wp2
  exact bodyPost_ret (v := .agg #[.int .i64 (-en), .int .i64 (-pk), .int .i64 (-st)]) (by simp [results, Tryz.results134, go_sem]) rfl ⟨rfl, al2 _ _⟩

end Go.Proofs.YtchdoakoelfenaaGreat

namespace Go.Proofs.YtchdoakoelfenaaGreat
open Go.RowKit Go.Maps
set_option linter.unusedSimpArgs false
set_option linter.unusedVariables false

theorem riB_iff {t : Te} : riB t = true ↔ (0 ≤ t.st ∧ t.st < t.pk ∧ (t.pk < t.en ∨ (t.pk = 16384 ∧ t.en = 16384))) := by
  simp [riB]
/-- As the code asks it. -/
theorem tfB_neg {t : Te} (h1 : crd t.st = true) (h2 : crd t.pk = true) (h3 : crd t.en = true) (h : t.pk < 0) : riB ⟨-t.en, -t.pk, -t.st⟩ = tfB t := by
  rw [crdT] at h1 h2 h3
  rw [Bool.eq_iff_iff, riB_iff, tfB_iff]
  unfold TfT
  dsimp only
  omega
theorem tfB_pos {t : Te} (h1 : crd t.st = true) (h2 : crd t.pk = true) (h3 : crd t.en = true) (h : ¬ t.pk < 0) (hz : ¬ (t.st = 0 ∧ t.pk = 0 ∧ t.en = 0)) : riB t = tfB t := by
  rw [crdT] at h1 h2 h3
  rw [Bool.eq_iff_iff, riB_iff, tfB_iff]
  unfold TfT
  omega

set_option maxHeartbeats 2000000 in
set_option maxRecDepth 100000 in
theorem cformT_any (t : Te) (w : World) :
    Calls Tryz.prog 124 #[.agg #[.int .i64 t.st, .int .i64 t.pk, .int .i64 t.en]] w fun e w' => e = .returned (.bool (tfB t)) ∧ Below w.heap.size w w' := by
  obtain ⟨W, hW, X1, hbW⟩ : ∃ W, W = w.alloc (.cells #[.int .i64 t.st, .int .i64 t.pk, .int .i64 t.en] 141) ∧ Box 141 W w.heap.size (.int .i64 t.st) (.int .i64 t.pk) (.int .i64 t.en) ∧ Below w.heap.size w W := ⟨_, rfl, Box.new _ _ _ _ _, al1 _⟩
  cases c1 : crd t.st with
  | false =>
    have HF : Hid (tfB t = false) := tfB_no (fun h => by rw [crdT.2 h.1] at c1; cases c1)
    obtain ⟨st, pk, en⟩ := t
    dsimp only at *
    go_enter Tryz.func124, Tryz.ntmps124
    go_wp2_with fail
    refine (coord_any st _).mono ?_
    rintro e u1 ⟨rfl, rfl⟩
    rw [c1]
    go_wp2
    go_ret
    exact ⟨rt_bool HF.out.symm, hW ▸ hbW⟩
  | true =>
    cases c2 : crd t.pk with
    | false =>
      have HF : Hid (tfB t = false) := tfB_no (fun h => by rw [crdT.2 h.2.1] at c2; cases c2)
      obtain ⟨st, pk, en⟩ := t
      dsimp only at *
      go_enter Tryz.func124, Tryz.ntmps124
      go_wp2_with fail
      refine (coord_any st _).mono ?_
      rintro e u1 ⟨rfl, rfl⟩
      rw [c1]
      go_wp2_with fail
      refine (coord_any pk _).mono ?_
      rintro e u1 ⟨rfl, rfl⟩
      rw [c2]
      go_wp2
      go_ret
      exact ⟨rt_bool HF.out.symm, hW ▸ hbW⟩
    | true =>
      cases c3 : crd t.en with
      | false =>
        have HF : Hid (tfB t = false) := tfB_no (fun h => by rw [crdT.2 h.2.2.1] at c3; cases c3)
        obtain ⟨st, pk, en⟩ := t
        dsimp only at *
        go_enter Tryz.func124, Tryz.ntmps124
        go_wp2_with fail
        refine (coord_any st _).mono ?_
        rintro e u1 ⟨rfl, rfl⟩
        rw [c1]
        go_wp2_with fail
        refine (coord_any pk _).mono ?_
        rintro e u1 ⟨rfl, rfl⟩
        rw [c2]
        go_wp2_with fail
        refine (coord_any en _).mono ?_
        rintro e u1 ⟨rfl, rfl⟩
        rw [c3]
        go_wp2
        go_ret
        exact ⟨rt_bool HF.out.symm, hW ▸ hbW⟩
      | true =>
        by_cases hn : t.pk < 0
        · have HF : Hid (riB ⟨-t.en, -t.pk, -t.st⟩ = tfB t) := tfB_neg c1 c2 c3 hn
          have ht := fun U => turned_any t U c1 c2 c3
          have hr := fun U => rises_any ⟨-t.en, -t.pk, -t.st⟩ U
          obtain ⟨st, pk, en⟩ := t
          dsimp only at *
          go_enter Tryz.func124, Tryz.ntmps124
          go_wp2_with fail
          rw [← hW]
          clear hW
          refine (coord_any st _).mono ?_
          rintro e u1 ⟨rfl, rfl⟩
          rw [c1]
          obtain ⟨p0, p1, p2, _⟩ := X1.cells
          go_wp2_with fail
          refine (coord_any pk _).mono ?_
          rintro e u1 ⟨rfl, rfl⟩
          rw [c2]
          go_wp2_with fail
          refine (coord_any en _).mono ?_
          rintro e u1 ⟨rfl, rfl⟩
          rw [c3]
          clear c1 c2 c3
          go_wp2_with fail
          refine (ht _).mono ?_
          rintro e u1 ⟨rfl, hb1⟩
          replace hbW := hbW.trans (hb1.mono hbW.size)
          clear ht hb1 p0 p1 p2
          go_wp2_with fail
          refine (hr _).mono ?_
          rintro e u2 ⟨rfl, hb2⟩
          rw [HF.out]
          replace hbW := hbW.trans (hb2.mono hbW.size)
          clear hr hb2
          go_wp2
          go_ret
          exact ⟨rfl, hbW⟩
        · have HF : Hid (¬ (t.st = 0 ∧ t.pk = 0 ∧ t.en = 0) → riB t = tfB t) := tfB_pos c1 c2 c3 hn
          have HZ : Hid (t.st = 0 ∧ t.pk = 0 ∧ t.en = 0 → tfB t = true) := fun h => by
            rw [tfB_iff]
            unfold TfT
            omega
          have hr := fun U => rises_any t U
          obtain ⟨st, pk, en⟩ := t
          dsimp only at *
          go_enter Tryz.func124, Tryz.ntmps124
          go_wp2_with fail
          rw [← hW]
          clear hW
          refine (coord_any st _).mono ?_
          rintro e u1 ⟨rfl, rfl⟩
          rw [c1]
          obtain ⟨p0, p1, p2, _⟩ := X1.cells
          go_wp2_with fail
          refine (coord_any pk _).mono ?_
          rintro e u1 ⟨rfl, rfl⟩
          rw [c2]
          go_wp2_with fail
          refine (coord_any en _).mono ?_
          rintro e u1 ⟨rfl, rfl⟩
          rw [c3]
          clear c1 c2 c3
          by_cases s0 : st = 0
          · subst s0
            by_cases q0 : pk = 0
            · subst q0
              by_cases e0 : en = 0
              · subst e0
                go_wp2
                go_ret
                exact ⟨rt_bool (HZ.out (by simp)).symm, hbW⟩
              · go_wp2_with fail
                refine (hr _).mono ?_
                rintro e u2 ⟨rfl, hb2⟩
                rw [HF.out (by omega)]
                replace hbW := hbW.trans (hb2.mono hbW.size)
                clear hr hb2
                go_wp2
                go_ret
                exact ⟨rfl, hbW⟩
            · go_wp2_with fail
              refine (hr _).mono ?_
              rintro e u2 ⟨rfl, hb2⟩
              rw [HF.out (by omega)]
              replace hbW := hbW.trans (hb2.mono hbW.size)
              clear hr hb2
              go_wp2
              go_ret
              exact ⟨rfl, hbW⟩
          · go_wp2_with fail
            refine (hr _).mono ?_
            rintro e u2 ⟨rfl, hb2⟩
            rw [HF.out (by omega)]
            replace hbW := hbW.trans (hb2.mono hbW.size)
            clear hr hb2
            go_wp2
            go_ret
            exact ⟨rfl, hbW⟩

set_option maxHeartbeats 1000000 in
set_option maxRecDepth 100000 in
theorem coordOf_any (a : Option Addr) (cap : Nat) (cs : List Int) (k : Nat) (w : World) (h : Ri w a cap cs) (hk : k ≤ 1000000) :
    Calls Tryz.prog 112 #[.slice a cs.length cap, .int .i64 (k : Int)] w fun e w' => e = .returned (.int .i64 (cs.getD k 0)) ∧ Below w.heap.size w w' := by
  have k1 := h.lenB
  by_cases hkn : k < cs.length
  · obtain ⟨b, off, ea, hb, d0⟩ := h.at (Below.refl _ _) k hkn
    subst ea
    have g1 : (k : Int) < (cs.length : Int) := by omega
    generalize cs.getD k 0 = z at *
    clear h
    go_enter Tryz.func112, Tryz.ntmps112
    go_wp2
    go_ret
    exact ⟨rfl, Below.refl _ _⟩
  · have g1 : ¬ (k : Int) < (cs.length : Int) := by omega
    have HZ : Hid (cs.getD k 0 = 0) := by show _ = _; rw [List.getD_eq_getElem?_getD, List.getElem?_eq_none (by omega)]; rfl
    clear h
    go_enter Tryz.func112, Tryz.ntmps112
    go_wp2
    go_ret
    exact ⟨rt_int (by first | rfl | exact HZ.out.symm), Below.refl _ _⟩

end Go.Proofs.YtchdoakoelfenaaGreat

namespace Go.Proofs.YtchdoakoelfenaaGreat
open Go.RowKit Go.Maps
set_option linter.unusedSimpArgs false
set_option linter.unusedVariables false

theorem all_noT {l : List Te} {p : Te → Bool} {k : Nat} (hk : k < l.length) (h : p (l.getD k Te.none) = false) : l.all p = false := by
  rw [Bool.eq_false_iff]
  intro e
  have := allT.1 e k hk
  rw [h] at this
  cases this

end Go.Proofs.YtchdoakoelfenaaGreat

namespace Go.Proofs.YtchdoakoelfenaaGreat
open Go.RowKit Go.Maps
set_option linter.unusedSimpArgs false
set_option linter.unusedVariables false

set_option maxHeartbeats 2000000 in
set_option maxRecDepth 100000 in
theorem cfits_any (a : Option Addr) (ca : Nat) (b : Option Addr) (cb : Nat) (s : Sr) (x r : Int) (w : World) (hl : s.rw.length ≤ 9223372036854775807) (hx : I64 x) (hr : I64 r) :
    Calls Tryz.prog 41 #[.agg #[.slice a s.rg.length ca, .slice b s.rw.length cb], .agg #[.int .i64 x, .int .i64 r]] w fun e w' => e = .returned (.bool (fiS s x r)) ∧ Below w.heap.size w w' := by
  obtain ⟨W, hW, X1, X2, hbW⟩ : ∃ W, W = (w.alloc (.cells #[.slice a s.rg.length ca, .slice b s.rw.length cb] 29)).alloc (.cells #[.int .i64 x, .int .i64 r] 45) ∧
      BxS W w.heap.size (.slice a s.rg.length ca) (.slice b s.rw.length cb) ∧ BxL W (w.heap.size + 1) (.int .i64 x) (.int .i64 r) ∧ Below w.heap.size w W := ⟨_, rfl, (BxS.new _ _ _).below (bl1 _), BxL.new1 _ _ _ _, bl2 _ _⟩
  have hif := fun U => cisField_any x U hx
  have hhr := fun U => chasRow_any (.slice a s.rg.length ca) b cb s r U hl rfl
  cases hf : fdB x with
  | false =>
    have HE : Hid (fiS s x r = false) := by show _ = _; rw [fiS, hf, Bool.false_and]
    simp only [hf] at hif
    clear hf
    go_enter Tryz.func41, Tryz.ntmps41
    go_wp2_with fail
    rw [← hW]
    clear hW
    refine (hif _).mono ?_
    rintro e u1 ⟨rfl, rfl⟩
    obtain ⟨c0, c1, _⟩ := X1.cells
    obtain ⟨d0, d1, _⟩ := X2.cells
    go_wp2
    go_ret
    exact ⟨rt_bool HE.out.symm, hbW⟩
  | true =>
    simp only [hf] at hif
    by_cases h1 : r = -1
    · have HE : Hid (fiS s x r = true) := by show _ = _; rw [fiS, hf, Bool.true_and, decide_eq_true h1, Bool.true_or]
      have g1 : (r == -1) = true := by simp [h1]
      clear hf h1
      go_enter Tryz.func41, Tryz.ntmps41
      go_wp2_with fail
      rw [← hW]
      clear hW
      refine (hif _).mono ?_
      rintro e u1 ⟨rfl, rfl⟩
      obtain ⟨c0, c1, _⟩ := X1.cells
      obtain ⟨d0, d1, _⟩ := X2.cells
      go_wp2
      go_ret
      exact ⟨rt_bool HE.out.symm, hbW⟩
    · have g1 : (r == -1) = false := by simp [h1]
      have HE : Hid (fiS s x r = (hrB s r && decide (r < 400))) := by show _ = _; rw [fiS, hf, Bool.true_and, decide_eq_false h1, Bool.false_or, hrB, Bool.and_assoc]
      clear hf h1
      cases hh : hrB s r with
      | false =>
        have HE2 : Hid (fiS s x r = false) := by show _ = _; rw [HE.out, hh, Bool.false_and]
        simp only [hh] at hhr
        clear hh
        go_enter Tryz.func41, Tryz.ntmps41
        go_wp2_with fail
        rw [← hW]
        clear hW
        refine (hif _).mono ?_
        rintro e u1 ⟨rfl, rfl⟩
        obtain ⟨c0, c1, _⟩ := X1.cells
        obtain ⟨d0, d1, _⟩ := X2.cells
        go_wp2_with fail
        refine (hhr _).mono ?_
        rintro e u2 ⟨rfl, hb2⟩
        replace X2 := X2.below hb2
        replace hbW := hbW.trans (hb2.mono hbW.size)
        clear c0 c1 d0 d1 hb2
        obtain ⟨d0, d1, _⟩ := X2.cells
        go_wp2
        go_ret
        exact ⟨rt_bool HE2.out.symm, hbW⟩
      | true =>
        have HE2 : Hid (fiS s x r = decide (r < 400)) := by show _ = _; rw [HE.out, hh, Bool.true_and]
        simp only [hh] at hhr
        clear hh
        go_enter Tryz.func41, Tryz.ntmps41
        go_wp2_with fail
        rw [← hW]
        clear hW
        refine (hif _).mono ?_
        rintro e u1 ⟨rfl, rfl⟩
        obtain ⟨c0, c1, _⟩ := X1.cells
        obtain ⟨d0, d1, _⟩ := X2.cells
        go_wp2_with fail
        refine (hhr _).mono ?_
        rintro e u2 ⟨rfl, hb2⟩
        replace X2 := X2.below hb2
        replace hbW := hbW.trans (hb2.mono hbW.size)
        clear c0 c1 d0 d1 hb2
        obtain ⟨d0, d1, _⟩ := X2.cells
        go_wp2
        go_ret
        exact ⟨rt_bool HE2.out.symm, hbW⟩

theorem stB_no {s : Sr} {n : Int} (h : ¬ ((0 ≤ n ∧ n ≤ 4) ∧ s.rg.length ≤ 40 ∧ s.rw.length ≤ 400 ∧ (∀ l ∈ s.rg, rgB l n = true) ∧ (∀ r ∈ s.rw, r.length = s.rg.length ∧ r.all fdB = true))) : stB s n = false := by
  rw [Bool.eq_false_iff]
  intro e
  unfold stB roB at e
  simp only [Bool.and_eq_true, decide_eq_true_iff, List.all_eq_true (p := fun l => rgB l n), List.all_eq_true (p := fun (r : List Int) => decide (r.length = s.rg.length) && r.all fdB)] at e
  exact h e
theorem stB_yes {s : Sr} {n : Int} (h1 : 0 ≤ n ∧ n ≤ 4) (h2 : s.rg.length ≤ 40) (h3 : s.rw.length ≤ 400) (h4 : ∀ j, j < s.rg.length → rgB (s.rg.getD j []) n = true) (h5 : ∀ j, j < s.rw.length → (s.rw.getD j []).length = s.rg.length ∧ (s.rw.getD j []).all fdB = true) : stB s n = true := by
  unfold stB roB
  simp only [Bool.and_eq_true, decide_eq_true_iff, List.all_eq_true (p := fun l => rgB l n), List.all_eq_true (p := fun (r : List Int) => decide (r.length = s.rg.length) && r.all fdB)]
  refine ⟨h1, h2, h3, fun l hl => ?_, fun r hr => ?_⟩
  · obtain ⟨i, hi, e⟩ := List.getElem_of_mem hl
    have := h4 i hi
    rw [getL hi, e] at this
    exact this
  · obtain ⟨i, hi, e⟩ := List.getElem_of_mem hr
    have := h5 i hi
    rw [getL hi, e] at this
    exact this

end Go.Proofs.YtchdoakoelfenaaGreat
