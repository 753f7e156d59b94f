/-
  foundryref09.Part: the walk.
  For foundrylaw02.RatioOnce: two sums in two new blocks; texts tell numbers apart.
  foundryref01.double, Mul: the walks.
  foundryref02.sum, Mul, Add, Quo, Opposite, Sub: the walks.
-/
import Derived.Test.YtchdoakoelfenaaGreatZX27
import Derived.Test.YtchdoakoelfenaaGreatZX16
import Derived.Test.YtchdoakoelfenaaGreatZX29
import Derived.Test.YtchdoakoelfenaaGreatZX13
import Derived.Test.YtchdoakoelfenaaGreatZX28
import Derived.Test.YtchdoakoelfenaaGreatZX8
import Derived.Laws.BitsAllLaws
import Derived.Deep.RegionHeld3
namespace Go.Proofs.YtchdoakoelfenaaGreat
open Go.RowKit Go.Maps
set_option linter.unusedSimpArgs false
set_option linter.unusedVariables false

set_option maxHeartbeats 2000000 in
set_option maxRecDepth 100000 in
theorem spart_any (t : Te) (c : Int) (w : World) (hc : I64 c) :
    Calls Tryz.prog 86 #[.agg #[.int .i64 t.st, .int .i64 t.pk, .int .i64 t.en], .int .i64 c] w fun e w' => ∃ v', e = .returned v' ∧ Fr w' v' 2 (paQ t c) ∧ Below w.heap.size w w' := by
  have hfo := fun U => sformT_any t U
  obtain ⟨W, hW, X1, B1, hbW⟩ := boxes2 141 91 w (.int .i64 t.st) (.int .i64 t.pk) (.int .i64 t.en) (.bool false) (.slice none 0 0) (.slice none 0 0)
  cases hf : tfB t with
  | false =>
    have HP : Hid ((0 : Rat) = paQ t c) := (paQ_no (fun h => by rw [hf] at h; cases h.1)).symm
    simp only [hf] at hfo
    clear hf
    obtain ⟨st, pk, en⟩ := t
    dsimp only at *
    go_enter Tryz.func86, Tryz.ntmps86
    go_wp2_with fail
    rw [← hW]
    clear hW
    refine (hfo _).mono ?_
    rintro e u1 ⟨rfl, hb1⟩
    replace X1 := X1.below hb1
    replace B1 := B1.below hb1
    replace hbW := hbW.trans (hb1.mono hbW.size)
    clear hb1 hfo
    obtain ⟨p0, p1, p2, _⟩ := X1.cells
    go_wp2_with fail
    refine (szero_any _).mono ?_
    rintro e u3 ⟨v3, rfl, hF3, hb3⟩
    replace B1 := B1.below hb3
    replace hbW := hbW.trans (hb3.mono hbW.size)
    rw [HP.out] at hF3
    clear hb3 X1
    obtain ⟨n3, xs, ys, ⟨a3, c3, b3, d3, rfl, hx3, hy3⟩, f1, f2, f3, f4⟩ := hF3
    obtain ⟨q1, q2, q3, q4, q5, q6⟩ := B1.cells
    have hs := B1.lt
    go_wp2
    refine ret3 (v := .agg #[.bool n3, .slice a3 xs.length c3, .slice b3 ys.length d3]) B1 rfl (fun U hU => by obtain ⟨r1, r2, r3, _⟩ := hU.cells; simp [results, Tryz.results86, go_sem, r1, r2, r3]) (fun U hU hK => ⟨_, rfl, ⟨_, _, _, ⟨_, _, _, _, rfl, hK _ _ _ hx3, hK _ _ _ hy3⟩, f1, f2, f3, f4⟩, hU _ _ hbW (by omega)⟩)
  | true =>
    have hbd := tfB_iff.1 hf
    unfold TfT at hbd
    simp only [hf] at hfo
    cases hcc : crd c with
    | false =>
      have HP : Hid ((0 : Rat) = paQ t c) := (paQ_no (fun h => by rw [hcc] at h; cases h.2)).symm
      clear hf hbd
      obtain ⟨st, pk, en⟩ := t
      dsimp only at *
      go_enter Tryz.func86, Tryz.ntmps86
      go_wp2_with fail
      rw [← hW]
      clear hW
      refine (hfo _).mono ?_
      rintro e u1 ⟨rfl, hb1⟩
      replace X1 := X1.below hb1
      replace B1 := B1.below hb1
      replace hbW := hbW.trans (hb1.mono hbW.size)
      clear hb1 hfo
      obtain ⟨p0, p1, p2, _⟩ := X1.cells
      go_wp2_with fail
      refine (scoord_any c _).mono ?_
      rintro e u2 ⟨rfl, rfl⟩
      rw [hcc]
      clear hcc
      go_wp2_with fail
      refine (szero_any _).mono ?_
      rintro e u3 ⟨v3, rfl, hF3, hb3⟩
      replace B1 := B1.below hb3
      replace hbW := hbW.trans (hb3.mono hbW.size)
      rw [HP.out] at hF3
      clear hb3 X1
      obtain ⟨n3, xs, ys, ⟨a3, c3, b3, d3, rfl, hx3, hy3⟩, f1, f2, f3, f4⟩ := hF3
      obtain ⟨q1, q2, q3, q4, q5, q6⟩ := B1.cells
      have hs := B1.lt
      go_wp2
      refine ret3 (v := .agg #[.bool n3, .slice a3 xs.length c3, .slice b3 ys.length d3]) B1 rfl (fun U hU => by obtain ⟨r1, r2, r3, _⟩ := hU.cells; simp [results, Tryz.results86, go_sem, r1, r2, r3]) (fun U hU hK => ⟨_, rfl, ⟨_, _, _, ⟨_, _, _, _, rfl, hK _ _ _ hx3, hK _ _ _ hy3⟩, f1, f2, f3, f4⟩, hU _ _ hbW (by omega)⟩)
    | true =>
      have hcd := crdT.1 hcc
      by_cases h1 : t.pk = 0
      · have HP : Hid (((1 : Int) : Rat) = paQ t c) := paQ_one hf hcc (.inl h1)
        have g1 : (t.pk == 0) = true := by simp [h1]
        clear hf hbd hcd h1
        obtain ⟨st, pk, en⟩ := t
        dsimp only at *
        go_enter Tryz.func86, Tryz.ntmps86
        go_wp2_with fail
        rw [← hW]
        clear hW
        refine (hfo _).mono ?_
        rintro e u1 ⟨rfl, hb1⟩
        replace X1 := X1.below hb1
        replace B1 := B1.below hb1
        replace hbW := hbW.trans (hb1.mono hbW.size)
        clear hb1 hfo
        obtain ⟨p0, p1, p2, _⟩ := X1.cells
        go_wp2_with fail
        refine (scoord_any c _).mono ?_
        rintro e u2 ⟨rfl, rfl⟩
        rw [hcc]
        clear hcc
        go_wp2_with fail
        refine (swhole_any 1 _ (by decide) (by decide)).mono ?_
        rintro e u3 ⟨v3, rfl, hF3, hb3⟩
        replace B1 := B1.below hb3
        replace hbW := hbW.trans (hb3.mono hbW.size)
        rw [HP.out] at hF3
        clear hb3 X1
        obtain ⟨n3, xs, ys, ⟨a3, c3, b3, d3, rfl, hx3, hy3⟩, f1, f2, f3, f4⟩ := hF3
        obtain ⟨q1, q2, q3, q4, q5, q6⟩ := B1.cells
        have hs := B1.lt
        go_wp2
        refine ret3 (v := .agg #[.bool n3, .slice a3 xs.length c3, .slice b3 ys.length d3]) B1 rfl (fun U hU => by obtain ⟨r1, r2, r3, _⟩ := hU.cells; simp [results, Tryz.results86, go_sem, r1, r2, r3]) (fun U hU hK => ⟨_, rfl, ⟨_, _, _, ⟨_, _, _, _, rfl, hK _ _ _ hx3, hK _ _ _ hy3⟩, f1, f2, f3, f4⟩, hU _ _ hbW (by omega)⟩)
      · by_cases h2 : c = t.pk
        · have HP : Hid (((1 : Int) : Rat) = paQ t c) := paQ_one hf hcc (.inr h2)
          have g1 : (t.pk == 0) = false := by simp [h1]
          have g2 : (c == t.pk) = true := by simp [h2]
          clear h1 h2 hf hbd hcd
          obtain ⟨st, pk, en⟩ := t
          dsimp only at *
          go_enter Tryz.func86, Tryz.ntmps86
          go_wp2_with fail
          rw [← hW]
          clear hW
          refine (hfo _).mono ?_
          rintro e u1 ⟨rfl, hb1⟩
          replace X1 := X1.below hb1
          replace B1 := B1.below hb1
          replace hbW := hbW.trans (hb1.mono hbW.size)
          clear hb1 hfo
          obtain ⟨p0, p1, p2, _⟩ := X1.cells
          go_wp2_with fail
          refine (scoord_any c _).mono ?_
          rintro e u2 ⟨rfl, rfl⟩
          rw [hcc]
          clear hcc
          go_wp2_with fail
          refine (swhole_any 1 _ (by decide) (by decide)).mono ?_
          rintro e u3 ⟨v3, rfl, hF3, hb3⟩
          replace B1 := B1.below hb3
          replace hbW := hbW.trans (hb3.mono hbW.size)
          rw [HP.out] at hF3
          clear hb3 X1
          obtain ⟨n3, xs, ys, ⟨a3, c3, b3, d3, rfl, hx3, hy3⟩, f1, f2, f3, f4⟩ := hF3
          obtain ⟨q1, q2, q3, q4, q5, q6⟩ := B1.cells
          have hs := B1.lt
          go_wp2
          refine ret3 (v := .agg #[.bool n3, .slice a3 xs.length c3, .slice b3 ys.length d3]) B1 rfl (fun U hU => by obtain ⟨r1, r2, r3, _⟩ := hU.cells; simp [results, Tryz.results86, go_sem, r1, r2, r3]) (fun U hU hK => ⟨_, rfl, ⟨_, _, _, ⟨_, _, _, _, rfl, hK _ _ _ hx3, hK _ _ _ hy3⟩, f1, f2, f3, f4⟩, hU _ _ hbW (by omega)⟩)
        · have h12 : ¬ (t.pk = 0 ∨ c = t.pk) := by omega
          by_cases h3 : c ≤ t.st
          · have HP : Hid ((0 : Rat) = paQ t c) := paQ_off hf hcc h12 (.inl h3)
            have g1 : (t.pk == 0) = false := by simp [h1]
            have g2 : (c == t.pk) = false := by simp [h2]
            have g3 : decide (c ≤ t.st) = true := decide_eq_true h3
            clear h1 h2 hf hbd hcd h12
            obtain ⟨st, pk, en⟩ := t
            dsimp only at *
            go_enter Tryz.func86, Tryz.ntmps86
            go_wp2_with fail
            rw [← hW]
            clear hW
            refine (hfo _).mono ?_
            rintro e u1 ⟨rfl, hb1⟩
            replace X1 := X1.below hb1
            replace B1 := B1.below hb1
            replace hbW := hbW.trans (hb1.mono hbW.size)
            clear hb1 hfo
            obtain ⟨p0, p1, p2, _⟩ := X1.cells
            go_wp2_with fail
            refine (scoord_any c _).mono ?_
            rintro e u2 ⟨rfl, rfl⟩
            rw [hcc]
            clear hcc
            go_wp2_with fail
            refine (szero_any _).mono ?_
            rintro e u3 ⟨v3, rfl, hF3, hb3⟩
            replace B1 := B1.below hb3
            replace hbW := hbW.trans (hb3.mono hbW.size)
            rw [HP.out] at hF3
            clear hb3 X1
            obtain ⟨n3, xs, ys, ⟨a3, c3, b3, d3, rfl, hx3, hy3⟩, f1, f2, f3, f4⟩ := hF3
            obtain ⟨q1, q2, q3, q4, q5, q6⟩ := B1.cells
            have hs := B1.lt
            go_wp2
            refine ret3 (v := .agg #[.bool n3, .slice a3 xs.length c3, .slice b3 ys.length d3]) B1 rfl (fun U hU => by obtain ⟨r1, r2, r3, _⟩ := hU.cells; simp [results, Tryz.results86, go_sem, r1, r2, r3]) (fun U hU hK => ⟨_, rfl, ⟨_, _, _, ⟨_, _, _, _, rfl, hK _ _ _ hx3, hK _ _ _ hy3⟩, f1, f2, f3, f4⟩, hU _ _ hbW (by omega)⟩)
          · by_cases h4 : t.en ≤ c
            · have HP : Hid ((0 : Rat) = paQ t c) := paQ_off hf hcc h12 (.inr h4)
              have g1 : (t.pk == 0) = false := by simp [h1]
              have g2 : (c == t.pk) = false := by simp [h2]
              have g3 : decide (c ≤ t.st) = false := decide_eq_false h3
              have g4 : decide (t.en ≤ c) = true := decide_eq_true h4
              clear h1 h2 hf hbd hcd h12
              obtain ⟨st, pk, en⟩ := t
              dsimp only at *
              go_enter Tryz.func86, Tryz.ntmps86
              go_wp2_with fail
              rw [← hW]
              clear hW
              refine (hfo _).mono ?_
              rintro e u1 ⟨rfl, hb1⟩
              replace X1 := X1.below hb1
              replace B1 := B1.below hb1
              replace hbW := hbW.trans (hb1.mono hbW.size)
              clear hb1 hfo
              obtain ⟨p0, p1, p2, _⟩ := X1.cells
              go_wp2_with fail
              refine (scoord_any c _).mono ?_
              rintro e u2 ⟨rfl, rfl⟩
              rw [hcc]
              clear hcc
              go_wp2_with fail
              refine (szero_any _).mono ?_
              rintro e u3 ⟨v3, rfl, hF3, hb3⟩
              replace B1 := B1.below hb3
              replace hbW := hbW.trans (hb3.mono hbW.size)
              rw [HP.out] at hF3
              clear hb3 X1
              obtain ⟨n3, xs, ys, ⟨a3, c3, b3, d3, rfl, hx3, hy3⟩, f1, f2, f3, f4⟩ := hF3
              obtain ⟨q1, q2, q3, q4, q5, q6⟩ := B1.cells
              have hs := B1.lt
              go_wp2
              refine ret3 (v := .agg #[.bool n3, .slice a3 xs.length c3, .slice b3 ys.length d3]) B1 rfl (fun U hU => by obtain ⟨r1, r2, r3, _⟩ := hU.cells; simp [results, Tryz.results86, go_sem, r1, r2, r3]) (fun U hU hK => ⟨_, rfl, ⟨_, _, _, ⟨_, _, _, _, rfl, hK _ _ _ hx3, hK _ _ _ hy3⟩, f1, f2, f3, f4⟩, hU _ _ hbW (by omega)⟩)
            · have h34 : ¬ (c ≤ t.st ∨ t.en ≤ c) := by omega
              by_cases h5 : c < t.pk
              · have HP : Hid (((c - t.st : Int) : Rat) / ((t.pk - t.st : Int) : Rat) = paQ t c) := paQ_up hf hcc h12 h34 h5
                have g1 : (t.pk == 0) = false := by simp [h1]
                have g2 : (c == t.pk) = false := by simp [h2]
                have g3 : decide (c ≤ t.st) = false := decide_eq_false h3
                have g4 : decide (t.en ≤ c) = false := decide_eq_false h4
                clear hf h12 h34
                have k1 : IntKind.i64.wrap (c - t.st) = c - t.st := wrapi64 (by omega) (by omega)
                have k2 : IntKind.i64.wrap (t.pk - t.st) = t.pk - t.st := wrapi64 (by omega) (by omega)
                have hm := fun U => smake_any (c - t.st) (t.pk - t.st) U (by omega) (by omega) (by omega) (by omega)
                clear h1 h2 hbd hcd
                obtain ⟨st, pk, en⟩ := t
                dsimp only at *
                go_enter Tryz.func86, Tryz.ntmps86
                go_wp2_with fail
                rw [← hW]
                clear hW
                refine (hfo _).mono ?_
                rintro e u1 ⟨rfl, hb1⟩
                replace X1 := X1.below hb1
                replace B1 := B1.below hb1
                replace hbW := hbW.trans (hb1.mono hbW.size)
                clear hb1 hfo
                obtain ⟨p0, p1, p2, _⟩ := X1.cells
                go_wp2_with fail
                refine (scoord_any c _).mono ?_
                rintro e u2 ⟨rfl, rfl⟩
                rw [hcc]
                clear hcc
                go_wp2_with fail
                refine (hm _).mono ?_
                rintro e u3 ⟨v3, rfl, hF3, hb3⟩
                replace B1 := B1.below hb3
                replace hbW := hbW.trans (hb3.mono hbW.size)
                rw [HP.out] at hF3
                clear hb3 X1
                obtain ⟨n3, xs, ys, ⟨a3, c3, b3, d3, rfl, hx3, hy3⟩, f1, f2, f3, f4⟩ := hF3
                obtain ⟨q1, q2, q3, q4, q5, q6⟩ := B1.cells
                have hs := B1.lt
                go_wp2
                refine ret3 (v := .agg #[.bool n3, .slice a3 xs.length c3, .slice b3 ys.length d3]) B1 rfl (fun U hU => by obtain ⟨r1, r2, r3, _⟩ := hU.cells; simp [results, Tryz.results86, go_sem, r1, r2, r3]) (fun U hU hK => ⟨_, rfl, ⟨_, _, _, ⟨_, _, _, _, rfl, hK _ _ _ hx3, hK _ _ _ hy3⟩, f1, f2, f3, f4⟩, hU _ _ hbW (by omega)⟩)
              · have HP : Hid (((t.en - c : Int) : Rat) / ((t.en - t.pk : Int) : Rat) = paQ t c) := paQ_down hf hcc h12 h34 h5
                have g1 : (t.pk == 0) = false := by simp [h1]
                have g2 : (c == t.pk) = false := by simp [h2]
                have g3 : decide (c ≤ t.st) = false := decide_eq_false h3
                have g4 : decide (t.en ≤ c) = false := decide_eq_false h4
                clear hf h12 h34
                have k1 : IntKind.i64.wrap (t.en - c) = t.en - c := wrapi64 (by omega) (by omega)
                have k2 : IntKind.i64.wrap (t.en - t.pk) = t.en - t.pk := wrapi64 (by omega) (by omega)
                have hm := fun U => smake_any (t.en - c) (t.en - t.pk) U (by omega) (by omega) (by omega) (by omega)
                clear h1 h2 hbd hcd
                obtain ⟨st, pk, en⟩ := t
                dsimp only at *
                go_enter Tryz.func86, Tryz.ntmps86
                go_wp2_with fail
                rw [← hW]
                clear hW
                refine (hfo _).mono ?_
                rintro e u1 ⟨rfl, hb1⟩
                replace X1 := X1.below hb1
                replace B1 := B1.below hb1
                replace hbW := hbW.trans (hb1.mono hbW.size)
                clear hb1 hfo
                obtain ⟨p0, p1, p2, _⟩ := X1.cells
                go_wp2_with fail
                refine (scoord_any c _).mono ?_
                rintro e u2 ⟨rfl, rfl⟩
                rw [hcc]
                clear hcc
                go_wp2_with fail
                refine (hm _).mono ?_
                rintro e u3 ⟨v3, rfl, hF3, hb3⟩
                replace B1 := B1.below hb3
                replace hbW := hbW.trans (hb3.mono hbW.size)
                rw [HP.out] at hF3
                clear hb3 X1
                obtain ⟨n3, xs, ys, ⟨a3, c3, b3, d3, rfl, hx3, hy3⟩, f1, f2, f3, f4⟩ := hF3
                obtain ⟨q1, q2, q3, q4, q5, q6⟩ := B1.cells
                have hs := B1.lt
                go_wp2
                refine ret3 (v := .agg #[.bool n3, .slice a3 xs.length c3, .slice b3 ys.length d3]) B1 rfl (fun U hU => by obtain ⟨r1, r2, r3, _⟩ := hU.cells; simp [results, Tryz.results86, go_sem, r1, r2, r3]) (fun U hU hK => ⟨_, rfl, ⟨_, _, _, ⟨_, _, _, _, rfl, hK _ _ _ hx3, hK _ _ _ hy3⟩, f1, f2, f3, f4⟩, hU _ _ hbW (by omega)⟩)

end Go.Proofs.YtchdoakoelfenaaGreat

namespace Go.Proofs.YtchdoakoelfenaaGreat
open Go.RowKit Go.Lib Classical
set_option linter.unusedSimpArgs false
set_option linter.unusedVariables false

theorem cell_alloc1 {u : World} {o : Obj} {k i : Nat} (hk : k < u.heap.size) : (u.alloc o).cell? ⟨k, i, none⟩ = u.cell? ⟨k, i, none⟩ :=
  World.cell?_of_block (w := u) (a := ⟨k, i, none⟩) (Below.heap_alloc _ _ _ hk)
theorem cell_alloc2 {u : World} {o o' : Obj} {k i : Nat} (hk : k < u.heap.size) : ((u.alloc o).alloc o').cell? ⟨k, i, none⟩ = u.cell? ⟨k, i, none⟩ :=
  (cell_alloc1 (by simp; omega)).trans (cell_alloc1 hk)
theorem cell_s2 {u : World} {b b' : Nat} {x y z x' y' z' : Value} {k i : Nat} (hk : k ≠ b) (hk' : k ≠ b') :
    ((((((u.setCell ⟨b, 0, none⟩ x).setCell ⟨b, 1, none⟩ y).setCell ⟨b, 2, none⟩ z).setCell ⟨b', 0, none⟩ x').setCell ⟨b', 1, none⟩ y').setCell ⟨b', 2, none⟩ z').cell? ⟨k, i, none⟩ = u.cell? ⟨k, i, none⟩ :=
  (cell_set3 hk').trans (cell_set3 hk)
theorem cell_sa {u : World} {b : Nat} {x y z : Value} {o : Obj} {k i : Nat} (hk : k ≠ b) (hk' : k < u.heap.size) :
    ((((u.setCell ⟨b, 0, none⟩ x).setCell ⟨b, 1, none⟩ y).setCell ⟨b, 2, none⟩ z).alloc o).cell? ⟨k, i, none⟩ = u.cell? ⟨k, i, none⟩ :=
  (cell_alloc1 (by simpa [World.setCell] using hk')).trans (cell_set3 hk)
theorem sto_new' (t : TypeId) (u : World) (x y z : Value) {k : Nat} (h : u.heap.size = k) : Sto t u (u.alloc (.cells #[x, y, z] t)) k x y z := h ▸ sto_new t u x y z
/-- Two blocks, one behind the other. -/
theorem Sto.two {t : TypeId} {u U V : World} {b b' : Nat} {x y z x' y' z' : Value} (s : Sto t u U b x y z) (r : Sto t U V b' x' y' z') (h : b ≠ b') :
    ∃ W, W = V ∧ Box t W b x y z ∧ Box t W b' x' y' z' ∧ (∀ B w, Below B w u → B ≤ b → B ≤ b' → Below B w W) ∧ (∀ a c xs, Rd u a c xs → Rd W a c xs) ∧ (∀ t' k x y z, k ≠ b → k ≠ b' → Box t' u k x y z → Box t' W k x y z) :=
  ⟨V, rfl, r.2.2.2 _ _ _ _ _ h s.1, r.1, fun _ _ hb h1 h2 => r.2.1 _ _ (s.2.1 _ _ hb h1) h2, fun _ _ _ hr => r.2.2.1 _ _ _ (s.2.2.1 _ _ _ hr), fun _ _ _ _ _ h1 h2 hB => r.2.2.2 _ _ _ _ _ h2 (s.2.2.2 _ _ _ _ _ h1 hB)⟩
theorem Ct.keep {u U : World} {v : Value} {k : Nat} {q : Rat} (h : Ct u v k q) (hK : ∀ a c xs, Rd u a c xs → Rd U a c xs) : Ct U v k q := by
  obtain ⟨n0, x0, y0, ⟨e1, e2, e3, e4, e5, e6, e7⟩, e8⟩ := h
  exact ⟨n0, x0, y0, ⟨e1, e2, e3, e4, e5, hK _ _ _ e6, hK _ _ _ e7⟩, e8⟩
theorem after2d {t s : TypeId} {w u : World} {x y z x' y' z' : Value} (hb : Below ((w.alloc (.cells #[x, y, z] t)).alloc (.cells #[x', y', z'] s)).drew.heap.size ((w.alloc (.cells #[x, y, z] t)).alloc (.cells #[x', y', z'] s)).drew u) :
    Box t u w.heap.size x y z ∧ Box s u (w.heap.size + 1) x' y' z' ∧ Below w.heap.size w u := after2 (Below.drew1.trans hb)

theorem formedF_any (k : Nat) (q : Rat) (v : Value) (w : World) (h : Fr w v k q) (hk : k ≤ 400000000) :
    Calls Tryz.prog 109 #[v] w fun e w' => e = .returned (.bool true) ∧ Below w.heap.size w w' := by
  obtain ⟨n, xs, ys, ⟨a, c, a', c', rfl, hx, hy⟩, hf, lx, ly, _⟩ := h
  refine (formed_any _ _ _ _ _ _ _ _ hx hy (by omega) (by omega)).mono ?_
  rintro e u ⟨rfl, hb⟩
  exact ⟨ret_bool (decide_eq_true hf), hb⟩

/-- Two formed writings of one number. -/
def Two (w : World) (n : Bool) (a : Option Addr) (c : Nat) (xs : List Nat) (a' : Option Addr) (c' : Nat) (ys : List Nat) (m : Bool) (b : Option Addr) (d : Nat) (ps : List Nat) (b' : Option Addr) (d' : Nat) (qs : List Nat) (q : Rat) : Prop :=
  Rd w a c xs ∧ Rd w a' c' ys ∧ Rd w b d ps ∧ Rd w b' d' qs ∧ Fmd n xs ys ∧ xs.length ≤ 9 ∧ ys.length ≤ 9 ∧ qv n xs ys = q ∧ Fmd m ps qs ∧ ps.length ≤ 9 ∧ qs.length ≤ 9 ∧ qv m ps qs = q

end Go.Proofs.YtchdoakoelfenaaGreat

namespace Go.Proofs.YtchdoakoelfenaaGreat
open Go.RowKit
set_option linter.unusedSimpArgs false
set_option linter.unusedVariables false

set_option maxHeartbeats 400000 in
set_option maxRecDepth 100000 in
theorem rdouble_any (a : Option Addr) (cap : Nat) (xs : List Nat) (w : World) (h : Rd w a cap xs) (hl : xs.length ≤ 500000000) :
    Calls Tryz.prog 82 #[.slice a xs.length cap, .int .u32 0] w fun e w' => ∃ a' cap' zs, e = .returned (.slice a' zs.length cap') ∧ V zs = 2 * V xs ∧ Tr zs ∧ Res 136 w.heap.size w' a' cap' zs ∧ Below w.heap.size w w' := by
  go_enter Tryz.func82, Tryz.ntmps82
  go_wp2_with fail
  refine (radd_any _ _ _ _ _ _ _ h h hl hl).mono ?_
  rintro e w1 ⟨a1, c1, z1, rfl, hv1, ht1, hr1, hb1⟩
  go_wp2
  go_ret
  exact ⟨a1, c1, z1, rfl, by omega, ht1, hr1, hb1⟩


theorem len_of_mul {zs xs ys : List Nat} {q : Nat} (ht : Tr zs) (lx : Lim xs) (ly : Lim ys) (hv : V zs = V xs * q) (hq : q ≤ V ys) : zs.length ≤ xs.length + ys.length := by
  refine len_le_of_V ht ?_
  rw [hv, Nat.pow_add]
  have h1 := V_lt lx
  have h2 := V_lt ly
  calc V xs * q ≤ V xs * V ys := Nat.mul_le_mul_left _ hq
    _ < 4294967296 ^ xs.length * 4294967296 ^ ys.length := Nat.mul_lt_mul'' h1 h2

set_option maxHeartbeats 1000000 in
set_option maxRecDepth 100000 in
theorem rmul_any (a : Option Addr) (cap : Nat) (xs : List Nat) (b : Option Addr) (cbp : Nat) (ys : List Nat) (w : World) (ha : Rd w a cap xs) (hb : Rd w b cbp ys) (hla : xs.length ≤ 100000000) (hlb : ys.length ≤ 100000000) :
    Calls Tryz.prog 63 #[.slice a xs.length cap, .slice b ys.length cbp] w fun e w' =>
      ∃ a' cap' zs, e = .returned (.slice a' zs.length cap') ∧ V zs = V xs * V ys ∧ Tr zs ∧ Res 136 w.heap.size w' a' cap' zs ∧ Below w.heap.size w w' := by
  go_enter Tryz.func63, Tryz.ntmps63
  go_wp2_with fail
  refine (rbits_any _ _ _ _ (by omega)).mono ?_
  rintro e w' ⟨rfl, rfl⟩
  go_wp2
  go_loopw [5, 6] (fun out i wr => ∃ (k : Nat) (q : Int) (a' : Option Addr) (cap' : Nat) (zs : List Nat), k ≤ 32 * ys.length ∧ q = (k : Int) - 1 ∧ i = .int .i64 q ∧ out = .slice a' zs.length cap' ∧ Tr zs ∧ V zs = V xs * (V ys / 2 ^ k) ∧ Res 136 w.heap.size wr a' cap' zs ∧ Below w.heap.size w wr) (fun _ i _ => (intOf i + 1).toNat)
  case atStart =>
    refine ⟨32 * ys.length, _, none, 0, [], Nat.le_refl _, ?_, rfl, rfl, tr_nil, ?_, ⟨Lim.nil, World.ownsRow_nil _ _ _ _⟩, Below.refl _ _⟩
    · omega
    · rw [Nat.div_eq_of_lt (by rw [← pow_32]; exact V_lt hb.lim)]; rfl
  case round =>
    obtain ⟨k, q, a', cap', zs, hk, hq, rfl, rfl, htr, hv, hres, hnx⟩ := hrel
    have HV : Hid (V zs = V xs * (V ys / 2 ^ k)) := hv
    have hzl := len_of_mul htr ha.lim hb.lim hv (Nat.div_le_self _ _)
    have hsz := hnx.size
    clear hv
    by_cases hk0 : k = 0
    · subst hk0
      obtain rfl : q = -1 := by omega
      clear hq
      go_wp2
      go_ret
      refine ⟨a', cap', zs, rfl, ?_, htr, hres, hnx⟩
      rw [HV.out, Nat.pow_zero, Nat.div_one]
    · obtain ⟨j, rfl⟩ : ∃ j, k = j + 1 := ⟨k - 1, by omega⟩
      obtain rfl : q = (j : Int) := by omega
      clear hq
      have hstep : V ys / 2 ^ j = 2 * (V ys / 2 ^ (j + 1)) + V ys / 2 ^ j % 2 := by
        rw [Nat.pow_succ, ← Nat.div_div_eq_div_mul]; omega
      have HS : Hid (V ys / 2 ^ j = 2 * (V ys / 2 ^ (j + 1)) + V ys / 2 ^ j % 2) := hstep
      clear hstep
      go_wp2_with fail
      refine (rdouble_any _ _ _ _ hres.rd (by omega)).mono ?_
      rintro e w1 ⟨a1, c1, z1, rfl, hv1, ht1, hr1, hb1⟩
      have hb1' : Below w.heap.size w w1 := hnx.trans (hb1.mono hsz)
      have HV1 : Hid (V z1 = V xs * (2 * (V ys / 2 ^ (j + 1)))) := by show _ = _; rw [hv1, HV.out]; exact Nat.mul_left_comm _ _ _
      have hz1 := len_of_mul ht1 ha.lim hb.lim HV1.out (by have := HS.out; have := Nat.div_le_self (V ys) (2 ^ j); omega)
      clear hv1
      go_wp2_with fail
      refine (rbit_any _ _ _ _ _ (hb.below hb1') (by omega)).mono ?_
      rintro e w' ⟨rfl, rfl⟩
      rcases Nat.mod_two_eq_zero_or_one (V ys / 2 ^ j) with hb0 | hb0
      · rw [hb0]
        have HB : Hid (V ys / 2 ^ j % 2 = 0) := hb0
        clear hb0
        go_wp2
        go_roundw
        case rel =>
          refine ⟨j, _, a1, c1, z1, by omega, rfl, by go_num, rfl, ht1, ?_, hr1.mono hsz, hb1'⟩
          have := HS.out; rw [HB.out, Nat.add_zero] at this
          rw [HV1.out, this]
        case measure => simp [intOf]
      · rw [hb0]
        have HB : Hid (V ys / 2 ^ j % 2 = 1) := hb0
        clear hb0
        go_wp2_with fail
        refine (radd_any _ _ _ _ _ _ _ hr1.rd (ha.below hb1') (by omega) (by omega)).mono ?_
        rintro e w2 ⟨a2, c2, z2, rfl, hv2, ht2, hr2, hb2⟩
        have hb2' : Below w.heap.size w w2 := hb1'.trans (hb2.mono hb1'.size)
        have HV2 : Hid (V z2 = V xs * (V ys / 2 ^ j)) := by
          show _ = _
          have := HS.out; rw [HB.out] at this
          rw [hv2, HV1.out, this, Nat.mul_add]; omega
        clear hv2
        go_wp2
        go_roundw
        case rel => exact ⟨j, _, a2, c2, z2, by omega, rfl, by go_num, rfl, ht2, HV2.out, hr2.mono hb1'.size, hb2'⟩
        case measure => simp [intOf]

end Go.Proofs.YtchdoakoelfenaaGreat

namespace Go.Proofs.YtchdoakoelfenaaGreat
open Go.RowKit
set_option linter.unusedSimpArgs false
set_option linter.unusedVariables false

set_option maxHeartbeats 2000000 in
set_option maxRecDepth 100000 in
theorem smul_any (k l : Nat) (q r : Rat) (v v' : Value) (w : World) (h : Ct w v k q) (h' : Ct w v' l r) (hk : k ≤ 1000000) (hl : l ≤ 1000000) (hk2 : 2 ≤ k) (hl2 : 2 ≤ l) :
    Calls Tryz.prog 69 #[v, v'] w fun e w' => ∃ v', e = .returned v' ∧ Fr w' v' (k + l) (q * r) ∧ Below w.heap.size w w' := by
  have hX := h
  have hY := h'
  obtain ⟨n, xs, ys, ⟨a, c, a', c', rfl, _, _⟩, _⟩ := h
  obtain ⟨m, ps, qs, ⟨b, d, b', d', rfl, _, _⟩, _⟩ := h'
  go_enter Tryz.func69, Tryz.ntmps69
  go_wp2_with fail
  refine (sfair_any k q _ _ (hX.below (al3 _ _ _)) (by omega) hk2).mono ?_
  rintro e u1 ⟨v1, rfl, hF1, hb1⟩
  replace hY := (hY.below (al3 _ _ _)).below hb1
  obtain ⟨B1, B2, B3, hbW⟩ := after3 hb1
  clear hb1 hX
  obtain ⟨p1, p2, p3, p4, p5, p6⟩ := B1.cells
  obtain ⟨q1, q2, q3, _⟩ := B2.cells
  have hs1 := B1.lt
  obtain ⟨n1, x1, y1, ⟨a1, c1, b1, d1, rfl, hx1, hy1⟩, f1, l1, l1', e1⟩ := hF1
  go_wp2_with fail
  obtain ⟨U, hU, B1', hbU, hK, ho⟩ := set3_world B1 (.bool n1) (.slice a1 x1.length c1) (.slice b1 y1.length d1)
  rw [← hU]
  replace B2 := B2.other ho (by omega)
  replace B3 := B3.other ho (by omega)
  replace hbW := hbU _ _ hbW (by omega)
  replace hx1 := hK _ _ _ hx1
  replace hy1 := hK _ _ _ hy1
  replace hY := hY.keep hK
  clear hU hbU hK ho B1 p1 p2 p3 p4 p5 p6 q1 q2 q3 hs1
  refine (sfair_any l r _ _ hY (by omega) hl2).mono ?_
  rintro e u2 ⟨v2, rfl, hF2, hb2⟩
  replace hx1 := hx1.below hb2
  replace hy1 := hy1.below hb2
  replace B1' := B1'.below hb2
  replace B2 := B2.below hb2
  replace B3 := B3.below hb2
  replace hbW : Below w.heap.size w u2 := hbW.trans (hb2.mono hbW.size)
  clear hb2 hY
  obtain ⟨n2, x2, y2, ⟨a2, c2, b2, d2, rfl, hx2, hy2⟩, f2, l2, l2', e2⟩ := hF2
  have y10 := f1.den
  have y20 := f2.den
  obtain ⟨p4, p5, p6, p7, p8, p9⟩ := B2.cells
  have hs2 := B2.lt
  go_wp2_with fail
  obtain ⟨U, hU, B2', hbU, hK, ho⟩ := set3_world B2 (.bool n2) (.slice a2 x2.length c2) (.slice b2 y2.length d2)
  rw [← hU]
  replace B1' := B1'.other ho (by omega)
  replace B3 := B3.other ho (by omega)
  replace hbW := hbU _ _ hbW (by omega)
  replace hx1 := hK _ _ _ hx1
  replace hy1 := hK _ _ _ hy1
  replace hx2 := hK _ _ _ hx2
  replace hy2 := hK _ _ _ hy2
  clear hU hbU hK ho B2 p4 p5 p6 p7 p8 p9 hs2
  obtain ⟨p1, p2, p3, _⟩ := B1'.cells
  obtain ⟨p4, p5, p6, _⟩ := B2'.cells
  have lx1 := hx1.lim
  have ly1 := hy1.lim
  have lx2 := hx2.lim
  have ly2 := hy2.lim
  have st : Stg 0 := rfl
  go_region_held3 (fun u => u.cell? ⟨w.heap.size, 0, none⟩ = some (.bool n1) ∧ u.cell? ⟨w.heap.size, 1, none⟩ = some (.slice a1 x1.length c1) ∧ u.cell? ⟨w.heap.size, 2, none⟩ = some (.slice b1 y1.length d1) ∧ u.cell? ⟨w.heap.size + 1, 0, none⟩ = some (.bool n2) ∧ u.cell? ⟨w.heap.size + 1, 1, none⟩ = some (.slice a2 x2.length c2) ∧ u.cell? ⟨w.heap.size + 1, 2, none⟩ = some (.slice b2 y2.length d2)) (first | (go_keep; done) | (refine ⟨(cell_set3 (by omega)).trans p1, (cell_set3 (by omega)).trans p2, (cell_set3 (by omega)).trans p3, (cell_set3 (by omega)).trans p4, (cell_set3 (by omega)).trans p5, (cell_set3 (by omega)).trans p6⟩))
    (first
      | (go_at_call 63
         have _sg : Stg 0 := st
         refine (rmul_any _ _ _ _ _ _ _ (hx1.below Below.drew1) (hx2.below Below.drew1) ?_ ?_).mono ?_
         · omega
         · omega
         rintro e um1 ⟨am1, cm1, zs1, rfl, hvm1, htm1, hrm1, hbm1⟩
         replace hbm1 : Below U.heap.size U um1 := Below.drew1.trans hbm1
         replace hx1 := hx1.below hbm1
         replace hy1 := hy1.below hbm1
         replace hx2 := hx2.below hbm1
         replace hy2 := hy2.below hbm1
         replace B1' := B1'.below hbm1
         replace B2' := B2'.below hbm1
         replace B3 := B3.below hbm1
         replace hbW : Below w.heap.size w um1 := hbW.trans (hbm1.mono hbW.size)
         have rm1 := hrm1.rd
         clear hrm1 hbm1 st _sg
         have st : Stg 1 := rfl
         clear p1 p2 p3 p4 p5 p6
         obtain ⟨p1, p2, p3, _⟩ := B1'.cells
         obtain ⟨p4, p5, p6, _⟩ := B2'.cells)
      | (go_at_call 63
         have _sg : Stg 1 := st
         refine (rmul_any _ _ _ _ _ _ _ hy1 hy2 ?_ ?_).mono ?_
         · omega
         · omega
         rintro e um2 ⟨am2, cm2, zs2, rfl, hvm2, htm2, hrm2, hbm2⟩
         replace hx1 := hx1.below hbm2
         replace hy1 := hy1.below hbm2
         replace hx2 := hx2.below hbm2
         replace hy2 := hy2.below hbm2
         replace B1' := B1'.below hbm2
         replace B2' := B2'.below hbm2
         replace B3 := B3.below hbm2
         replace rm1 := rm1.below hbm2
         replace hbW : Below w.heap.size w um2 := hbW.trans (hbm2.mono hbW.size)
         have rm2 := hrm2.rd
         clear hrm2 hbm2 st _sg
         have st : Stg 2 := rfl
         clear p1 p2 p3 p4 p5 p6
         obtain ⟨p1, p2, p3, _⟩ := B1'.cells
         obtain ⟨p4, p5, p6, _⟩ := B2'.cells)
      | (go_at_call 64
         have _sg : Stg 2 := st
         refine (slow_any (k + l) _ _ _ _ _ _ _ _ rm1 rm2 (by rw [hvm2]; exact Nat.mul_ne_zero y10 y20) (prod_len lx1 lx2 htm1 l1 l2 hvm1) (prod_len ly1 ly2 htm2 l1' l2' hvm2) ?_).mono ?_
         · omega
         rintro e ul ⟨vl, rfl, hF, hbl⟩
         replace hx1 := hx1.below hbl
         replace hy1 := hy1.below hbl
         replace hx2 := hx2.below hbl
         replace hy2 := hy2.below hbl
         replace B1' := B1'.below hbl
         replace B2' := B2'.below hbl
         replace B3 := B3.below hbl
         replace hbW : Below w.heap.size w ul := hbW.trans (hbl.mono hbW.size)
         clear hbl st _sg
         have st : Stg 3 := rfl
         clear p1 p2 p3 p4 p5 p6
         obtain ⟨p1, p2, p3, _⟩ := B1'.cells
         obtain ⟨p4, p5, p6, _⟩ := B2'.cells
         obtain ⟨q1, q2, q3, q4, q5, q6⟩ := B3.cells
         have hs := B3.lt
         obtain ⟨n3, x3, y3, ⟨a3, c3, b3, d3, rfl, hx3, hy3⟩, hF⟩ := hF))
  rw [qv_times hvm1 hvm2, e1, e2] at hF
  go_wp2
  exact ret3 (v := .agg #[.bool n3, .slice a3 x3.length c3, .slice b3 y3.length d3]) B3 rfl (fun U hU => by obtain ⟨r1, r2, r3, _⟩ := hU.cells; simp [results, Tryz.results69, go_sem, r1, r2, r3]) (fun U hU hK => ⟨_, rfl, ⟨_, _, _, ⟨_, _, _, _, rfl, hK _ _ _ hx3, hK _ _ _ hy3⟩, hF⟩, hU _ _ hbW (by omega)⟩)

end Go.Proofs.YtchdoakoelfenaaGreat
