/-
  tents.Formed, tents.coordinateOf: the walks.
  A tent's part, case by case (plain mathematics).
  tents.Part: the walk.
  tents.Region, tents.Everywhere, tents.Peak: the walks.
  foundrylaw09.awake, foundrylaw09.plain: the walks.
-/
import Derived.Test.YtdhkpgndpgacbaaDoorZ10
import Derived.Test.YtdhkpgndpgacbaaDoorZ9
import Derived.Laws.MakeOwn
namespace Go.Proofs.YtdhkpgndpgacbaaDoor
open Go.RowKit Go.Maps
set_option linter.unusedSimpArgs false
set_option linter.unusedVariables false

theorem riB_iff {t : Te} : riB t = true ↔ (0 ≤ t.st ∧ t.st < t.pk ∧ (t.pk < t.en ∨ (t.pk = 16384 ∧ t.en = 16384))) := by
  simp [riB]
/-- As the code asks it. -/
theorem tfB_neg {t : Te} (h1 : crd t.st = true) (h2 : crd t.pk = true) (h3 : crd t.en = true) (h : t.pk < 0) : riB ⟨-t.en, -t.pk, -t.st⟩ = tfB t := by
  rw [crdT] at h1 h2 h3
  rw [Bool.eq_iff_iff, riB_iff, tfB_iff]
  unfold TfT
  dsimp only
  omega
theorem tfB_pos {t : Te} (h1 : crd t.st = true) (h2 : crd t.pk = true) (h3 : crd t.en = true) (h : ¬ t.pk < 0) (hz : ¬ (t.st = 0 ∧ t.pk = 0 ∧ t.en = 0)) : riB t = tfB t := by
  rw [crdT] at h1 h2 h3
  rw [Bool.eq_iff_iff, riB_iff, tfB_iff]
  unfold TfT
  omega

set_option maxHeartbeats 2000000 in
set_option maxRecDepth 100000 in
theorem cformT_any (t : Te) (w : World) :
    Calls Tryd.prog 8 #[.agg #[.int .i64 t.st, .int .i64 t.pk, .int .i64 t.en]] w fun e w' => e = .returned (.bool (tfB t)) ∧ Below w.heap.size w w' := by
  obtain ⟨W, hW, X1, hbW⟩ : ∃ W, W = w.alloc (.cells #[.int .i64 t.st, .int .i64 t.pk, .int .i64 t.en] 23) ∧ Box 23 W w.heap.size (.int .i64 t.st) (.int .i64 t.pk) (.int .i64 t.en) ∧ Below w.heap.size w W := ⟨_, rfl, Box.new _ _ _ _ _, al1 _⟩
  cases c1 : crd t.st with
  | false =>
    have HF : Hid (tfB t = false) := tfB_no (fun h => by rw [crdT.2 h.1] at c1; cases c1)
    obtain ⟨st, pk, en⟩ := t
    dsimp only at *
    go_enter Tryd.func8, Tryd.ntmps8
    go_wp2_with fail
    refine (coord_any st _).mono ?_
    rintro e u1 ⟨rfl, rfl⟩
    rw [c1]
    go_wp2
    go_ret
    exact ⟨rt_bool HF.out.symm, hW ▸ hbW⟩
  | true =>
    cases c2 : crd t.pk with
    | false =>
      have HF : Hid (tfB t = false) := tfB_no (fun h => by rw [crdT.2 h.2.1] at c2; cases c2)
      obtain ⟨st, pk, en⟩ := t
      dsimp only at *
      go_enter Tryd.func8, Tryd.ntmps8
      go_wp2_with fail
      refine (coord_any st _).mono ?_
      rintro e u1 ⟨rfl, rfl⟩
      rw [c1]
      go_wp2_with fail
      refine (coord_any pk _).mono ?_
      rintro e u1 ⟨rfl, rfl⟩
      rw [c2]
      go_wp2
      go_ret
      exact ⟨rt_bool HF.out.symm, hW ▸ hbW⟩
    | true =>
      cases c3 : crd t.en with
      | false =>
        have HF : Hid (tfB t = false) := tfB_no (fun h => by rw [crdT.2 h.2.2.1] at c3; cases c3)
        obtain ⟨st, pk, en⟩ := t
        dsimp only at *
        go_enter Tryd.func8, Tryd.ntmps8
        go_wp2_with fail
        refine (coord_any st _).mono ?_
        rintro e u1 ⟨rfl, rfl⟩
        rw [c1]
        go_wp2_with fail
        refine (coord_any pk _).mono ?_
        rintro e u1 ⟨rfl, rfl⟩
        rw [c2]
        go_wp2_with fail
        refine (coord_any en _).mono ?_
        rintro e u1 ⟨rfl, rfl⟩
        rw [c3]
        go_wp2
        go_ret
        exact ⟨rt_bool HF.out.symm, hW ▸ hbW⟩
      | true =>
        by_cases hn : t.pk < 0
        · have HF : Hid (riB ⟨-t.en, -t.pk, -t.st⟩ = tfB t) := tfB_neg c1 c2 c3 hn
          have ht := fun U => turned_any t U c1 c2 c3
          have hr := fun U => rises_any ⟨-t.en, -t.pk, -t.st⟩ U
          obtain ⟨st, pk, en⟩ := t
          dsimp only at *
          go_enter Tryd.func8, Tryd.ntmps8
          go_wp2_with fail
          rw [← hW]
          clear hW
          refine (coord_any st _).mono ?_
          rintro e u1 ⟨rfl, rfl⟩
          rw [c1]
          obtain ⟨p0, p1, p2, _⟩ := X1.cells
          go_wp2_with fail
          refine (coord_any pk _).mono ?_
          rintro e u1 ⟨rfl, rfl⟩
          rw [c2]
          go_wp2_with fail
          refine (coord_any en _).mono ?_
          rintro e u1 ⟨rfl, rfl⟩
          rw [c3]
          clear c1 c2 c3
          go_wp2_with fail
          refine (ht _).mono ?_
          rintro e u1 ⟨rfl, hb1⟩
          replace hbW := hbW.trans (hb1.mono hbW.size)
          clear ht hb1 p0 p1 p2
          go_wp2_with fail
          refine (hr _).mono ?_
          rintro e u2 ⟨rfl, hb2⟩
          rw [HF.out]
          replace hbW := hbW.trans (hb2.mono hbW.size)
          clear hr hb2
          go_wp2
          go_ret
          exact ⟨rfl, hbW⟩
        · have HF : Hid (¬ (t.st = 0 ∧ t.pk = 0 ∧ t.en = 0) → riB t = tfB t) := tfB_pos c1 c2 c3 hn
          have HZ : Hid (t.st = 0 ∧ t.pk = 0 ∧ t.en = 0 → tfB t = true) := fun h => by
            rw [tfB_iff]
            unfold TfT
            omega
          have hr := fun U => rises_any t U
          obtain ⟨st, pk, en⟩ := t
          dsimp only at *
          go_enter Tryd.func8, Tryd.ntmps8
          go_wp2_with fail
          rw [← hW]
          clear hW
          refine (coord_any st _).mono ?_
          rintro e u1 ⟨rfl, rfl⟩
          rw [c1]
          obtain ⟨p0, p1, p2, _⟩ := X1.cells
          go_wp2_with fail
          refine (coord_any pk _).mono ?_
          rintro e u1 ⟨rfl, rfl⟩
          rw [c2]
          go_wp2_with fail
          refine (coord_any en _).mono ?_
          rintro e u1 ⟨rfl, rfl⟩
          rw [c3]
          clear c1 c2 c3
          by_cases s0 : st = 0
          · subst s0
            by_cases q0 : pk = 0
            · subst q0
              by_cases e0 : en = 0
              · subst e0
                go_wp2
                go_ret
                exact ⟨rt_bool (HZ.out (by simp)).symm, hbW⟩
              · go_wp2_with fail
                refine (hr _).mono ?_
                rintro e u2 ⟨rfl, hb2⟩
                rw [HF.out (by omega)]
                replace hbW := hbW.trans (hb2.mono hbW.size)
                clear hr hb2
                go_wp2
                go_ret
                exact ⟨rfl, hbW⟩
            · go_wp2_with fail
              refine (hr _).mono ?_
              rintro e u2 ⟨rfl, hb2⟩
              rw [HF.out (by omega)]
              replace hbW := hbW.trans (hb2.mono hbW.size)
              clear hr hb2
              go_wp2
              go_ret
              exact ⟨rfl, hbW⟩
          · go_wp2_with fail
            refine (hr _).mono ?_
            rintro e u2 ⟨rfl, hb2⟩
            rw [HF.out (by omega)]
            replace hbW := hbW.trans (hb2.mono hbW.size)
            clear hr hb2
            go_wp2
            go_ret
            exact ⟨rfl, hbW⟩

set_option maxHeartbeats 1000000 in
set_option maxRecDepth 100000 in
theorem coordOf_any (a : Option Addr) (cap : Nat) (cs : List Int) (k : Nat) (w : World) (h : Ri w a cap cs) (hk : k ≤ 1000000) :
    Calls Tryd.prog 39 #[.slice a cs.length cap, .int .i64 (k : Int)] w fun e w' => e = .returned (.int .i64 (cs.getD k 0)) ∧ Below w.heap.size w w' := by
  have k1 := h.lenB
  by_cases hkn : k < cs.length
  · obtain ⟨b, off, ea, hb, d0⟩ := h.at (Below.refl _ _) k hkn
    subst ea
    have g1 : (k : Int) < (cs.length : Int) := by omega
    generalize cs.getD k 0 = z at *
    clear h
    go_enter Tryd.func39, Tryd.ntmps39
    go_wp2
    go_ret
    exact ⟨rfl, Below.refl _ _⟩
  · have g1 : ¬ (k : Int) < (cs.length : Int) := by omega
    have HZ : Hid (cs.getD k 0 = 0) := by show _ = _; rw [List.getD_eq_getElem?_getD, List.getElem?_eq_none (by omega)]; rfl
    clear h
    go_enter Tryd.func39, Tryd.ntmps39
    go_wp2
    go_ret
    exact ⟨rt_int (by first | rfl | exact HZ.out.symm), Below.refl _ _⟩

end Go.Proofs.YtdhkpgndpgacbaaDoor

namespace Go.Proofs.YtdhkpgndpgacbaaDoor
open Go.RowKit Go.Maps
set_option linter.unusedSimpArgs false
set_option linter.unusedVariables false

theorem paQ_one {t : Te} {c : Int} (h1 : tfB t = true) (h2 : crd c = true) (h : t.pk = 0 ∨ c = t.pk) : ((1 : Int) : Rat) = paQ t c := by
  rw [paQ_yes h1 h2, if_pos h]
  rfl
theorem paQ_off {t : Te} {c : Int} (h1 : tfB t = true) (h2 : crd c = true) (h : ¬ (t.pk = 0 ∨ c = t.pk)) (h3 : c ≤ t.st ∨ t.en ≤ c) : ((0 : Int) : Rat) = paQ t c := by
  rw [paQ_yes h1 h2, if_neg h, if_pos h3]
  rfl
theorem paQ_up {t : Te} {c : Int} (h1 : tfB t = true) (h2 : crd c = true) (h : ¬ (t.pk = 0 ∨ c = t.pk)) (h3 : ¬ (c ≤ t.st ∨ t.en ≤ c)) (h4 : c < t.pk) : ((c - t.st : Int) : Rat) / ((t.pk - t.st : Int) : Rat) = paQ t c := by
  rw [paQ_yes h1 h2, if_neg h, if_neg h3, if_pos h4]
theorem paQ_down {t : Te} {c : Int} (h1 : tfB t = true) (h2 : crd c = true) (h : ¬ (t.pk = 0 ∨ c = t.pk)) (h3 : ¬ (c ≤ t.st ∨ t.en ≤ c)) (h4 : ¬ c < t.pk) : ((t.en - c : Int) : Rat) / ((t.en - t.pk : Int) : Rat) = paQ t c := by
  rw [paQ_yes h1 h2, if_neg h, if_neg h3, if_neg h4]

end Go.Proofs.YtdhkpgndpgacbaaDoor

namespace Go.Proofs.YtdhkpgndpgacbaaDoor
open Go.RowKit Go.Maps
set_option linter.unusedSimpArgs false
set_option linter.unusedVariables false

set_option maxHeartbeats 2000000 in
set_option maxRecDepth 100000 in
theorem cpart_any (t : Te) (c : Int) (w : World) (hc : I64 c) :
    Calls Tryd.prog 12 #[.agg #[.int .i64 t.st, .int .i64 t.pk, .int .i64 t.en], .int .i64 c] w fun e w' => ∃ v', e = .returned v' ∧ Fr w' v' 2 (paQ t c) ∧ Below w.heap.size w w' := by
  have hfo := fun U => cformT_any t U
  obtain ⟨W, hW, X1, B1, hbW⟩ := boxes2 23 34 w (.int .i64 t.st) (.int .i64 t.pk) (.int .i64 t.en) (.bool false) (.slice none 0 0) (.slice none 0 0)
  cases hf : tfB t with
  | false =>
    have HP : Hid (((0 : Int) : Rat) = paQ t c) := (paQ_no (fun h => by rw [hf] at h; cases h.1)).symm
    simp only [hf] at hfo
    clear hf
    obtain ⟨st, pk, en⟩ := t
    dsimp only at *
    go_enter Tryd.func12, Tryd.ntmps12
    go_wp2_with fail
    rw [← hW]
    clear hW
    refine (hfo _).mono ?_
    rintro e u1 ⟨rfl, hb1⟩
    replace X1 := X1.below hb1
    replace B1 := B1.below hb1
    replace hbW := hbW.trans (hb1.mono hbW.size)
    clear hb1 hfo
    obtain ⟨p0, p1, p2, _⟩ := X1.cells
    go_wp2_with fail
    refine (whole_any 0 _ (by decide) (by decide)).mono ?_
    rintro e u3 ⟨v3, rfl, hF3, hb3⟩
    replace B1 := B1.below hb3
    replace hbW := hbW.trans (hb3.mono hbW.size)
    rw [HP.out] at hF3
    clear hb3 X1
    obtain ⟨n3, xs, ys, ⟨a3, c3, b3, d3, rfl, hx3, hy3⟩, f1, f2, f3, f4⟩ := hF3
    obtain ⟨q1, q2, q3, q4, q5, q6⟩ := B1.cells
    have hs := B1.lt
    go_wp2
    refine ret3 (v := .agg #[.bool n3, .slice a3 xs.length c3, .slice b3 ys.length d3]) B1 rfl (fun U hU => by obtain ⟨r1, r2, r3, _⟩ := hU.cells; simp [results, Tryd.results12, go_sem, r1, r2, r3]) (fun U hU hK => ⟨_, rfl, ⟨_, _, _, ⟨_, _, _, _, rfl, hK _ _ _ hx3, hK _ _ _ hy3⟩, f1, f2, f3, f4⟩, hU _ _ hbW (by omega)⟩)
  | true =>
    have hbd := tfB_iff.1 hf
    unfold TfT at hbd
    simp only [hf] at hfo
    cases hcc : crd c with
    | false =>
      have HP : Hid (((0 : Int) : Rat) = paQ t c) := (paQ_no (fun h => by rw [hcc] at h; cases h.2)).symm
      clear hf hbd
      obtain ⟨st, pk, en⟩ := t
      dsimp only at *
      go_enter Tryd.func12, Tryd.ntmps12
      go_wp2_with fail
      rw [← hW]
      clear hW
      refine (hfo _).mono ?_
      rintro e u1 ⟨rfl, hb1⟩
      replace X1 := X1.below hb1
      replace B1 := B1.below hb1
      replace hbW := hbW.trans (hb1.mono hbW.size)
      clear hb1 hfo
      obtain ⟨p0, p1, p2, _⟩ := X1.cells
      go_wp2_with fail
      refine (coord_any c _).mono ?_
      rintro e u2 ⟨rfl, rfl⟩
      rw [hcc]
      clear hcc
      go_wp2_with fail
      refine (whole_any 0 _ (by decide) (by decide)).mono ?_
      rintro e u3 ⟨v3, rfl, hF3, hb3⟩
      replace B1 := B1.below hb3
      replace hbW := hbW.trans (hb3.mono hbW.size)
      rw [HP.out] at hF3
      clear hb3 X1
      obtain ⟨n3, xs, ys, ⟨a3, c3, b3, d3, rfl, hx3, hy3⟩, f1, f2, f3, f4⟩ := hF3
      obtain ⟨q1, q2, q3, q4, q5, q6⟩ := B1.cells
      have hs := B1.lt
      go_wp2
      refine ret3 (v := .agg #[.bool n3, .slice a3 xs.length c3, .slice b3 ys.length d3]) B1 rfl (fun U hU => by obtain ⟨r1, r2, r3, _⟩ := hU.cells; simp [results, Tryd.results12, go_sem, r1, r2, r3]) (fun U hU hK => ⟨_, rfl, ⟨_, _, _, ⟨_, _, _, _, rfl, hK _ _ _ hx3, hK _ _ _ hy3⟩, f1, f2, f3, f4⟩, hU _ _ hbW (by omega)⟩)
    | true =>
      have hcd := crdT.1 hcc
      by_cases h1 : t.pk = 0
      · have HP : Hid (((1 : Int) : Rat) = paQ t c) := paQ_one hf hcc (.inl h1)
        have g1 : (t.pk == 0) = true := by simp [h1]
        clear hf hbd hcd h1
        obtain ⟨st, pk, en⟩ := t
        dsimp only at *
        go_enter Tryd.func12, Tryd.ntmps12
        go_wp2_with fail
        rw [← hW]
        clear hW
        refine (hfo _).mono ?_
        rintro e u1 ⟨rfl, hb1⟩
        replace X1 := X1.below hb1
        replace B1 := B1.below hb1
        replace hbW := hbW.trans (hb1.mono hbW.size)
        clear hb1 hfo
        obtain ⟨p0, p1, p2, _⟩ := X1.cells
        go_wp2_with fail
        refine (coord_any c _).mono ?_
        rintro e u2 ⟨rfl, rfl⟩
        rw [hcc]
        clear hcc
        go_wp2_with fail
        refine (whole_any 1 _ (by decide) (by decide)).mono ?_
        rintro e u3 ⟨v3, rfl, hF3, hb3⟩
        replace B1 := B1.below hb3
        replace hbW := hbW.trans (hb3.mono hbW.size)
        rw [HP.out] at hF3
        clear hb3 X1
        obtain ⟨n3, xs, ys, ⟨a3, c3, b3, d3, rfl, hx3, hy3⟩, f1, f2, f3, f4⟩ := hF3
        obtain ⟨q1, q2, q3, q4, q5, q6⟩ := B1.cells
        have hs := B1.lt
        go_wp2
        refine ret3 (v := .agg #[.bool n3, .slice a3 xs.length c3, .slice b3 ys.length d3]) B1 rfl (fun U hU => by obtain ⟨r1, r2, r3, _⟩ := hU.cells; simp [results, Tryd.results12, go_sem, r1, r2, r3]) (fun U hU hK => ⟨_, rfl, ⟨_, _, _, ⟨_, _, _, _, rfl, hK _ _ _ hx3, hK _ _ _ hy3⟩, f1, f2, f3, f4⟩, hU _ _ hbW (by omega)⟩)
      · by_cases h2 : c = t.pk
        · have HP : Hid (((1 : Int) : Rat) = paQ t c) := paQ_one hf hcc (.inr h2)
          have g1 : (t.pk == 0) = false := by simp [h1]
          have g2 : (c == t.pk) = true := by simp [h2]
          clear h1 h2 hf hbd hcd
          obtain ⟨st, pk, en⟩ := t
          dsimp only at *
          go_enter Tryd.func12, Tryd.ntmps12
          go_wp2_with fail
          rw [← hW]
          clear hW
          refine (hfo _).mono ?_
          rintro e u1 ⟨rfl, hb1⟩
          replace X1 := X1.below hb1
          replace B1 := B1.below hb1
          replace hbW := hbW.trans (hb1.mono hbW.size)
          clear hb1 hfo
          obtain ⟨p0, p1, p2, _⟩ := X1.cells
          go_wp2_with fail
          refine (coord_any c _).mono ?_
          rintro e u2 ⟨rfl, rfl⟩
          rw [hcc]
          clear hcc
          go_wp2_with fail
          refine (whole_any 1 _ (by decide) (by decide)).mono ?_
          rintro e u3 ⟨v3, rfl, hF3, hb3⟩
          replace B1 := B1.below hb3
          replace hbW := hbW.trans (hb3.mono hbW.size)
          rw [HP.out] at hF3
          clear hb3 X1
          obtain ⟨n3, xs, ys, ⟨a3, c3, b3, d3, rfl, hx3, hy3⟩, f1, f2, f3, f4⟩ := hF3
          obtain ⟨q1, q2, q3, q4, q5, q6⟩ := B1.cells
          have hs := B1.lt
          go_wp2
          refine ret3 (v := .agg #[.bool n3, .slice a3 xs.length c3, .slice b3 ys.length d3]) B1 rfl (fun U hU => by obtain ⟨r1, r2, r3, _⟩ := hU.cells; simp [results, Tryd.results12, go_sem, r1, r2, r3]) (fun U hU hK => ⟨_, rfl, ⟨_, _, _, ⟨_, _, _, _, rfl, hK _ _ _ hx3, hK _ _ _ hy3⟩, f1, f2, f3, f4⟩, hU _ _ hbW (by omega)⟩)
        · have h12 : ¬ (t.pk = 0 ∨ c = t.pk) := by omega
          by_cases h3 : c ≤ t.st
          · have HP : Hid (((0 : Int) : Rat) = paQ t c) := paQ_off hf hcc h12 (.inl h3)
            have g1 : (t.pk == 0) = false := by simp [h1]
            have g2 : (c == t.pk) = false := by simp [h2]
            have g3 : decide (c ≤ t.st) = true := decide_eq_true h3
            clear h1 h2 hf hbd hcd h12
            obtain ⟨st, pk, en⟩ := t
            dsimp only at *
            go_enter Tryd.func12, Tryd.ntmps12
            go_wp2_with fail
            rw [← hW]
            clear hW
            refine (hfo _).mono ?_
            rintro e u1 ⟨rfl, hb1⟩
            replace X1 := X1.below hb1
            replace B1 := B1.below hb1
            replace hbW := hbW.trans (hb1.mono hbW.size)
            clear hb1 hfo
            obtain ⟨p0, p1, p2, _⟩ := X1.cells
            go_wp2_with fail
            refine (coord_any c _).mono ?_
            rintro e u2 ⟨rfl, rfl⟩
            rw [hcc]
            clear hcc
            go_wp2_with fail
            refine (whole_any 0 _ (by decide) (by decide)).mono ?_
            rintro e u3 ⟨v3, rfl, hF3, hb3⟩
            replace B1 := B1.below hb3
            replace hbW := hbW.trans (hb3.mono hbW.size)
            rw [HP.out] at hF3
            clear hb3 X1
            obtain ⟨n3, xs, ys, ⟨a3, c3, b3, d3, rfl, hx3, hy3⟩, f1, f2, f3, f4⟩ := hF3
            obtain ⟨q1, q2, q3, q4, q5, q6⟩ := B1.cells
            have hs := B1.lt
            go_wp2
            refine ret3 (v := .agg #[.bool n3, .slice a3 xs.length c3, .slice b3 ys.length d3]) B1 rfl (fun U hU => by obtain ⟨r1, r2, r3, _⟩ := hU.cells; simp [results, Tryd.results12, go_sem, r1, r2, r3]) (fun U hU hK => ⟨_, rfl, ⟨_, _, _, ⟨_, _, _, _, rfl, hK _ _ _ hx3, hK _ _ _ hy3⟩, f1, f2, f3, f4⟩, hU _ _ hbW (by omega)⟩)
          · by_cases h4 : t.en ≤ c
            · have HP : Hid (((0 : Int) : Rat) = paQ t c) := paQ_off hf hcc h12 (.inr h4)
              have g1 : (t.pk == 0) = false := by simp [h1]
              have g2 : (c == t.pk) = false := by simp [h2]
              have g3 : decide (c ≤ t.st) = false := decide_eq_false h3
              have g4 : decide (t.en ≤ c) = true := decide_eq_true h4
              clear h1 h2 hf hbd hcd h12
              obtain ⟨st, pk, en⟩ := t
              dsimp only at *
              go_enter Tryd.func12, Tryd.ntmps12
              go_wp2_with fail
              rw [← hW]
              clear hW
              refine (hfo _).mono ?_
              rintro e u1 ⟨rfl, hb1⟩
              replace X1 := X1.below hb1
              replace B1 := B1.below hb1
              replace hbW := hbW.trans (hb1.mono hbW.size)
              clear hb1 hfo
              obtain ⟨p0, p1, p2, _⟩ := X1.cells
              go_wp2_with fail
              refine (coord_any c _).mono ?_
              rintro e u2 ⟨rfl, rfl⟩
              rw [hcc]
              clear hcc
              go_wp2_with fail
              refine (whole_any 0 _ (by decide) (by decide)).mono ?_
              rintro e u3 ⟨v3, rfl, hF3, hb3⟩
              replace B1 := B1.below hb3
              replace hbW := hbW.trans (hb3.mono hbW.size)
              rw [HP.out] at hF3
              clear hb3 X1
              obtain ⟨n3, xs, ys, ⟨a3, c3, b3, d3, rfl, hx3, hy3⟩, f1, f2, f3, f4⟩ := hF3
              obtain ⟨q1, q2, q3, q4, q5, q6⟩ := B1.cells
              have hs := B1.lt
              go_wp2
              refine ret3 (v := .agg #[.bool n3, .slice a3 xs.length c3, .slice b3 ys.length d3]) B1 rfl (fun U hU => by obtain ⟨r1, r2, r3, _⟩ := hU.cells; simp [results, Tryd.results12, go_sem, r1, r2, r3]) (fun U hU hK => ⟨_, rfl, ⟨_, _, _, ⟨_, _, _, _, rfl, hK _ _ _ hx3, hK _ _ _ hy3⟩, f1, f2, f3, f4⟩, hU _ _ hbW (by omega)⟩)
            · have h34 : ¬ (c ≤ t.st ∨ t.en ≤ c) := by omega
              by_cases h5 : c < t.pk
              · have HP : Hid (((c - t.st : Int) : Rat) / ((t.pk - t.st : Int) : Rat) = paQ t c) := paQ_up hf hcc h12 h34 h5
                have g1 : (t.pk == 0) = false := by simp [h1]
                have g2 : (c == t.pk) = false := by simp [h2]
                have g3 : decide (c ≤ t.st) = false := decide_eq_false h3
                have g4 : decide (t.en ≤ c) = false := decide_eq_false h4
                clear hf h12 h34
                have k1 : IntKind.i64.wrap (c - t.st) = c - t.st := wrapi64 (by omega) (by omega)
                have k2 : IntKind.i64.wrap (t.pk - t.st) = t.pk - t.st := wrapi64 (by omega) (by omega)
                have hm := fun U => make_any (c - t.st) (t.pk - t.st) U (by omega) (by omega) (by omega) (by omega)
                clear h1 h2 hbd hcd
                obtain ⟨st, pk, en⟩ := t
                dsimp only at *
                go_enter Tryd.func12, Tryd.ntmps12
                go_wp2_with fail
                rw [← hW]
                clear hW
                refine (hfo _).mono ?_
                rintro e u1 ⟨rfl, hb1⟩
                replace X1 := X1.below hb1
                replace B1 := B1.below hb1
                replace hbW := hbW.trans (hb1.mono hbW.size)
                clear hb1 hfo
                obtain ⟨p0, p1, p2, _⟩ := X1.cells
                go_wp2_with fail
                refine (coord_any c _).mono ?_
                rintro e u2 ⟨rfl, rfl⟩
                rw [hcc]
                clear hcc
                go_wp2_with fail
                refine (hm _).mono ?_
                rintro e u3 ⟨v3, rfl, hF3, hb3⟩
                replace B1 := B1.below hb3
                replace hbW := hbW.trans (hb3.mono hbW.size)
                rw [HP.out] at hF3
                clear hb3 X1
                obtain ⟨n3, xs, ys, ⟨a3, c3, b3, d3, rfl, hx3, hy3⟩, f1, f2, f3, f4⟩ := hF3
                obtain ⟨q1, q2, q3, q4, q5, q6⟩ := B1.cells
                have hs := B1.lt
                go_wp2
                refine ret3 (v := .agg #[.bool n3, .slice a3 xs.length c3, .slice b3 ys.length d3]) B1 rfl (fun U hU => by obtain ⟨r1, r2, r3, _⟩ := hU.cells; simp [results, Tryd.results12, go_sem, r1, r2, r3]) (fun U hU hK => ⟨_, rfl, ⟨_, _, _, ⟨_, _, _, _, rfl, hK _ _ _ hx3, hK _ _ _ hy3⟩, f1, f2, f3, f4⟩, hU _ _ hbW (by omega)⟩)
              · have HP : Hid (((t.en - c : Int) : Rat) / ((t.en - t.pk : Int) : Rat) = paQ t c) := paQ_down hf hcc h12 h34 h5
                have g1 : (t.pk == 0) = false := by simp [h1]
                have g2 : (c == t.pk) = false := by simp [h2]
                have g3 : decide (c ≤ t.st) = false := decide_eq_false h3
                have g4 : decide (t.en ≤ c) = false := decide_eq_false h4
                clear hf h12 h34
                have k1 : IntKind.i64.wrap (t.en - c) = t.en - c := wrapi64 (by omega) (by omega)
                have k2 : IntKind.i64.wrap (t.en - t.pk) = t.en - t.pk := wrapi64 (by omega) (by omega)
                have hm := fun U => make_any (t.en - c) (t.en - t.pk) U (by omega) (by omega) (by omega) (by omega)
                clear h1 h2 hbd hcd
                obtain ⟨st, pk, en⟩ := t
                dsimp only at *
                go_enter Tryd.func12, Tryd.ntmps12
                go_wp2_with fail
                rw [← hW]
                clear hW
                refine (hfo _).mono ?_
                rintro e u1 ⟨rfl, hb1⟩
                replace X1 := X1.below hb1
                replace B1 := B1.below hb1
                replace hbW := hbW.trans (hb1.mono hbW.size)
                clear hb1 hfo
                obtain ⟨p0, p1, p2, _⟩ := X1.cells
                go_wp2_with fail
                refine (coord_any c _).mono ?_
                rintro e u2 ⟨rfl, rfl⟩
                rw [hcc]
                clear hcc
                go_wp2_with fail
                refine (hm _).mono ?_
                rintro e u3 ⟨v3, rfl, hF3, hb3⟩
                replace B1 := B1.below hb3
                replace hbW := hbW.trans (hb3.mono hbW.size)
                rw [HP.out] at hF3
                clear hb3 X1
                obtain ⟨n3, xs, ys, ⟨a3, c3, b3, d3, rfl, hx3, hy3⟩, f1, f2, f3, f4⟩ := hF3
                obtain ⟨q1, q2, q3, q4, q5, q6⟩ := B1.cells
                have hs := B1.lt
                go_wp2
                refine ret3 (v := .agg #[.bool n3, .slice a3 xs.length c3, .slice b3 ys.length d3]) B1 rfl (fun U hU => by obtain ⟨r1, r2, r3, _⟩ := hU.cells; simp [results, Tryd.results12, go_sem, r1, r2, r3]) (fun U hU hK => ⟨_, rfl, ⟨_, _, _, ⟨_, _, _, _, rfl, hK _ _ _ hx3, hK _ _ _ hy3⟩, f1, f2, f3, f4⟩, hU _ _ hbW (by omega)⟩)

end Go.Proofs.YtdhkpgndpgacbaaDoor

namespace Go.Proofs.YtdhkpgndpgacbaaDoor
open Go.RowKit Go.Maps
set_option linter.unusedSimpArgs false
set_option linter.unusedVariables false

theorem all_noT {l : List Te} {p : Te → Bool} {k : Nat} (hk : k < l.length) (h : p (l.getD k Te.none) = false) : l.all p = false := by
  rw [Bool.eq_false_iff]
  intro e
  have := allT.1 e k hk
  rw [h] at this
  cases this

set_option maxHeartbeats 1000000 in
set_option maxRecDepth 100000 in
theorem cregion_any (a : Option Addr) (cap : Nat) (l : List Te) (n : Int) (w : World) (h : Tz w a cap l) :
    Calls Tryd.prog 21 #[.slice a l.length cap, .int .i64 n] w fun e w' => e = .returned (.bool (rgB l n)) ∧ Below w.heap.size w w' := by
  have k1 := h.1
  have k2 := h.lenB
  by_cases hl : (l.length : Int) = n
  · have HR : Hid (rgB l n = l.all tfB) := by show _ = _; rw [rgB, decide_eq_true hl, Bool.and_true]
    have g1 : ((l.length : Int) != n) = false := by simp [hl]
    have HH : Hid (Tz w a cap l) := h
    clear hl h
    go_enter Tryd.func21, Tryd.ntmps21
    go_wp2
    go_loopw [13] (fun i wr => ∃ k : Nat, k ≤ l.length ∧ i = .int .i64 k ∧ (∀ j, j < k → tfB (l.getD j Te.none) = true) ∧ Below w.heap.size w wr) (fun i _ => l.length - (intOf i).toNat)
    case atStart => exact ⟨0, Nat.zero_le _, rfl, (fun j hj => by omega), Below.refl _ _⟩
    case round =>
      obtain ⟨k, hk, rfl, hok, hB⟩ := hrel
      have HOK : Hid (∀ j, j < k → tfB (l.getD j Te.none) = true) := hok
      clear hok
      by_cases hkn : k < l.length
      · obtain ⟨b, off, ea, hb, d0, d1, d2⟩ := HH.out.at hB k hkn
        subst ea
        have hfo := fun U => cformT_any (l.getD k Te.none) U
        obtain ⟨t, ht⟩ : ∃ t, l.getD k Te.none = t := ⟨_, rfl⟩
        have HT : Hid (l.getD k Te.none = t) := ht
        rw [ht] at d0 d1 d2 hfo
        clear ht
        cases hf : tfB t with
        | false =>
          have HF : Hid (rgB l n = false) := by show _ = _; rw [HR.out]; exact all_noT hkn (by rw [HT.out]; exact hf)
          simp only [hf] at hfo
          clear hf HT HOK
          obtain ⟨st, pk, en⟩ := t
          dsimp only at *
          go_wp2_with fail
          refine (hfo _).mono ?_
          rintro e u1 ⟨rfl, hb1⟩
          replace hB := (hB.alloc hB.size _).trans (hb1.mono (hB.alloc hB.size _).size)
          clear hb1 hfo
          go_wp2
          go_ret
          exact ⟨rt_bool HF.out.symm, hB⟩
        | true =>
          have HOK2 : Hid (∀ j, j < k + 1 → tfB (l.getD j Te.none) = true) := fun j hj => by
            rcases Nat.lt_or_ge j k with h1 | h1
            · exact HOK.out j h1
            · rw [show j = k by omega, HT.out]; exact hf
          simp only [hf] at hfo
          clear hf HT HOK
          obtain ⟨st, pk, en⟩ := t
          dsimp only at *
          go_wp2_with fail
          refine (hfo _).mono ?_
          rintro e u1 ⟨rfl, hb1⟩
          replace hB := (hB.alloc hB.size _).trans (hb1.mono (hB.alloc hB.size _).size)
          clear hb1 hfo
          go_wp2
          go_roundw
          case rel => exact ⟨k + 1, by omega, by go_num, HOK2.out, hB⟩
          case measure => simp [intOf]; omega
      · obtain rfl : k = l.length := by omega
        have HF : Hid (rgB l n = true) := by show _ = _; rw [HR.out]; exact allT.2 HOK.out
        clear HOK
        go_wp2
        go_ret
        exact ⟨rt_bool HF.out.symm, hB⟩
  · have HR : Hid (rgB l n = false) := by show _ = _; rw [rgB, decide_eq_false hl, Bool.and_false]
    have g1 : ((l.length : Int) != n) = true := by simp [hl]
    clear h hl
    go_enter Tryd.func21, Tryd.ntmps21
    go_wp2
    go_ret
    exact ⟨rt_bool HR.out.symm, Below.refl _ _⟩

set_option maxHeartbeats 1000000 in
set_option maxRecDepth 100000 in
theorem ceverywhere_any (a : Option Addr) (cap : Nat) (l : List Te) (w : World) (h : Tz w a cap l) :
    Calls Tryd.prog 23 #[.slice a l.length cap] w fun e w' => e = .returned (.bool (evB l)) ∧ Below w.heap.size w w' := by
  have k1 := h.1
  have k2 := h.lenB
  have HH : Hid (Tz w a cap l) := h
  clear h
  go_enter Tryd.func23, Tryd.ntmps23
  go_wp2
  go_loopw [7] (fun i wr => ∃ k : Nat, k ≤ l.length ∧ i = .int .i64 k ∧ (∀ j, j < k → decide ((l.getD j Te.none).pk = 0) = true) ∧ Below w.heap.size w wr) (fun i _ => l.length - (intOf i).toNat)
  case atStart => exact ⟨0, Nat.zero_le _, rfl, (fun j hj => by omega), Below.refl _ _⟩
  case round =>
    obtain ⟨k, hk, rfl, hok, hB⟩ := hrel
    have HOK : Hid (∀ j, j < k → decide ((l.getD j Te.none).pk = 0) = true) := hok
    clear hok
    by_cases hkn : k < l.length
    · obtain ⟨b, off, ea, hb, d0, d1, d2⟩ := HH.out.at hB k hkn
      subst ea
      obtain ⟨t, ht⟩ : ∃ t, l.getD k Te.none = t := ⟨_, rfl⟩
      have HT : Hid (l.getD k Te.none = t) := ht
      rw [ht] at d0 d1 d2
      clear ht
      cases hf : decide (t.pk = 0) with
      | false =>
        have HF : Hid (evB l = false) := all_noT (p := fun t => decide (t.pk = 0)) hkn (by rw [HT.out]; exact hf)
        have g1 : (t.pk != 0) = true := by have := of_decide_eq_false hf; simp [this]
        have hB9 := fun o => hB.alloc hB.size o
        clear hf HT HOK
        obtain ⟨st, pk, en⟩ := t
        dsimp only at *
        go_wp2
        go_ret
        exact ⟨rt_bool HF.out.symm, hB9 _⟩
      | true =>
        have HOK2 : Hid (∀ j, j < k + 1 → decide ((l.getD j Te.none).pk = 0) = true) := fun j hj => by
          rcases Nat.lt_or_ge j k with h1 | h1
          · exact HOK.out j h1
          · rw [show j = k by omega, HT.out]; exact hf
        have g1 : (t.pk != 0) = false := by have := of_decide_eq_true hf; simp [this]
        have hB9 := fun o => hB.alloc hB.size o
        clear hf HT HOK
        obtain ⟨st, pk, en⟩ := t
        dsimp only at *
        go_wp2
        go_roundw
        case rel => exact ⟨k + 1, by omega, by go_num, HOK2.out, hB9 _⟩
        case measure => simp [intOf]; omega
    · obtain rfl : k = l.length := by omega
      have HF : Hid (evB l = true) := allT.2 HOK.out
      clear HOK
      go_wp2
      go_ret
      exact ⟨rt_bool HF.out.symm, hB⟩

set_option maxHeartbeats 2000000 in
set_option maxRecDepth 100000 in
theorem cpeak_any (a : Option Addr) (cap : Nat) (l : List Te) (w : World) (h : Tz w a cap l) (hl : l.length ≤ 1000) :
    Calls Tryd.prog 22 #[.slice a l.length cap] w fun e w' => ∃ a' cap', e = .returned (.slice a' (pkK l l.length).length cap') ∧ Ri w' a' cap' (pkK l l.length) ∧ Below w.heap.size w w' := by
  obtain ⟨i0, hi0, hz0, hz1, hz2⟩ := info_parts infoA_i64
  obtain ⟨w1, hmk, hown, hgrow⟩ := run_makeSlice_owned w w.heap.size 46 3 i0 _ 1 Tryd.underlying46 hi0 hz0 hz1 .i64 .i64 l.length (by omega) (by rw [hz2]; omega) (by unfold maxLen; omega) (Nat.le_refl _)
  have hI0 : Io w.heap.size w1 (.slice (some ⟨w.heap.size, 0, none⟩) 0 l.length) (pkK l 0) := ⟨fun t ht => (by cases ht), hown⟩
  have hB1 : Below w.heap.size w w1 := (Below.refl _ _).grown hgrow (Nat.le_refl _) (fun k hk => by cases hk)
  clear hown hgrow hi0 hz0 hz1 hz2
  have HH : Hid (Tz w a cap l) := h
  clear h
  go_enter Tryd.func22, Tryd.ntmps22
  go_wp2
  go_loopw [3, 11] (fun v i wr => ∃ k : Nat, k ≤ l.length ∧ i = .int .i64 k ∧ Io w.heap.size wr v (pkK l k) ∧ Below w.heap.size w wr) (fun _ i _ => l.length - (intOf i).toNat)
  case atStart => exact ⟨0, Nat.zero_le _, rfl, hI0, hB1⟩
  case round =>
    obtain ⟨k, hk, rfl, hT, hB⟩ := hrel
    obtain ⟨a2, c2, rfl, hts⟩ := hT.slice
    have hlen := pkK_len hk
    rw [hlen] at hT ⊢
    have hll : (pkK l k).length + 1 ≤ 1000000 := by omega
    have HT : Hid (Io w.heap.size wr (.slice a2 k c2) (pkK l k)) := hT
    clear hT hlen hmk hI0 hB1
    by_cases hkn : k < l.length
    · clear hts
      obtain ⟨b, off, ea, hb, d0, d1, d2⟩ := HH.out.at hB k hkn
      subst ea
      have hw := HH.out.w hkn
      have HS : Hid (pkK l (k + 1) = pkK l k ++ [(l.getD k Te.none).pk]) := pkK_succ hkn
      generalize l.getD k Te.none = t at *
      obtain ⟨st, pk, en⟩ := t
      dsimp only at *
      have HI : Hid (I64 pk) := hw.2.1
      clear hw
      have hwz := hB.size
      have hT2 := HT.out.below (bl1 (.cells #[.int .i64 st, .int .i64 pk, .int .i64 en] 23))
      have hB2 : Below w.heap.size w (wr.alloc (.cells #[.int .i64 st, .int .i64 pk, .int .i64 en] 23)) := hB.alloc hB.size _
      have hT5 := hT2.below (bl1 (.cells #[.int .i64 pk] 3))
      have hN := heap_alloc_new (wr.alloc (.cells #[.int .i64 st, .int .i64 pk, .int .i64 en] 23)) (.cells #[.int .i64 pk] 3)
      rw [show (wr.alloc (.cells #[.int .i64 st, .int .i64 pk, .int .i64 en] 23)).heap.size = wr.heap.size + 1 by simp] at hN
      have n0 := cell_of_row _ (wr.heap.size + 1) 0 _ _ (0, 0) hN
      have hbs : w.heap.size ≤ ((wr.alloc (.cells #[.int .i64 st, .int .i64 pk, .int .i64 en] 23)).alloc (.cells #[.int .i64 pk] 3)).heap.size := by have := hB2.size; simp at this ⊢; omega
      clear hN
      go_wp2_with (at_builtin; refine wpList_append_int rfl _ _ rfl w.heap.size _ (pkK l k) rfl hT5 (wr.heap.size + 1) pk rfl n0 HI.out hll hbs ?_)
      intro v' w9 hT9 hgrow
      have hB9 : Below w.heap.size w w9 := (hB2.alloc hB2.size _).grown hgrow hbs (fun k hk => HT.out.lo hk)
      rw [← HS.out] at hT9
      clear hgrow hT5 n0 hbs
      go_wp2
      go_roundw
      case rel => exact ⟨k + 1, by omega, by go_num, hT9, hB9⟩
      case measure => simp [intOf]; omega
    · obtain rfl : k = l.length := by omega
      go_wp2
      go_ret
      exact ⟨a2, c2, by rw [pkK_len (Nat.le_refl _)]; rfl, hts, hB⟩

end Go.Proofs.YtdhkpgndpgacbaaDoor

namespace Go.Proofs.YtdhkpgndpgacbaaDoor
open Go.RowKit Go.Maps
set_option linter.unusedSimpArgs false
set_option linter.unusedVariables false

/-- What 'awake' is about. -/
def awT : Te := ⟨0, 8192, 16384⟩
theorem awT_tf : tfB awT = true := by decide +kernel
theorem awT_txt : txt (paQ awT 4096) = [49, 47, 50] := by decide +kernel

set_option maxHeartbeats 1000000 in
set_option maxRecDepth 100000 in
theorem awake9_any (w : World) (htab : Pow w) :
    Calls Tryd.prog 7 #[] w fun e w' => e = .returned (.bool true) ∧ Below w.heap.size w w' := by
  have hfo := fun U => cformT_any awT U
  have hpa := fun U => cpart_any awT 4096 U ⟨by decide, by decide⟩
  have hev := fun U => ceverywhere_any none 0 [] U (Tz.nil U none 0 (Nat.zero_le _) (fun _ => rfl))
  simp only [awT_tf] at hfo
  obtain ⟨q, hq⟩ : ∃ q, paQ awT 4096 = q := ⟨_, rfl⟩
  have HT : Hid (txt q = [49, 47, 50]) := by show _ = _; rw [← hq]; exact awT_txt
  simp only [hq] at hpa
  simp only [awT] at hfo hpa
  simp only [List.length_nil, show evB [] = true from rfl] at hev
  obtain ⟨W, hW, X1, hbW⟩ : ∃ W, W = w.alloc (.cells #[.int .i64 0, .int .i64 8192, .int .i64 16384] 23) ∧ Box 23 W w.heap.size (.int .i64 0) (.int .i64 8192) (.int .i64 16384) ∧ Below w.heap.size w W := ⟨_, rfl, Box.new _ _ _ _ _, al1 _⟩
  have HB : Hid (Pow w) := htab
  clear htab hq
  go_enter Tryd.func7, Tryd.ntmps7
  go_wp2_with fail
  rw [← hW]
  clear hW
  refine (hfo _).mono ?_
  rintro e u1 ⟨rfl, hb1⟩
  replace X1 := X1.below hb1
  replace hbW := hbW.trans (hb1.mono hbW.size)
  clear hb1 hfo
  obtain ⟨p0, p1, p2, _⟩ := X1.cells
  go_wp2_with fail
  refine (hpa _).mono ?_
  rintro e u2 ⟨v2, rfl, hF2, hb2⟩
  replace hbW := hbW.trans (hb2.mono hbW.size)
  clear hb2 hpa p0 p1 p2 X1
  go_wp2_with fail
  refine (qtext_any 2 _ _ _ hF2.ct (by decide) (by decide) (HB.out.below hbW)).mono ?_
  rintro e u3 ⟨rfl, hb3⟩
  replace hbW := hbW.trans (hb3.mono hbW.size)
  rw [HT.out]
  clear hb3 hF2
  go_wp2_with fail
  refine (hev _).mono ?_
  rintro e u4 ⟨rfl, hb4⟩
  replace hbW := hbW.trans (hb4.mono hbW.size)
  clear hb4 hev
  go_wp2
  go_ret
  exact ⟨rfl, hbW⟩

set_option maxHeartbeats 1000000 in
set_option maxRecDepth 100000 in
/-- foundrylaw09.plain: the same value. -/
theorem plain9_any (k : Nat) (q : Rat) (v : Value) (w : World) (h : Ct w v k q) :
    Calls Tryd.prog 11 #[v] w fun e w' => e = .returned v ∧ Below w.heap.size w w' := by
  obtain ⟨n, xs, ys, ⟨a, c, a', c', rfl, _, _⟩, _⟩ := h
  go_enter Tryd.func11, Tryd.ntmps11
  go_wp2
  exact bodyPost_ret (v := .agg #[.bool n, .slice a xs.length c, .slice a' ys.length c']) (by simp [results, Tryd.results11, go_sem]) rfl ⟨rfl, al2 _ _⟩

end Go.Proofs.YtdhkpgndpgacbaaDoor
