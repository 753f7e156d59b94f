/-
  foundrylaw08.NormOnce: the walk.
-/
import Derived.Test.YtdpafdeoepbhaaaZ25
import Derived.Test.YtdpafdeoepbhaaaZ26
import Derived.Test.YtdpafdeoepbhaaaZ13
import Derived.Test.YtdpafdeoepbhaaaZ19
import Derived.Deep.CutRange
namespace Go.Proofs.Ytdpafdeoepbhaaa
open Go.RowKit Go.Maps
set_option linter.unusedSimpArgs false
set_option linter.unusedVariables false

set_option maxHeartbeats 8000000 in
set_option maxRecDepth 100000 in
theorem normOnce_any (a : Option Addr) (cap : Nat) (l : List Ax) (b : Option Addr) (bc : Nat) (m : List (List Pr)) (pa : Option Addr) (pc : Nat) (ps : List Int) (w : World) (h : As w a cap l) (hm : Pzz w b bc m) (hp : Ri w pa pc ps) :
    Calls Try.prog 5 #[.slice a l.length cap, .slice b m.length bc, .slice pa ps.length pc] w fun e w' => e = .returned (.bool true) ∧ Below w.heap.size w w' := by
  have z1 := h.lenB
  have z2 := hm.lenB
  have z3 := hp.lenB
  go_enter Try.func5, Try.ntmps5
  go_wp2_with fail
  refine (awake8_any _).mono ?_
  rintro e u1 ⟨rfl, hb1⟩
  have hbW := hb1
  replace h := h.below hb1
  replace hm := hm.below hb1
  replace hp := hp.below hb1
  clear hb1
  go_wp2_with fail
  refine (few8_any a cap l.length b bc m pa pc ps.length _ hm z1 z3).mono ?_
  rintro e u2 ⟨q, rfl, hq, hb2⟩
  replace h := h.below hb2
  replace hm := hm.below hb2
  replace hp := hp.below hb2
  replace hbW := hbW.trans (hb2.mono hbW.size)
  clear hb2
  cases q with
  | false =>
    clear h hm hp
    go_wp2_with fail
    refine (awake8_any _).mono ?_
    rintro e u3 ⟨rfl, hb3⟩
    replace hbW := hbW.trans (hb3.mono hbW.size)
    clear hb3
    go_wp2
    go_ret
    exact ⟨rfl, hbW⟩
  | true =>
    replace hq := (hq rfl).2
    have hfi := cfit_any a cap l b bc m u2 h hm
    cases hf : fiB l m with
    | false =>
      rw [hf] at hfi
      clear h hm hp hf
      go_wp2_with fail
      refine hfi.mono ?_
      rintro e u3 ⟨rfl, hb3⟩
      replace hbW := hbW.trans (hb3.mono hbW.size)
      clear hb3 hfi
      go_wp2_with fail
      refine (awake8_any _).mono ?_
      rintro e u4 ⟨rfl, hb4⟩
      replace hbW := hbW.trans (hb4.mono hbW.size)
      clear hb4
      go_wp2
      go_ret
      exact ⟨rfl, hbW⟩
    | true =>
      rw [hf] at hfi
      have HE : Hid (exE l m = 0) := exE_yes hf
      have HLX : Hid ((exL l m ps).length = l.length) := by show _ = _; rw [exL_yes hf, exK_len]
      have HLA : Hid ((atL l m ps).length = l.length) := atL_yes hf ps
      have HAT : Hid (∀ i, i < l.length → (atL l m ps).getD i 0 = to14 ((exL l m ps).getD i 0)) := fun i hi => by rw [atL_get hf _ hi, exL_yes hf, exK_get _ _ _ hi]
      have HIN : Hid (∀ i, i < l.length → ((-1 : Int) : Rat) ≤ (exL l m ps).getD i 0 ∧ (exL l m ps).getD i 0 ≤ ((1 : Int) : Rat)) := fun i hi => by rw [exL_yes hf, exK_get _ _ _ hi]; exact exQ_in hf ps i
      clear hf
      go_wp2_with fail
      refine hfi.mono ?_
      rintro e u3 ⟨rfl, hb3⟩
      replace h := h.below hb3
      replace hm := hm.below hb3
      replace hp := hp.below hb3
      replace hbW := hbW.trans (hb3.mono hbW.size)
      clear hb3 hfi
      have hat := cat_any a cap l b bc m pa pc ps u3 h hm hp (by omega)
      rw [HE.out, HLA.out] at hat
      go_wp2_with fail
      refine hat.mono ?_
      rintro e u4 ⟨ra, rc, rfl, hR, hb4⟩
      replace h := h.below hb4
      replace hm := hm.below hb4
      replace hp := hp.below hb4
      replace hbW := hbW.trans (hb4.mono hbW.size)
      clear hb4 hat
      have hex := cexact_any a cap l b bc m pa pc ps u4 h hm hp (by omega)
      rw [HE.out, HLX.out] at hex
      go_wp2_with fail
      refine hex.mono ?_
      rintro e u5 ⟨xa, xc, rfl, hX, hb5⟩
      replace hR := hR.below hb5
      replace hbW := hbW.trans (hb5.mono hbW.size)
      clear hb5 hex h hm hp
      have HR : Hid (Ri u5 ra rc (atL l m ps)) := hR
      have HX : Hid (Rz u5 xa xc 10 (exL l m ps)) := hX
      have HBW : Hid (Below w.heap.size w u5) := hbW
      clear hR hX hbW
      have g9 : ((l.length : Int) != (l.length : Int)) = false := by simp
      go_wp2
      go_loopw [11] (fun i wr => ∃ k : Nat, k ≤ l.length ∧ i = .int .i64 k ∧ Below u5.heap.size u5 wr) (fun i _ => l.length - (intOf i).toNat)
      case atStart => exact ⟨0, Nat.zero_le _, rfl, Below.refl _ _⟩
      case round =>
        obtain ⟨j, hj, rfl, hB⟩ := hrel
        by_cases hjn : j < l.length
        · have hbW : Below w.heap.size w wr := HBW.out.trans (hB.mono HBW.out.size)
          have hbR : Below wr.heap.size wr wr := Below.refl _ _
          obtain ⟨b1, o1, e1, q1, x1⟩ := HR.out.at hB j (by rw [HLA.out]; exact hjn)
          subst e1
          obtain ⟨b2, o2, x, y, z, e2, q2, y0, y1, y2, hF⟩ := HX.out.at hB j (by rw [HLX.out]; exact hjn)
          subst e2
          rw [HAT.out j hjn] at x1
          have HQI := HIN.out j hjn
          generalize (exL l m ps).getD j 0 = q at *
          obtain ⟨nx, xs, ys, ⟨ax, cx, ay, cy, e3, hx, hy⟩, hF3⟩ := hF
          have hF : Fr wr (.agg #[x, y, z]) 10 q := ⟨nx, xs, ys, ⟨ax, cx, ay, cy, e3, hx, hy⟩, hF3⟩
          simp at e3
          obtain ⟨rfl, rfl, rfl⟩ := e3
          clear hx hy hF3
          have hnr := t14_near HQI.1 HQI.2
          have hti := t14_in q
          obtain ⟨c, hc⟩ : ∃ c, to14 q = c := ⟨_, rfl⟩
          rw [hc] at x1 hnr hti
          have HC : Hid (to14 q = c) := hc
          clear hc HQI
          obtain ⟨D, hD⟩ : ∃ D, ((c : Int) : Rat) / ((16384 : Int) : Rat) - q = D := ⟨_, rfl⟩
          rw [hD] at hnr
          have HD : Hid (((c : Int) : Rat) / ((16384 : Int) : Rat) - q = D) := hD
          clear hD
          have gs1 : decide (0 < sgnQ (D - ((1 : Int) : Rat) / ((32768 : Int) : Rat))) = false := decide_eq_false (fun hh => Rat.not_lt.2 hnr.1 (sgn_pos.1 hh))
          have gs2 : decide (sgnQ (D - ((-1 : Int) : Rat) / ((32768 : Int) : Rat)) ≤ 0) = false := decide_eq_false (by have := sgn_pos.2 hnr.2; omega)
          obtain ⟨s1, hs1⟩ : ∃ s, sgnQ (D - ((1 : Int) : Rat) / ((32768 : Int) : Rat)) = s := ⟨_, rfl⟩
          obtain ⟨s2, hs2⟩ : ∃ s, sgnQ (D - ((-1 : Int) : Rat) / ((32768 : Int) : Rat)) = s := ⟨_, rfl⟩
          rw [hs1] at gs1
          rw [hs2] at gs2
          have HS1 : Hid (sgnQ (D - ((1 : Int) : Rat) / ((32768 : Int) : Rat)) = s1) := hs1
          have HS2 : Hid (sgnQ (D - ((-1 : Int) : Rat) / ((32768 : Int) : Rat)) = s2) := hs2
          clear hs1 hs2 hnr
          have hwr : IntKind.i64.wrap (j : Int) = j := wrapi64 (by omega) (by omega)
          have gcc : (c != c) = false := by simp
          have C0 : Cl wr b1 (o1 + j) (.int .i64 c) := ⟨Nat.lt_of_lt_of_le q1 hB.size, x1⟩
          have C1 : Cl wr b2 (o2 + j * 3) (.bool nx) := ⟨Nat.lt_of_lt_of_le q2 hB.size, y0⟩
          have C2 : Cl wr b2 (o2 + j * 3 + 1) (.slice ax xs.length cx) := ⟨Nat.lt_of_lt_of_le q2 hB.size, y1⟩
          have C3 : Cl wr b2 (o2 + j * 3 + 2) (.slice ay ys.length cy) := ⟨Nat.lt_of_lt_of_le q2 hB.size, y2⟩
          have HC4 : Hid (Cl wr b1 (o1 + j) (.int .i64 c) ∧ Cl wr b2 (o2 + j * 3) (.bool nx) ∧ Cl wr b2 (o2 + j * 3 + 1) (.slice ax xs.length cx) ∧ Cl wr b2 (o2 + j * 3 + 2) (.slice ay ys.length cy)) := ⟨C0, C1, C2, C3⟩
          have HXE : Hid (Fr wr (.agg #[.bool nx, .slice ax xs.length cx, .slice ay ys.length cy]) 10 q) := hF
          have HBR : Hid (Below w.heap.size w wr) := hbW
          clear q1 q2
          go_upto_region 10 with fail
          go_cut [12] from 52 to 89 (fun s12 wx => ∃ g8 n8 a8 x8 c8 b8 y8 d8, s12 = .pointer (some ⟨g8, 0, none⟩) ∧ Box 44 wx g8 (.bool n8) (.slice a8 x8 c8) (.slice b8 y8 d8) ∧ Ct wx (.agg #[.bool n8, .slice a8 x8 c8, .slice b8 y8 d8]) 13 D ∧ wr.heap.size ≤ g8 ∧ Below wr.heap.size wr wx)
          case first =>
            refine wp_region_held_drew (S := (fun u => u.cell? ⟨b1, o1 + j, none⟩ = some (.int .i64 c) ∧ u.cell? ⟨b2, o2 + j * 3, none⟩ = some (.bool nx) ∧ u.cell? ⟨b2, o2 + j * 3 + 1, none⟩ = some (.slice ax xs.length cx) ∧ u.cell? ⟨b2, o2 + j * 3 + 2, none⟩ = some (.slice ay ys.length cy))) (by kernel_rfl) ?_ (fun hHeld => ?_)
            · (try dsimp only)
              go_keep
            have hdr : Below wr.heap.size wr wr.drew := Below.drew1
            generalize wr.drew = ud1 at hdr hHeld ⊢
            replace C0 := C0.below hdr
            replace C1 := C1.below hdr
            replace C2 := C2.below hdr
            replace C3 := C3.below hdr
            replace hF := hF.below hdr
            replace hbW : Below w.heap.size w ud1 := hbW.trans (hdr.mono hbW.size)
            replace hbR : Below wr.heap.size wr ud1 := hbR.trans (hdr.mono hbR.size)
            clear hdr
            refine hT 0 hHeld ?_
            refine hT 1 hHeld ?_
            refine hT 2 hHeld ?_
            refine hT 3 hHeld ?_
            refine hT 5 hHeld ?_
            refine hT 6 hHeld ?_
            refine hT 7 hHeld ?_
            refine hT 8 hHeld ?_
            refine wpAnyH_ready (rs := [4, 10]) (by kernel_rfl) (by simp) (hCons (i := 4) rfl (by rfl) (fun K hK => ?_) (hCons (i := 10) rfl (by rfl) (fun K hK => ?_) AllReadyH.nil))
            · go_simp
              refine (of14_any c _ (by omega) (by omega)).mono ?_
              rintro e u1 ⟨v4, rfl, hf4, hb1⟩
              replace C0 := C0.below hb1
              replace C1 := C1.below hb1
              replace C2 := C2.below hb1
              replace C3 := C3.below hb1
              replace hF := hF.below hb1
              replace hbW : Below w.heap.size w u1 := hbW.trans (hb1.mono hbW.size)
              replace hbR : Below wr.heap.size wr u1 := hbR.trans (hb1.mono hbR.size)
              clear hb1
              go_wp2_with fail
              refine hK.out _ _ ?_ (fun hHeld => ?_)
              · (try dsimp only)
                exact ⟨C0.2, C1.2, C2.2, C3.2⟩
              clear hK K
              try simp only [Act.put, List.setIfInBounds_toArray, List.set_cons_zero, List.set_cons_succ]
              refine wpAnyH_ready (rs := [9, 10]) (by kernel_rfl) (by simp) (hCons (i := 9) rfl (by rfl) (fun K hK => ?_) (hCons (i := 10) rfl (by rfl) (fun K hK => ?_) AllReadyH.nil))
              · go_simp
                refine (qsub_any 2 10 _ _ _ _ _ hf4.ct hF.ct (by decide) (by decide) (by decide) (by decide)).mono ?_
                rintro e u2 ⟨v8, rfl, hF8, hb2⟩
                replace C0 := C0.below hb2
                replace C1 := C1.below hb2
                replace C2 := C2.below hb2
                replace C3 := C3.below hb2
                replace hF := hF.below hb2
                replace hf4 := hf4.below hb2
                replace hbW : Below w.heap.size w u2 := hbW.trans (hb2.mono hbW.size)
                replace hbR : Below wr.heap.size wr u2 := hbR.trans (hb2.mono hbR.size)
                clear hb2
                rw [HD.out] at hF8
                have hM8 := hF8.ct
                obtain ⟨n8, x8, y8, ⟨a8, c8, b8, d8, rfl, _, _⟩, _⟩ := hF8
                go_wp2_with fail
                refine hK.out _ _ ?_ (fun hHeld => ?_)
                · (try dsimp only)
                  exact ⟨C0.2, C1.2, C2.2, C3.2⟩
                clear hK K
                try simp only [Act.put, List.setIfInBounds_toArray, List.set_cons_zero, List.set_cons_succ]
                refine hCall (i := 10) rfl (by kernel_rfl) (by rfl) (fun K hK => ?_)
                go_simp
                obtain ⟨u23, hU, B8, hb9⟩ : ∃ U, U = u2.alloc (.cells #[.bool false, .slice none 0 0, .slice none 0 0] 44) ∧ Box 44 U u2.heap.size (.bool false) (.slice none 0 0) (.slice none 0 0) ∧ Below u2.heap.size u2 U := ⟨_, rfl, Box.new _ _ _ _ _, al1 _⟩
                rw [← hU]
                clear hU
                have n81 := hbR.size
                have n82 := hbW.size
                replace C0 := C0.below hb9
                replace C1 := C1.below hb9
                replace C2 := C2.below hb9
                replace C3 := C3.below hb9
                replace hF := hF.below hb9
                replace hf4 := hf4.below hb9
                replace hM8 := hM8.below hb9
                replace hbW : Below w.heap.size w u23 := hbW.trans (hb9.mono hbW.size)
                replace hbR : Below wr.heap.size wr u23 := hbR.trans (hb9.mono hbR.size)
                clear hb9
                generalize u2.heap.size = g8 at B8 n81 n82 ⊢
                obtain ⟨p00, p01, p02, _⟩ := B8.cells
                refine hK.out _ _ ?_ (fun hHeld => ?_)
                · (try dsimp only)
                  exact ⟨C0.2, C1.2, C2.2, C3.2⟩
                clear hK K
                try simp only [Act.put, List.setIfInBounds_toArray, List.set_cons_zero, List.set_cons_succ]
                refine hCall (i := 11) rfl (by kernel_rfl) (by rfl) (fun K hK => ?_)
                go_simp
                obtain ⟨u24, hU, A8, hbU, hK9, ho⟩ := set3_world B8 (.bool n8) (.slice a8 x8.length c8) (.slice b8 y8.length d8)
                rw [← hU]
                clear hU
                replace hbW := hbU _ _ hbW (by omega)
                replace hbR := hbU _ _ hbR (by omega)
                replace hM8 := hM8.keep hK9
                clear hbU hK9 ho C0 C1 C2 C3 hF
                obtain ⟨C0, C1, C2, C3⟩ := HC4.out
                replace C0 := C0.below hbR
                replace C1 := C1.below hbR
                replace C2 := C2.below hbR
                replace C3 := C3.below hbR
                clear p00 p01 p02
                obtain ⟨p00, p01, p02, _⟩ := A8.cells
                refine hK.out _ _ ?_ (fun hHeld => ?_)
                · (try dsimp only)
                  exact ⟨C0.2, C1.2, C2.2, C3.2⟩
                clear hK K
                try simp only [Act.put, List.setIfInBounds_toArray, List.set_cons_zero, List.set_cons_succ]
                refine wpAnyH_done (by kernel_rfl) ?_ _
                clear hHeld
                go_wp2_with fail
                go_meet
                exact ⟨g8, _, _, _, _, _, _, _, rfl, A8, hM8, n81, hbR⟩
              · go_simp
                obtain ⟨u22, hU, B8, hb9⟩ : ∃ U, U = u1.alloc (.cells #[.bool false, .slice none 0 0, .slice none 0 0] 44) ∧ Box 44 U u1.heap.size (.bool false) (.slice none 0 0) (.slice none 0 0) ∧ Below u1.heap.size u1 U := ⟨_, rfl, Box.new _ _ _ _ _, al1 _⟩
                rw [← hU]
                clear hU
                have n81 := hbR.size
                have n82 := hbW.size
                replace C0 := C0.below hb9
                replace C1 := C1.below hb9
                replace C2 := C2.below hb9
                replace C3 := C3.below hb9
                replace hF := hF.below hb9
                replace hf4 := hf4.below hb9
                replace hbW : Below w.heap.size w u22 := hbW.trans (hb9.mono hbW.size)
                replace hbR : Below wr.heap.size wr u22 := hbR.trans (hb9.mono hbR.size)
                clear hb9
                generalize u1.heap.size = g8 at B8 n81 n82 ⊢
                obtain ⟨p00, p01, p02, _⟩ := B8.cells
                refine hK.out _ _ ?_ (fun hHeld => ?_)
                · (try dsimp only)
                  exact ⟨C0.2, C1.2, C2.2, C3.2⟩
                clear hK K
                try simp only [Act.put, List.setIfInBounds_toArray, List.set_cons_zero, List.set_cons_succ]
                refine hCall (i := 9) rfl (by kernel_rfl) (by rfl) (fun K hK => ?_)
                go_simp
                refine (qsub_any 2 10 _ _ _ _ _ hf4.ct hF.ct (by decide) (by decide) (by decide) (by decide)).mono ?_
                rintro e u3 ⟨v8, rfl, hF8, hb3⟩
                replace C0 := C0.below hb3
                replace C1 := C1.below hb3
                replace C2 := C2.below hb3
                replace C3 := C3.below hb3
                replace hF := hF.below hb3
                replace hf4 := hf4.below hb3
                replace B8 := B8.below hb3
                replace hbW : Below w.heap.size w u3 := hbW.trans (hb3.mono hbW.size)
                replace hbR : Below wr.heap.size wr u3 := hbR.trans (hb3.mono hbR.size)
                clear hb3
                rw [HD.out] at hF8
                have hM8 := hF8.ct
                obtain ⟨n8, x8, y8, ⟨a8, c8, b8, d8, rfl, _, _⟩, _⟩ := hF8
                clear p00 p01 p02
                obtain ⟨p00, p01, p02, _⟩ := B8.cells
                go_wp2_with fail
                refine hK.out _ _ ?_ (fun hHeld => ?_)
                · (try dsimp only)
                  exact ⟨C0.2, C1.2, C2.2, C3.2⟩
                clear hK K
                try simp only [Act.put, List.setIfInBounds_toArray, List.set_cons_zero, List.set_cons_succ]
                refine hCall (i := 11) rfl (by kernel_rfl) (by rfl) (fun K hK => ?_)
                go_simp
                obtain ⟨u24, hU, A8, hbU, hK9, ho⟩ := set3_world B8 (.bool n8) (.slice a8 x8.length c8) (.slice b8 y8.length d8)
                rw [← hU]
                clear hU
                replace hbW := hbU _ _ hbW (by omega)
                replace hbR := hbU _ _ hbR (by omega)
                replace hM8 := hM8.keep hK9
                clear hbU hK9 ho C0 C1 C2 C3 hF
                obtain ⟨C0, C1, C2, C3⟩ := HC4.out
                replace C0 := C0.below hbR
                replace C1 := C1.below hbR
                replace C2 := C2.below hbR
                replace C3 := C3.below hbR
                clear p00 p01 p02
                obtain ⟨p00, p01, p02, _⟩ := A8.cells
                refine hK.out _ _ ?_ (fun hHeld => ?_)
                · (try dsimp only)
                  exact ⟨C0.2, C1.2, C2.2, C3.2⟩
                clear hK K
                try simp only [Act.put, List.setIfInBounds_toArray, List.set_cons_zero, List.set_cons_succ]
                refine wpAnyH_done (by kernel_rfl) ?_ _
                clear hHeld
                go_wp2_with fail
                go_meet
                exact ⟨g8, _, _, _, _, _, _, _, rfl, A8, hM8, n81, hbR⟩
            · go_simp
              obtain ⟨u21, hU, B8, hb9⟩ : ∃ U, U = ud1.alloc (.cells #[.bool false, .slice none 0 0, .slice none 0 0] 44) ∧ Box 44 U ud1.heap.size (.bool false) (.slice none 0 0) (.slice none 0 0) ∧ Below ud1.heap.size ud1 U := ⟨_, rfl, Box.new _ _ _ _ _, al1 _⟩
              rw [← hU]
              clear hU
              have n81 := hbR.size
              have n82 := hbW.size
              replace C0 := C0.below hb9
              replace C1 := C1.below hb9
              replace C2 := C2.below hb9
              replace C3 := C3.below hb9
              replace hF := hF.below hb9
              replace hbW : Below w.heap.size w u21 := hbW.trans (hb9.mono hbW.size)
              replace hbR : Below wr.heap.size wr u21 := hbR.trans (hb9.mono hbR.size)
              clear hb9
              generalize ud1.heap.size = g8 at B8 n81 n82 ⊢
              obtain ⟨p00, p01, p02, _⟩ := B8.cells
              refine hK.out _ _ ?_ (fun hHeld => ?_)
              · (try dsimp only)
                exact ⟨C0.2, C1.2, C2.2, C3.2⟩
              clear hK K
              try simp only [Act.put, List.setIfInBounds_toArray, List.set_cons_zero, List.set_cons_succ]
              refine hCall (i := 4) rfl (by kernel_rfl) (by rfl) (fun K hK => ?_)
              go_simp
              refine (of14_any c _ (by omega) (by omega)).mono ?_
              rintro e u2 ⟨v4, rfl, hf4, hb2⟩
              replace C0 := C0.below hb2
              replace C1 := C1.below hb2
              replace C2 := C2.below hb2
              replace C3 := C3.below hb2
              replace hF := hF.below hb2
              replace B8 := B8.below hb2
              replace hbW : Below w.heap.size w u2 := hbW.trans (hb2.mono hbW.size)
              replace hbR : Below wr.heap.size wr u2 := hbR.trans (hb2.mono hbR.size)
              clear hb2
              clear p00 p01 p02
              obtain ⟨p00, p01, p02, _⟩ := B8.cells
              go_wp2_with fail
              refine hK.out _ _ ?_ (fun hHeld => ?_)
              · (try dsimp only)
                exact ⟨C0.2, C1.2, C2.2, C3.2⟩
              clear hK K
              try simp only [Act.put, List.setIfInBounds_toArray, List.set_cons_zero, List.set_cons_succ]
              refine hCall (i := 9) rfl (by kernel_rfl) (by rfl) (fun K hK => ?_)
              go_simp
              refine (qsub_any 2 10 _ _ _ _ _ hf4.ct hF.ct (by decide) (by decide) (by decide) (by decide)).mono ?_
              rintro e u3 ⟨v8, rfl, hF8, hb3⟩
              replace C0 := C0.below hb3
              replace C1 := C1.below hb3
              replace C2 := C2.below hb3
              replace C3 := C3.below hb3
              replace hF := hF.below hb3
              replace hf4 := hf4.below hb3
              replace B8 := B8.below hb3
              replace hbW : Below w.heap.size w u3 := hbW.trans (hb3.mono hbW.size)
              replace hbR : Below wr.heap.size wr u3 := hbR.trans (hb3.mono hbR.size)
              clear hb3
              rw [HD.out] at hF8
              have hM8 := hF8.ct
              obtain ⟨n8, x8, y8, ⟨a8, c8, b8, d8, rfl, _, _⟩, _⟩ := hF8
              clear p00 p01 p02
              obtain ⟨p00, p01, p02, _⟩ := B8.cells
              go_wp2_with fail
              refine hK.out _ _ ?_ (fun hHeld => ?_)
              · (try dsimp only)
                exact ⟨C0.2, C1.2, C2.2, C3.2⟩
              clear hK K
              try simp only [Act.put, List.setIfInBounds_toArray, List.set_cons_zero, List.set_cons_succ]
              refine hCall (i := 11) rfl (by kernel_rfl) (by rfl) (fun K hK => ?_)
              go_simp
              obtain ⟨u24, hU, A8, hbU, hK9, ho⟩ := set3_world B8 (.bool n8) (.slice a8 x8.length c8) (.slice b8 y8.length d8)
              rw [← hU]
              clear hU
              replace hbW := hbU _ _ hbW (by omega)
              replace hbR := hbU _ _ hbR (by omega)
              replace hM8 := hM8.keep hK9
              clear hbU hK9 ho C0 C1 C2 C3 hF
              obtain ⟨C0, C1, C2, C3⟩ := HC4.out
              replace C0 := C0.below hbR
              replace C1 := C1.below hbR
              replace C2 := C2.below hbR
              replace C3 := C3.below hbR
              clear p00 p01 p02
              obtain ⟨p00, p01, p02, _⟩ := A8.cells
              refine hK.out _ _ ?_ (fun hHeld => ?_)
              · (try dsimp only)
                exact ⟨C0.2, C1.2, C2.2, C3.2⟩
              clear hK K
              try simp only [Act.put, List.setIfInBounds_toArray, List.set_cons_zero, List.set_cons_succ]
              refine wpAnyH_done (by kernel_rfl) ?_ _
              clear hHeld
              go_wp2_with fail
              go_meet
              exact ⟨g8, _, _, _, _, _, _, _, rfl, A8, hM8, n81, hbR⟩
          case rest =>
          clear hbW hbR C0 C1 C2 C3 hF x1 y0 y1 y2
          obtain ⟨g8, n8, a8, x8, c8, b8, y8, d8, rfl, A8, hM8, n81, hbR⟩ := hcut
          have hbW : Below w.heap.size w wc := HBR.out.trans (hbR.mono HBR.out.size)
          obtain ⟨C0, C1, C2, C3⟩ := HC4.out
          replace C0 := C0.below hbR
          replace C1 := C1.below hbR
          replace C2 := C2.below hbR
          replace C3 := C3.below hbR
          have hF := HXE.out.below hbR
          have x1 := C0.2
          have y0 := C1.2
          have y1 := C2.2
          have y2 := C3.2
          go_wp2_with fail
          obtain ⟨p00, p01, p02, _⟩ := A8.cells
          refine wp_region_held_drew (S := (fun u => u.cell? ⟨b1, o1 + j, none⟩ = some (.int .i64 c) ∧ u.cell? ⟨b2, o2 + j * 3, none⟩ = some (.bool nx) ∧ u.cell? ⟨b2, o2 + j * 3 + 1, none⟩ = some (.slice ax xs.length cx) ∧ u.cell? ⟨b2, o2 + j * 3 + 2, none⟩ = some (.slice ay ys.length cy) ∧ u.cell? ⟨g8, 0, none⟩ = some (.bool n8) ∧ u.cell? ⟨g8, 1, none⟩ = some (.slice a8 x8 c8) ∧ u.cell? ⟨g8, 2, none⟩ = some (.slice b8 y8 d8))) (by kernel_rfl) ?_ (fun hHeld => ?_)
          · (try dsimp only)
            go_keep
          have hdr : Below wc.heap.size wc wc.drew := Below.drew1
          generalize wc.drew = ud2 at hdr hHeld ⊢
          replace C0 := C0.below hdr
          replace C1 := C1.below hdr
          replace C2 := C2.below hdr
          replace C3 := C3.below hdr
          replace hF := hF.below hdr
          replace hM8 := hM8.below hdr
          replace A8 := A8.below hdr
          replace hbW : Below w.heap.size w ud2 := hbW.trans (hdr.mono hbW.size)
          replace hbR : Below wr.heap.size wr ud2 := hbR.trans (hdr.mono hbR.size)
          clear hdr
          clear p00 p01 p02
          obtain ⟨p00, p01, p02, _⟩ := A8.cells
          refine hT 0 hHeld ?_
          refine hCall (i := 1) rfl (by kernel_rfl) (by rfl) (fun K hK => ?_)
          go_simp
          refine (make_any 1 32768 _ (by decide) (by decide) (by decide) (by decide)).mono ?_
          rintro e u1 ⟨v5, rfl, hf5, hb1⟩
          replace C0 := C0.below hb1
          replace C1 := C1.below hb1
          replace C2 := C2.below hb1
          replace C3 := C3.below hb1
          replace hF := hF.below hb1
          replace hM8 := hM8.below hb1
          replace A8 := A8.below hb1
          replace hbW : Below w.heap.size w u1 := hbW.trans (hb1.mono hbW.size)
          replace hbR : Below wr.heap.size wr u1 := hbR.trans (hb1.mono hbR.size)
          clear hb1
          clear p00 p01 p02
          obtain ⟨p00, p01, p02, _⟩ := A8.cells
          go_wp2_with fail
          refine hK.out _ _ ?_ (fun hHeld => ?_)
          · (try dsimp only)
            exact ⟨C0.2, C1.2, C2.2, C3.2, p00, p01, p02⟩
          clear hK K
          try simp only [Act.put, List.setIfInBounds_toArray, List.set_cons_zero, List.set_cons_succ]
          refine hCall (i := 2) rfl (by kernel_rfl) (by rfl) (fun K hK => ?_)
          go_simp
          refine (qcmp_any 13 2 _ _ _ _ _ hM8 hf5.ct (by decide) (by decide) (by decide) (by decide)).mono ?_
          rintro e u2 ⟨rfl, hb2⟩
          replace C0 := C0.below hb2
          replace C1 := C1.below hb2
          replace C2 := C2.below hb2
          replace C3 := C3.below hb2
          replace hF := hF.below hb2
          replace hM8 := hM8.below hb2
          replace hf5 := hf5.below hb2
          replace A8 := A8.below hb2
          replace hbW : Below w.heap.size w u2 := hbW.trans (hb2.mono hbW.size)
          replace hbR : Below wr.heap.size wr u2 := hbR.trans (hb2.mono hbR.size)
          clear hb2 hf5
          rw [HS1.out]
          clear p00 p01 p02
          obtain ⟨p00, p01, p02, _⟩ := A8.cells
          go_wp2_with fail
          refine hK.out _ _ ?_ (fun hHeld => ?_)
          · (try dsimp only)
            exact ⟨C0.2, C1.2, C2.2, C3.2, p00, p01, p02⟩
          clear hK K
          try simp only [Act.put, List.setIfInBounds_toArray, List.set_cons_zero, List.set_cons_succ]
          refine hT 3 hHeld ?_
          refine hT 4 hHeld ?_
          refine hT 5 hHeld ?_
          refine hCall (i := 6) rfl (by kernel_rfl) (by rfl) (fun K hK => ?_)
          go_simp
          refine (make_any (-1) 32768 _ (by decide) (by decide) (by decide) (by decide)).mono ?_
          rintro e u3 ⟨v6, rfl, hf6, hb3⟩
          replace C0 := C0.below hb3
          replace C1 := C1.below hb3
          replace C2 := C2.below hb3
          replace C3 := C3.below hb3
          replace hF := hF.below hb3
          replace hM8 := hM8.below hb3
          replace A8 := A8.below hb3
          replace hbW : Below w.heap.size w u3 := hbW.trans (hb3.mono hbW.size)
          replace hbR : Below wr.heap.size wr u3 := hbR.trans (hb3.mono hbR.size)
          clear hb3
          clear p00 p01 p02
          obtain ⟨p00, p01, p02, _⟩ := A8.cells
          go_wp2_with fail
          refine hK.out _ _ ?_ (fun hHeld => ?_)
          · (try dsimp only)
            exact ⟨C0.2, C1.2, C2.2, C3.2, p00, p01, p02⟩
          clear hK K
          try simp only [Act.put, List.setIfInBounds_toArray, List.set_cons_zero, List.set_cons_succ]
          refine hCall (i := 7) rfl (by kernel_rfl) (by rfl) (fun K hK => ?_)
          go_simp
          refine (qcmp_any 13 2 _ _ _ _ _ hM8 hf6.ct (by decide) (by decide) (by decide) (by decide)).mono ?_
          rintro e u4 ⟨rfl, hb4⟩
          replace C0 := C0.below hb4
          replace C1 := C1.below hb4
          replace C2 := C2.below hb4
          replace C3 := C3.below hb4
          replace hF := hF.below hb4
          replace hM8 := hM8.below hb4
          replace hf6 := hf6.below hb4
          replace A8 := A8.below hb4
          replace hbW : Below w.heap.size w u4 := hbW.trans (hb4.mono hbW.size)
          replace hbR : Below wr.heap.size wr u4 := hbR.trans (hb4.mono hbR.size)
          clear hb4 hf6
          rw [HS2.out]
          clear p00 p01 p02
          obtain ⟨p00, p01, p02, _⟩ := A8.cells
          go_wp2_with fail
          refine hK.out _ _ ?_ (fun hHeld => ?_)
          · (try dsimp only)
            exact ⟨C0.2, C1.2, C2.2, C3.2, p00, p01, p02⟩
          clear hK K
          try simp only [Act.put, List.setIfInBounds_toArray, List.set_cons_zero, List.set_cons_succ]
          refine hT 8 hHeld ?_
          refine hT 9 hHeld ?_
          refine hT 10 hHeld ?_
          refine hT 11 hHeld ?_
          refine hT 12 hHeld ?_
          refine hT 13 hHeld ?_
          refine hT 14 hHeld ?_
          refine hT 16 hHeld ?_
          refine hT 17 hHeld ?_
          refine hT 18 hHeld ?_
          refine hT 19 hHeld ?_
          refine hCall (i := 15) rfl (by kernel_rfl) (by rfl) (fun K hK => ?_)
          go_simp
          refine (to14_any 10 q _ _ hF.ct (by decide) (by decide)).mono ?_
          rintro e u5 ⟨rfl, hb5⟩
          replace C0 := C0.below hb5
          replace C1 := C1.below hb5
          replace C2 := C2.below hb5
          replace C3 := C3.below hb5
          replace hF := hF.below hb5
          replace hM8 := hM8.below hb5
          replace A8 := A8.below hb5
          replace hbW : Below w.heap.size w u5 := hbW.trans (hb5.mono hbW.size)
          replace hbR : Below wr.heap.size wr u5 := hbR.trans (hb5.mono hbR.size)
          clear hb5
          rw [HC.out]
          clear p00 p01 p02
          obtain ⟨p00, p01, p02, _⟩ := A8.cells
          go_wp2_with fail
          refine hK.out _ _ ?_ (fun hHeld => ?_)
          · (try dsimp only)
            exact ⟨C0.2, C1.2, C2.2, C3.2, p00, p01, p02⟩
          clear hK K
          try simp only [Act.put, List.setIfInBounds_toArray, List.set_cons_zero, List.set_cons_succ]
          refine hT 20 hHeld ?_
          refine hT 21 hHeld ?_
          refine wpAnyH_done (by kernel_rfl) ?_ _
          clear hHeld
          go_wp2
          go_roundw
          case rel => exact ⟨j + 1, by omega, by go_num, hB.trans (hbR.mono hB.size)⟩
          case measure => simp [intOf]; omega
        · obtain rfl : j = l.length := by omega
          have hbX := HBW.out.trans (hB.mono HBW.out.size)
          go_wp2
          go_ret
          exact ⟨rfl, hbX⟩

end Go.Proofs.Ytdpafdeoepbhaaa
