/-
  foundrylaw08.NormTells: the walk.
-/
import Derived.Test.YtdpafdeoepbhaaaGreatZ25
import Derived.Test.YtdpafdeoepbhaaaGreatZ29
import Derived.Test.YtdpafdeoepbhaaaGreatZ13
namespace Go.Proofs.YtdpafdeoepbhaaaGreat
open Go.RowKit Go.Maps
set_option linter.unusedSimpArgs false
set_option linter.unusedVariables false

set_option maxHeartbeats 4000000 in
set_option maxRecDepth 100000 in
theorem normTells_any (a : Option Addr) (cap : Nat) (l : List Ax) (b : Option Addr) (bc : Nat) (m : List (List Pr)) (pa : Option Addr) (pc : Nat) (ps : List Int) (w : World) (h : As w a cap l) (hm : Pzz w b bc m) (hp : Ri w pa pc ps) :
    Calls Tryz.prog 3 #[.slice a l.length cap, .slice b m.length bc, .slice pa ps.length pc] w fun e w' => e = .returned (.bool true) ∧ Below w.heap.size w w' := by
  have z1 := h.lenB
  have z2 := hm.lenB
  have z3 := hp.lenB
  go_enter Tryz.func3, Tryz.ntmps3
  go_wp2_with fail
  refine (awake8_any _).mono ?_
  rintro e u1 ⟨rfl, hb1⟩
  have hbW := hb1
  replace h := h.below hb1
  replace hm := hm.below hb1
  replace hp := hp.below hb1
  clear hb1
  go_wp2_with fail
  refine (few8_any a cap l.length b bc m pa pc ps.length _ hm z1 z3).mono ?_
  rintro e u2 ⟨q, rfl, hq, hb2⟩
  replace h := h.below hb2
  replace hm := hm.below hb2
  replace hp := hp.below hb2
  replace hbW := hbW.trans (hb2.mono hbW.size)
  clear hb2
  cases q with
  | false =>
    clear h hm hp
    go_wp2_with fail
    refine (awake8_any _).mono ?_
    rintro e u3 ⟨rfl, hb3⟩
    replace hbW := hbW.trans (hb3.mono hbW.size)
    clear hb3
    go_wp2
    go_ret
    exact ⟨rfl, hbW⟩
  | true =>
    replace hq := (hq rfl).2
    have g1 : (exE l m != exE l m) = false := by simp
    have g2 : (fiB l m != fiB l m) = false := by simp
    have hat := cat_any a cap l b bc m pa pc ps u2 h hm hp (by omega)
    have hsa := fun W hA hM hP => sat_any a cap l b bc m pa pc ps W hA hM hP (by omega)
    have hex := fun W hA hM hP => cexact_any a cap l b bc m pa pc ps W hA hM hP (by omega)
    have hse := fun W hA hM hP => sexact_any a cap l b bc m pa pc ps W hA hM hP (by omega)
    have hcf := fun W hA hM => cfit_any a cap l b bc m W hA hM
    have hsf := fun W hA hM => sfit_any a cap l b bc m W hA hM
    have k4 := exL_len4 l m ps
    generalize exL l m ps = qs at *
    generalize atL l m ps = zs at *
    generalize exE l m = ee at *
    generalize fiB l m = fb at *
    go_wp2_with fail
    refine hat.mono ?_
    rintro e u3 ⟨a3, c3, rfl, hR1, hb3⟩
    replace h := h.below hb3
    replace hm := hm.below hb3
    replace hp := hp.below hb3
    replace hbW := hbW.trans (hb3.mono hbW.size)
    clear hb3 hat
    go_wp2_with fail
    refine (hsa _ h hm hp).mono ?_
    rintro e u4 ⟨a4, c4, rfl, hR2, hb4⟩
    replace h := h.below hb4
    replace hm := hm.below hb4
    replace hp := hp.below hb4
    replace hR1 := hR1.below hb4
    replace hbW := hbW.trans (hb4.mono hbW.size)
    clear hb4 hsa
    go_wp2_with fail
    refine (hex _ h hm hp).mono ?_
    rintro e u5 ⟨a5, c5, rfl, hX, hb5⟩
    replace h := h.below hb5
    replace hm := hm.below hb5
    replace hp := hp.below hb5
    replace hR1 := hR1.below hb5
    replace hR2 := hR2.below hb5
    replace hbW := hbW.trans (hb5.mono hbW.size)
    clear hb5 hex
    go_wp2_with fail
    refine (hse _ h hm hp).mono ?_
    rintro e u6 ⟨a6, c6, rfl, hY, hb6⟩
    replace h := h.below hb6
    replace hm := hm.below hb6
    replace hR1 := hR1.below hb6
    replace hR2 := hR2.below hb6
    replace hX := hX.below hb6
    replace hbW := hbW.trans (hb6.mono hbW.size)
    clear hb6 hse hp
    have hsi := ssameI_any a3 a4 c3 c4 zs u6 hR1 hR2
    clear hR1 hR2
    go_wp2_with fail
    refine hsi.mono ?_
    rintro e u7 ⟨rfl, hb7⟩
    replace h := h.below hb7
    replace hm := hm.below hb7
    replace hX := hX.below hb7
    replace hY := hY.below hb7
    replace hbW := hbW.trans (hb7.mono hbW.size)
    clear hb7 hsi
    have g3 : ((qs.length : Int) != (qs.length : Int)) = false := by simp
    go_wp2_with fail
    refine (hcf _ h hm).mono ?_
    rintro e u8 ⟨rfl, hb8⟩
    replace h := h.below hb8
    replace hm := hm.below hb8
    replace hX := hX.below hb8
    replace hY := hY.below hb8
    replace hbW := hbW.trans (hb8.mono hbW.size)
    clear hb8 hcf
    go_wp2_with fail
    refine (hsf _ h hm).mono ?_
    rintro e u9 ⟨rfl, hb9⟩
    replace hX := hX.below hb9
    replace hY := hY.below hb9
    replace hbW := hbW.trans (hb9.mono hbW.size)
    clear hb9 hsf h hm
    have HX : Hid (Rz u9 a5 c5 10 qs) := hX
    have HY : Hid (Rz u9 a6 c6 15 qs) := hY
    have HBW : Hid (Below w.heap.size w u9) := hbW
    clear hX hY hbW
    go_wp2
    go_loopw [15] (fun i wr => ∃ k : Nat, k ≤ qs.length ∧ i = .int .i64 k ∧ Below u9.heap.size u9 wr) (fun i _ => qs.length - (intOf i).toNat)
    case atStart => exact ⟨0, Nat.zero_le _, rfl, Below.refl _ _⟩
    case round =>
      obtain ⟨j, hj, rfl, hB⟩ := hrel
      by_cases hjn : j < qs.length
      · obtain ⟨b1, o1, x0, x1, x2, e1, q1, c0, c1, c2, hF⟩ := HX.out.at hB j hjn
        subst e1
        obtain ⟨b2, o2, y0, y1, y2, e2, q2, f0, f1, f2, hG⟩ := HY.out.at hB j hjn
        subst e2
        have hsm := fun W hF hG => same3_any 10 15 (qs.getD j 0) (qs.getD j 0) (.agg #[x0, x1, x2]) (.agg #[y0, y1, y2]) W hF hG rfl
        generalize qs.getD j 0 = q at *
        obtain ⟨nx, xs, ys, ⟨ax, cx, ay, cy, e3, hx, hy⟩, hF3⟩ := hF
        have hF : Fr wr (.agg #[x0, x1, x2]) 10 q := ⟨nx, xs, ys, ⟨ax, cx, ay, cy, e3, hx, hy⟩, hF3⟩
        simp at e3
        obtain ⟨rfl, rfl, rfl⟩ := e3
        clear hx hy hF3
        obtain ⟨ny, xt, yt, ⟨bx, dx, bY, dy, e4, hx, hy⟩, hF3⟩ := hG
        have hG : Fr wr (.agg #[y0, y1, y2]) 15 q := ⟨ny, xt, yt, ⟨bx, dx, bY, dy, e4, hx, hy⟩, hF3⟩
        simp at e4
        obtain ⟨rfl, rfl, rfl⟩ := e4
        clear hx hy hF3
        have hwr : IntKind.i64.wrap (j : Int) = j := wrapi64 (by omega) (by omega)
        have s1 := Nat.lt_of_lt_of_le q1 hB.size
        have s2 := Nat.lt_of_lt_of_le q2 hB.size
        have C0 : Cl wr b1 (o1 + j * 3) (.bool nx) := ⟨s1, c0⟩
        have C1 : Cl wr b1 (o1 + j * 3 + 1) (.slice ax xs.length cx) := ⟨s1, c1⟩
        have C2 : Cl wr b1 (o1 + j * 3 + 2) (.slice ay ys.length cy) := ⟨s1, c2⟩
        have D0 : Cl wr b2 (o2 + j * 3) (.bool ny) := ⟨s2, f0⟩
        have D1 : Cl wr b2 (o2 + j * 3 + 1) (.slice bx xt.length dx) := ⟨s2, f1⟩
        have D2 : Cl wr b2 (o2 + j * 3 + 2) (.slice bY yt.length dy) := ⟨s2, f2⟩
        clear q1 q2 s1 s2
        go_wp2_with fail
        refine wp_region_held_drew (S := (fun u => u.cell? ⟨b1, o1 + j * 3, none⟩ = some (.bool nx) ∧ u.cell? ⟨b1, o1 + j * 3 + 1, none⟩ = some (.slice ax xs.length cx) ∧ u.cell? ⟨b1, o1 + j * 3 + 2, none⟩ = some (.slice ay ys.length cy) ∧ u.cell? ⟨b2, o2 + j * 3, none⟩ = some (.bool ny) ∧ u.cell? ⟨b2, o2 + j * 3 + 1, none⟩ = some (.slice bx xt.length dx) ∧ u.cell? ⟨b2, o2 + j * 3 + 2, none⟩ = some (.slice bY yt.length dy))) (by kernel_rfl) ?_ (fun hHeld => ?_)
        · (try dsimp only)
          go_keep
        have hdr : Below wr.heap.size wr wr.drew := Below.drew1
        generalize wr.drew = v0 at hdr hHeld ⊢
        replace hF := hF.below hdr
        replace hG := hG.below hdr
        replace C0 := C0.below hdr
        replace C1 := C1.below hdr
        replace C2 := C2.below hdr
        replace D0 := D0.below hdr
        replace D1 := D1.below hdr
        replace D2 := D2.below hdr
        replace hB := hB.trans (hdr.mono hB.size)
        clear hdr c0 c1 c2 f0 f1 f2
        refine hT 0 hHeld ?_
        refine hT 1 hHeld ?_
        refine hT 2 hHeld ?_
        refine hT 3 hHeld ?_
        refine hT 4 hHeld ?_
        refine hT 5 hHeld ?_
        refine hT 6 hHeld ?_
        refine hT 7 hHeld ?_
        refine hT 8 hHeld ?_
        refine hT 9 hHeld ?_
        refine hT 10 hHeld ?_
        refine hT 11 hHeld ?_
        refine hT 12 hHeld ?_
        refine hT 13 hHeld ?_
        refine hT 14 hHeld ?_
        refine hT 15 hHeld ?_
        refine hT 16 hHeld ?_
        refine hT 17 hHeld ?_
        refine hT 18 hHeld ?_
        refine hT 19 hHeld ?_
        refine hCall (i := 20) rfl (by kernel_rfl) (by rfl) (fun K hK => ?_)
        go_simp
        refine (hsm v0 hF hG).mono ?_
        rintro e v1 ⟨rfl, hb1⟩
        replace C0 := C0.below hb1
        replace C1 := C1.below hb1
        replace C2 := C2.below hb1
        replace D0 := D0.below hb1
        replace D1 := D1.below hb1
        replace D2 := D2.below hb1
        replace hB := hB.trans (hb1.mono hB.size)
        clear hb1 hsm hF hG
        go_wp2_with fail
        refine hK.out _ _ ?_ (fun hHeld => ?_)
        · (try dsimp only)
          exact ⟨C0.2, C1.2, C2.2, D0.2, D1.2, D2.2⟩
        clear hK K
        try simp only [Act.put, List.setIfInBounds_toArray, List.set_cons_zero, List.set_cons_succ]
        refine hT 21 hHeld ?_
        refine wpAnyH_done (by kernel_rfl) ?_ _
        clear hHeld
        go_wp2
        go_roundw
        case rel => exact ⟨j + 1, by omega, by go_num, hB⟩
        case measure => simp [intOf]; omega
      · obtain rfl : j = qs.length := by omega
        have hbX := HBW.out.trans (hB.mono HBW.out.size)
        go_wp2
        go_ret
        exact ⟨rfl, hbX⟩

end Go.Proofs.YtdpafdeoepbhaaaGreat
