/-
  foundrylaw07.BendMiddle: the walk.
-/
import Derived.Test.YtdholmnniccbcaaDoorZ15
import Derived.Test.YtdholmnniccbcaaDoorZ11
namespace Go.Proofs.YtdholmnniccbcaaDoor
open Go.RowKit Go.Maps
set_option linter.unusedSimpArgs false
set_option linter.unusedVariables false

open Classical

set_option maxHeartbeats 16000000 in
set_option maxRecDepth 100000 in
theorem bendMiddle_any (a : Option Addr) (cap : Nat) (l : List Pr) (n : Bool) (a1 a2 : Option Addr) (c1 c2 : Nat) (xs ys : List Nat) (w : World) (hP : Pz w a cap l) (hx : Rd w a1 c1 xs) (hy : Rd w a2 c2 ys) (htab : Pow w) :
    Calls Tryd.prog 4 #[.slice a l.length cap, .agg #[.bool n, .slice a1 xs.length c1, .slice a2 ys.length c2]] w fun e w' => e = .returned (.bool true) ∧ Below w.heap.size w w' := by
  have HTAB : Hid (Pow w) := htab
  clear htab
  have z0 := hP.lenB
  have z1 : xs.length ≤ 9223372036854775807 := by have := hx.le; have := hx.cap; unfold maxLen at this; omega
  have z2 : ys.length ≤ 9223372036854775807 := by have := hy.le; have := hy.cap; unfold maxLen at this; omega
  obtain ⟨W, hW, B1, hbW⟩ : ∃ W, W = w.alloc (.cells #[.bool n, .slice a1 xs.length c1, .slice a2 ys.length c2] 26) ∧ Box 26 W w.heap.size (.bool n) (.slice a1 xs.length c1) (.slice a2 ys.length c2) ∧ Below w.heap.size w W := ⟨_, rfl, Box.new _ _ _ _ _, al1 _⟩
  replace hP := hP.below hbW
  replace hx := hx.below hbW
  replace hy := hy.below hbW
  go_enter Tryd.func4, Tryd.ntmps4
  go_wp2_with fail
  rw [← hW]
  clear hW
  obtain ⟨p00, p01, p02, _⟩ := B1.cells
  refine (awake7_any _ (HTAB.out.below hbW)).mono ?_
  rintro e u1 ⟨rfl, hb1⟩
  replace hP := hP.below hb1
  replace hx := hx.below hb1
  replace hy := hy.below hb1
  replace B1 := B1.below hb1
  replace hbW : Below w.heap.size w u1 := hbW.trans (hb1.mono hbW.size)
  clear hb1
  clear p00 p01 p02
  obtain ⟨p00, p01, p02, _⟩ := B1.cells
  have sl0 := B1.lt
  go_wp2_with fail
  obtain ⟨W2, hW, hZ, hb9⟩ : ∃ W, W = u1.alloc (.cells #[.slice a l.length cap] 22) ∧ Pzz W (some ⟨u1.heap.size, 0, none⟩) 1 [l] ∧ Below u1.heap.size u1 W := ⟨_, rfl, pzz_one _ _ _ _ hP _, bl1 _⟩
  rw [← hW]
  clear hW
  clear sl0
  replace hP := hP.below hb9
  replace hx := hx.below hb9
  replace hy := hy.below hb9
  replace B1 := B1.below hb9
  replace hbW : Below w.heap.size w W2 := hbW.trans (hb9.mono hbW.size)
  clear hb9
  have hfw := few7_any _ 1 [l] n a1 a2 c1 c2 xs.length ys.length _ hZ z1 z2
  rw [show [l].length = 1 from rfl] at hfw
  clear hZ
  clear p00 p01 p02
  obtain ⟨p00, p01, p02, _⟩ := B1.cells
  refine (hfw).mono ?_
  rintro e u2 ⟨q1, rfl, hq1, hb2⟩
  replace hP := hP.below hb2
  replace hx := hx.below hb2
  replace hy := hy.below hb2
  replace B1 := B1.below hb2
  replace hbW : Below w.heap.size w u2 := hbW.trans (hb2.mono hbW.size)
  clear hb2
  clear p00 p01 p02
  obtain ⟨p00, p01, p02, _⟩ := B1.cells
  clear hfw
  have HQ1 : Hid (q1 = true → 1 ≤ 30 ∧ xs.length ≤ 6 ∧ ys.length ≤ 6) := hq1
  clear hq1
  cases q1 with
  | false =>
    go_wp2_with fail
    refine (awake7_any _ (HTAB.out.below hbW)).mono ?_
    rintro e u3 ⟨rfl, hb3⟩
    replace hP := hP.below hb3
    replace hx := hx.below hb3
    replace hy := hy.below hb3
    replace B1 := B1.below hb3
    replace hbW : Below w.heap.size w u3 := hbW.trans (hb3.mono hbW.size)
    clear hb3
    clear p00 p01 p02
    obtain ⟨p00, p01, p02, _⟩ := B1.cells
    go_wp2
    go_ret
    exact ⟨rfl, hbW⟩
  | true =>
  have hfo := fun V hV => cformP_any a cap l V hV
  cases hf : frP l with
  | false =>
    rw [hf] at hfo
    go_wp2_with fail
    refine (hfo _ hP).mono ?_
    rintro e u3 ⟨rfl, hb3⟩
    replace hP := hP.below hb3
    replace hx := hx.below hb3
    replace hy := hy.below hb3
    replace B1 := B1.below hb3
    replace hbW : Below w.heap.size w u3 := hbW.trans (hb3.mono hbW.size)
    clear hb3
    clear p00 p01 p02
    obtain ⟨p00, p01, p02, _⟩ := B1.cells
    go_wp2_with fail
    refine (awake7_any _ (HTAB.out.below hbW)).mono ?_
    rintro e u4 ⟨rfl, hb4⟩
    replace hP := hP.below hb4
    replace hx := hx.below hb4
    replace hy := hy.below hb4
    replace B1 := B1.below hb4
    replace hbW : Below w.heap.size w u4 := hbW.trans (hb4.mono hbW.size)
    clear hb4
    clear p00 p01 p02
    obtain ⟨p00, p01, p02, _⟩ := B1.cells
    go_wp2
    go_ret
    exact ⟨rfl, hbW⟩
  | true =>
  have HF : Hid (frP l = true) := hf
  rw [hf] at hfo
  clear hf
  go_wp2_with fail
  refine (hfo _ hP).mono ?_
  rintro e u3 ⟨rfl, hb3⟩
  replace hP := hP.below hb3
  replace hx := hx.below hb3
  replace hy := hy.below hb3
  replace B1 := B1.below hb3
  replace hbW : Below w.heap.size w u3 := hbW.trans (hb3.mono hbW.size)
  clear hb3
  clear p00 p01 p02
  obtain ⟨p00, p01, p02, _⟩ := B1.cells
  clear hfo
  obtain ⟨qx, hqx⟩ : ∃ q, q = if Fmd n xs ys then qv n xs ys else 0 := ⟨_, rfl⟩
  have hX : Ct u3 (.agg #[.bool n, .slice a1 xs.length c1, .slice a2 ys.length c2]) 6 qx := ⟨_, _, _, ⟨_, _, _, _, rfl, hx, hy⟩, (HQ1.out (by simp)).2.1, (HQ1.out (by simp)).2.2, hqx⟩
  clear hqx hx hy
  clear p00 p01 p02
  have hbe := fun k q v V hV hv hk hk2 => cbend_any k q v a cap l V hV hv hk hk2
  have HPU : Hid (Pz u3 a cap l) := hP
  have HXU : Hid (Ct u3 (.agg #[.bool n, .slice a1 xs.length c1, .slice a2 ys.length c2]) 6 qx) := hX
  have HBU : Hid (Box 26 u3 w.heap.size (.bool n) (.slice a1 xs.length c1) (.slice a2 ys.length c2)) := B1
  have HBW : Hid (Below w.heap.size w u3) := hbW
  clear hP hX B1 hbW
  go_wp2
  go_loopw [5] (fun i wr => ∃ j : Nat, j ≤ l.length ∧ i = .int .i64 ((j : Int) + 1) ∧ Below u3.heap.size u3 wr) (fun i _ => l.length + 1 - (intOf i).toNat)
  case atStart => exact ⟨0, Nat.zero_le _, rfl, Below.refl _ _⟩
  case round =>
    obtain ⟨j, hj, rfl, hbR⟩ := hrel
    have hbW : Below w.heap.size w wr := HBW.out.trans (hbR.mono HBW.out.size)
    have hg := HBW.out.size
    have hg1 := HBU.out.lt
    by_cases hkn : j + 1 < l.length
    · obtain ⟨b, off, ea, hbb, hT⟩ := HPU.out.two hkn
      have hP := HPU.out.below hbR
      have T2 := hT.below hbR
      have HMID : Hid (_) := beQ_mid HF.out hkn
      have i0 := frP_in HF.out (show j < l.length by omega)
      have i1 := frP_in HF.out hkn
      obtain ⟨s, hs⟩ : ∃ s, l.getD j (0, 0) = s := ⟨_, rfl⟩
      obtain ⟨t, ht⟩ : ∃ s, l.getD (j + 1) (0, 0) = s := ⟨_, rfl⟩
      rw [hs, ht] at T2 HMID
      rw [hs] at i0
      rw [ht] at i1
      clear hs ht hT
      obtain ⟨x0, y0⟩ := s
      obtain ⟨x1, y1⟩ := t
      dsimp only at T2 HMID i0 i1
      subst ea
      have hwr : IntKind.i64.wrap (j : Int) = j := wrapi64 (by omega) (by omega)
      have hjl : j < l.length := by omega
      have hj1 : (0 : Int) ≤ (j : Int) + 1 := by omega
      have hj3 : (j : Int) + 1 < (l.length : Int) := by omega
      have hw1 : IntKind.i64.wrap (x0 + x1) = x0 + x1 := wrapi64 (by omega) (by omega)
      have hw2 : IntKind.i64.wrap (y0 + y1) = y0 + y1 := wrapi64 (by omega) (by omega)
      obtain ⟨p00, p01, p02, p03⟩ := T2.cells
      go_wp2_with fail
      refine wp_region_held_drew (S := (fun u => u.cell? ⟨b, (off + j * 2), none⟩ = some (.int .i64 x0) ∧ u.cell? ⟨b, (off + j * 2 + 1), none⟩ = some (.int .i64 y0) ∧ u.cell? ⟨b, (off + (j + 1) * 2), none⟩ = some (.int .i64 x1) ∧ u.cell? ⟨b, (off + (j + 1) * 2 + 1), none⟩ = some (.int .i64 y1))) (by kernel_rfl) ?_ (fun hHeld => ?_)
      · (try dsimp only)
        go_keep
      have hdr : Below wr.heap.size wr wr.drew := Below.drew1
      generalize wr.drew = ud42 at hdr hHeld ⊢
      replace hP := hP.below hdr
      replace T2 := T2.below hdr
      replace hbW : Below w.heap.size w ud42 := hbW.trans (hdr.mono hbW.size)
      replace hbR : Below u3.heap.size u3 ud42 := hbR.trans (hdr.mono hbR.size)
      clear hdr
      clear p00 p01 p02 p03
      obtain ⟨p00, p01, p02, p03⟩ := T2.cells
      refine hTake (i := 0) (v := ?v43) rfl (by kernel_rfl) (by kernel_rfl) (by kernel_rfl) (fun _ _ _ h => h) (Or.inl ⟨by rfl, ?y43⟩) hHeld ?r43
      case y43 =>
        intro w9 hSw
        (try dsimp only at hSw)
        go_simp
        try with_reducible rfl
      try simp only [Act.put, List.setIfInBounds_toArray, List.set_cons_zero, List.set_cons_succ]
      refine hTake (i := 1) (v := ?v44) rfl (by kernel_rfl) (by kernel_rfl) (by kernel_rfl) (fun _ _ _ h => h) (Or.inl ⟨by rfl, ?y44⟩) hHeld ?r44
      case y44 =>
        intro w9 hSw
        (try dsimp only at hSw)
        go_simp
        try with_reducible rfl
      try simp only [Act.put, List.setIfInBounds_toArray, List.set_cons_zero, List.set_cons_succ]
      refine hTake (i := 2) (v := ?v45) rfl (by kernel_rfl) (by kernel_rfl) (by kernel_rfl) (fun _ _ _ h => h) (Or.inl ⟨by rfl, ?y45⟩) hHeld ?r45
      case y45 =>
        intro w9 hSw
        (try dsimp only at hSw)
        go_simp
        try with_reducible rfl
      try simp only [Act.put, List.setIfInBounds_toArray, List.set_cons_zero, List.set_cons_succ]
      refine hTake (i := 3) (v := ?v46) rfl (by kernel_rfl) (by kernel_rfl) (by kernel_rfl) (fun _ _ _ h => h) (Or.inl ⟨by rfl, ?y46⟩) hHeld ?r46
      case y46 =>
        intro w9 hSw
        (try dsimp only at hSw)
        go_simp
        try with_reducible rfl
      try simp only [Act.put, List.setIfInBounds_toArray, List.set_cons_zero, List.set_cons_succ]
      refine hTake (i := 4) (v := ?v47) rfl (by kernel_rfl) (by kernel_rfl) (by kernel_rfl) (fun _ _ _ h => h) (Or.inl ⟨by rfl, ?y47⟩) hHeld ?r47
      case y47 =>
        intro w9 hSw
        (try dsimp only at hSw)
        go_simp
        try with_reducible rfl
      try simp only [Act.put, List.setIfInBounds_toArray, List.set_cons_zero, List.set_cons_succ]
      refine hTake (i := 5) (v := ?v48) rfl (by kernel_rfl) (by kernel_rfl) (by kernel_rfl) (fun _ _ _ h => h) (Or.inl ⟨by rfl, ?y48⟩) hHeld ?r48
      case y48 =>
        intro w9 hSw
        (try dsimp only at hSw)
        go_simp
        try with_reducible rfl
      try simp only [Act.put, List.setIfInBounds_toArray, List.set_cons_zero, List.set_cons_succ]
      refine hTake (i := 6) (v := ?v49) rfl (by kernel_rfl) (by kernel_rfl) (by kernel_rfl) (fun _ _ _ h => h) (Or.inl ⟨by rfl, ?y49⟩) hHeld ?r49
      case y49 =>
        intro w9 hSw
        (try dsimp only at hSw)
        go_simp
        try with_reducible rfl
      try simp only [Act.put, List.setIfInBounds_toArray, List.set_cons_zero, List.set_cons_succ]
      refine hTake (i := 7) (v := ?v50) rfl (by kernel_rfl) (by kernel_rfl) (by kernel_rfl) (fun _ _ _ h => h) (Or.inl ⟨by rfl, ?y50⟩) hHeld ?r50
      case y50 =>
        intro w9 hSw
        (try dsimp only at hSw)
        go_simp
        try with_reducible rfl
      try simp only [Act.put, List.setIfInBounds_toArray, List.set_cons_zero, List.set_cons_succ]
      refine hTake (i := 8) (v := ?v51) rfl (by kernel_rfl) (by kernel_rfl) (by kernel_rfl) (fun _ _ _ h => h) (Or.inl ⟨by rfl, ?y51⟩) hHeld ?r51
      case y51 =>
        intro w9 hSw
        (try dsimp only at hSw)
        go_simp
        try with_reducible rfl
      try simp only [Act.put, List.setIfInBounds_toArray, List.set_cons_zero, List.set_cons_succ]
      refine hTake (i := 9) (v := ?v52) rfl (by kernel_rfl) (by kernel_rfl) (by kernel_rfl) (fun _ _ _ h => h) (Or.inl ⟨by rfl, ?y52⟩) hHeld ?r52
      case y52 =>
        intro w9 hSw
        (try dsimp only at hSw)
        go_simp
        try with_reducible rfl
      try simp only [Act.put, List.setIfInBounds_toArray, List.set_cons_zero, List.set_cons_succ]
      refine hTake (i := 10) (v := ?v53) rfl (by kernel_rfl) (by kernel_rfl) (by kernel_rfl) (fun _ _ _ h => h) (Or.inl ⟨by rfl, ?y53⟩) hHeld ?r53
      case y53 =>
        intro w9 hSw
        (try dsimp only at hSw)
        go_simp
        try with_reducible rfl
      try simp only [Act.put, List.setIfInBounds_toArray, List.set_cons_zero, List.set_cons_succ]
      refine hTake (i := 11) (v := ?v54) rfl (by kernel_rfl) (by kernel_rfl) (by kernel_rfl) (fun _ _ _ h => h) (Or.inl ⟨by rfl, ?y54⟩) hHeld ?r54
      case y54 =>
        intro w9 hSw
        (try dsimp only at hSw)
        go_simp
        try with_reducible rfl
      try simp only [Act.put, List.setIfInBounds_toArray, List.set_cons_zero, List.set_cons_succ]
      refine wpAnyH_ready (rs := [12, 13]) (by kernel_rfl) (by simp) (hCons (i := 12) rfl (by rfl) (fun K hK => ?_) (hCons (i := 13) rfl (by rfl) (fun K hK => ?_) AllReadyH.nil))
      · go_simp
        refine (make_any (x0 + x1) 32768 _ (by omega) (by omega) (by decide) (by decide)).mono ?_
        rintro e u61 ⟨v6, rfl, hF6, hb61⟩
        replace hP := hP.below hb61
        replace T2 := T2.below hb61
        replace hbW : Below w.heap.size w u61 := hbW.trans (hb61.mono hbW.size)
        replace hbR : Below u3.heap.size u3 u61 := hbR.trans (hb61.mono hbR.size)
        clear hb61
        have hM6 := hF6.ct
        obtain ⟨n6, x16, y16, ⟨a16, c16, b16, d16, rfl, _, _⟩, _⟩ := hF6
        clear p00 p01 p02 p03
        obtain ⟨p00, p01, p02, p03⟩ := T2.cells
        go_wp2_with fail
        refine hK.out _ _ ?_ (fun hHeld => ?_)
        · (try dsimp only)
          exact ⟨p00, p01, p02, p03⟩
        clear hK K
        try simp only [Act.put, List.setIfInBounds_toArray, List.set_cons_zero, List.set_cons_succ]
        refine hCall (i := 13) rfl (by kernel_rfl) (by rfl) (fun K hK => ?_)
        go_simp
        obtain ⟨u62, hU, B6, hb9⟩ : ∃ U, U = u61.alloc (.cells #[.bool false, .slice none 0 0, .slice none 0 0] 26) ∧ Box 26 U u61.heap.size (.bool false) (.slice none 0 0) (.slice none 0 0) ∧ Below u61.heap.size u61 U := ⟨_, rfl, Box.new _ _ _ _ _, al1 _⟩
        rw [← hU]
        clear hU
        have n61 := hbR.size
        have n62 := T2.1
        replace hP := hP.below hb9
        replace hM6 := hM6.below hb9
        replace T2 := T2.below hb9
        replace hbW : Below w.heap.size w u62 := hbW.trans (hb9.mono hbW.size)
        replace hbR : Below u3.heap.size u3 u62 := hbR.trans (hb9.mono hbR.size)
        clear hb9
        generalize u61.heap.size = g6 at B6 n61 n62 ⊢
        clear p00 p01 p02 p03
        obtain ⟨p00, p01, p02, p03⟩ := T2.cells
        obtain ⟨p10, p11, p12, _⟩ := B6.cells
        refine hK.out _ _ ?_ (fun hHeld => ?_)
        · (try dsimp only)
          exact ⟨p00, p01, p02, p03⟩
        clear hK K
        try simp only [Act.put, List.setIfInBounds_toArray, List.set_cons_zero, List.set_cons_succ]
        refine hCall (i := 14) rfl (by kernel_rfl) (by rfl) (fun K hK => ?_)
        go_simp
        obtain ⟨u63, hU, A6, hbU, hK9, ho⟩ := set3_world B6 (.bool n6) (.slice a16 x16.length c16) (.slice b16 y16.length d16)
        rw [← hU]
        clear hU
        replace hbW := hbU _ _ hbW (by omega)
        replace hbR := hbU _ _ hbR (by omega)
        replace hM6 := hM6.keep hK9
        replace T2 := T2.other ho (by omega)
        clear hbU hK9 ho hP
        have hP := HPU.out.below hbR
        clear p00 p01 p02 p03 p10 p11 p12
        obtain ⟨p00, p01, p02, p03⟩ := T2.cells
        obtain ⟨p10, p11, p12, _⟩ := A6.cells
        refine hK.out _ _ ?_ (fun hHeld => ?_)
        · (try dsimp only)
          exact ⟨p00, p01, p02, p03⟩
        clear hK K
        try simp only [Act.put, List.setIfInBounds_toArray, List.set_cons_zero, List.set_cons_succ]
        refine wpAnyH_done (by kernel_rfl) ?_ _
        clear hHeld
        go_wp2_with fail
        refine wp_region_held_drew (S := (fun u => u.cell? ⟨b, (off + j * 2), none⟩ = some (.int .i64 x0) ∧ u.cell? ⟨b, (off + j * 2 + 1), none⟩ = some (.int .i64 y0) ∧ u.cell? ⟨b, (off + (j + 1) * 2), none⟩ = some (.int .i64 x1) ∧ u.cell? ⟨b, (off + (j + 1) * 2 + 1), none⟩ = some (.int .i64 y1) ∧ u.cell? ⟨g6, 0, none⟩ = some (.bool n6) ∧ u.cell? ⟨g6, 1, none⟩ = some (.slice a16 x16.length c16) ∧ u.cell? ⟨g6, 2, none⟩ = some (.slice b16 y16.length d16))) (by kernel_rfl) ?_ (fun hHeld => ?_)
        · (try dsimp only)
          go_keep
        have hdr : Below u63.heap.size u63 u63.drew := Below.drew1
        generalize u63.drew = ud55 at hdr hHeld ⊢
        replace hP := hP.below hdr
        replace hM6 := hM6.below hdr
        replace T2 := T2.below hdr
        replace A6 := A6.below hdr
        replace hbW : Below w.heap.size w ud55 := hbW.trans (hdr.mono hbW.size)
        replace hbR : Below u3.heap.size u3 ud55 := hbR.trans (hdr.mono hbR.size)
        clear hdr
        clear p00 p01 p02 p03 p10 p11 p12
        obtain ⟨p00, p01, p02, p03⟩ := T2.cells
        obtain ⟨p10, p11, p12, _⟩ := A6.cells
        refine hTake (i := 0) (v := ?v56) rfl (by kernel_rfl) (by kernel_rfl) (by kernel_rfl) (fun _ _ _ h => h) (Or.inl ⟨by rfl, ?y56⟩) hHeld ?r56
        case y56 =>
          intro w9 hSw
          (try dsimp only at hSw)
          go_simp
          try with_reducible rfl
        try simp only [Act.put, List.setIfInBounds_toArray, List.set_cons_zero, List.set_cons_succ]
        refine hTake (i := 1) (v := ?v57) rfl (by kernel_rfl) (by kernel_rfl) (by kernel_rfl) (fun _ _ _ h => h) (Or.inl ⟨by rfl, ?y57⟩) hHeld ?r57
        case y57 =>
          intro w9 hSw
          (try dsimp only at hSw)
          go_simp
          try with_reducible rfl
        try simp only [Act.put, List.setIfInBounds_toArray, List.set_cons_zero, List.set_cons_succ]
        refine hTake (i := 2) (v := ?v58) rfl (by kernel_rfl) (by kernel_rfl) (by kernel_rfl) (fun _ _ _ h => h) (Or.inl ⟨by rfl, ?y58⟩) hHeld ?r58
        case y58 =>
          intro w9 hSw
          (try dsimp only at hSw)
          go_simp
          try with_reducible rfl
        try simp only [Act.put, List.setIfInBounds_toArray, List.set_cons_zero, List.set_cons_succ]
        refine hTake (i := 3) (v := ?v59) rfl (by kernel_rfl) (by kernel_rfl) (by kernel_rfl) (fun _ _ _ h => h) (Or.inl ⟨by rfl, ?y59⟩) hHeld ?r59
        case y59 =>
          intro w9 hSw
          (try dsimp only at hSw)
          go_simp
          try with_reducible rfl
        try simp only [Act.put, List.setIfInBounds_toArray, List.set_cons_zero, List.set_cons_succ]
        refine hTake (i := 4) (v := ?v60) rfl (by kernel_rfl) (by kernel_rfl) (by kernel_rfl) (fun _ _ _ h => h) (Or.inl ⟨by rfl, ?y60⟩) hHeld ?r60
        case y60 =>
          intro w9 hSw
          (try dsimp only at hSw)
          go_simp
          try with_reducible rfl
        try simp only [Act.put, List.setIfInBounds_toArray, List.set_cons_zero, List.set_cons_succ]
        refine hTake (i := 5) (v := ?v61) rfl (by kernel_rfl) (by kernel_rfl) (by kernel_rfl) (fun _ _ _ h => h) (Or.inl ⟨by rfl, ?y61⟩) hHeld ?r61
        case y61 =>
          intro w9 hSw
          (try dsimp only at hSw)
          go_simp
          try with_reducible rfl
        try simp only [Act.put, List.setIfInBounds_toArray, List.set_cons_zero, List.set_cons_succ]
        refine hTake (i := 6) (v := ?v62) rfl (by kernel_rfl) (by kernel_rfl) (by kernel_rfl) (fun _ _ _ h => h) (Or.inl ⟨by rfl, ?y62⟩) hHeld ?r62
        case y62 =>
          intro w9 hSw
          (try dsimp only at hSw)
          go_simp
          try with_reducible rfl
        try simp only [Act.put, List.setIfInBounds_toArray, List.set_cons_zero, List.set_cons_succ]
        refine hTake (i := 7) (v := ?v63) rfl (by kernel_rfl) (by kernel_rfl) (by kernel_rfl) (fun _ _ _ h => h) (Or.inl ⟨by rfl, ?y63⟩) hHeld ?r63
        case y63 =>
          intro w9 hSw
          (try dsimp only at hSw)
          go_simp
          try with_reducible rfl
        try simp only [Act.put, List.setIfInBounds_toArray, List.set_cons_zero, List.set_cons_succ]
        refine hTake (i := 8) (v := ?v64) rfl (by kernel_rfl) (by kernel_rfl) (by kernel_rfl) (fun _ _ _ h => h) (Or.inl ⟨by rfl, ?y64⟩) hHeld ?r64
        case y64 =>
          intro w9 hSw
          (try dsimp only at hSw)
          go_simp
          try with_reducible rfl
        try simp only [Act.put, List.setIfInBounds_toArray, List.set_cons_zero, List.set_cons_succ]
        refine hTake (i := 9) (v := ?v65) rfl (by kernel_rfl) (by kernel_rfl) (by kernel_rfl) (fun _ _ _ h => h) (Or.inl ⟨by rfl, ?y65⟩) hHeld ?r65
        case y65 =>
          intro w9 hSw
          (try dsimp only at hSw)
          go_simp
          try with_reducible rfl
        try simp only [Act.put, List.setIfInBounds_toArray, List.set_cons_zero, List.set_cons_succ]
        refine hTake (i := 10) (v := ?v66) rfl (by kernel_rfl) (by kernel_rfl) (by kernel_rfl) (fun _ _ _ h => h) (Or.inl ⟨by rfl, ?y66⟩) hHeld ?r66
        case y66 =>
          intro w9 hSw
          (try dsimp only at hSw)
          go_simp
          try with_reducible rfl
        try simp only [Act.put, List.setIfInBounds_toArray, List.set_cons_zero, List.set_cons_succ]
        refine hTake (i := 11) (v := ?v67) rfl (by kernel_rfl) (by kernel_rfl) (by kernel_rfl) (fun _ _ _ h => h) (Or.inl ⟨by rfl, ?y67⟩) hHeld ?r67
        case y67 =>
          intro w9 hSw
          (try dsimp only at hSw)
          go_simp
          try with_reducible rfl
        try simp only [Act.put, List.setIfInBounds_toArray, List.set_cons_zero, List.set_cons_succ]
        refine wpAnyH_ready (rs := [12, 13]) (by kernel_rfl) (by simp) (hCons (i := 12) rfl (by rfl) (fun K hK => ?_) (hCons (i := 13) rfl (by rfl) (fun K hK => ?_) AllReadyH.nil))
        · go_simp
          refine (make_any (y0 + y1) 32768 _ (by omega) (by omega) (by decide) (by decide)).mono ?_
          rintro e u64 ⟨v7, rfl, hF7, hb64⟩
          replace hP := hP.below hb64
          replace hM6 := hM6.below hb64
          replace T2 := T2.below hb64
          replace A6 := A6.below hb64
          replace hbW : Below w.heap.size w u64 := hbW.trans (hb64.mono hbW.size)
          replace hbR : Below u3.heap.size u3 u64 := hbR.trans (hb64.mono hbR.size)
          clear hb64
          have hM7 := hF7.ct
          obtain ⟨n7, x17, y17, ⟨a17, c17, b17, d17, rfl, _, _⟩, _⟩ := hF7
          clear p00 p01 p02 p03 p10 p11 p12
          obtain ⟨p00, p01, p02, p03⟩ := T2.cells
          obtain ⟨p10, p11, p12, _⟩ := A6.cells
          go_wp2_with fail
          refine hK.out _ _ ?_ (fun hHeld => ?_)
          · (try dsimp only)
            exact ⟨p00, p01, p02, p03, p10, p11, p12⟩
          clear hK K
          try simp only [Act.put, List.setIfInBounds_toArray, List.set_cons_zero, List.set_cons_succ]
          refine hCall (i := 13) rfl (by kernel_rfl) (by rfl) (fun K hK => ?_)
          go_simp
          obtain ⟨u65, hU, B7, hb9⟩ : ∃ U, U = u64.alloc (.cells #[.bool false, .slice none 0 0, .slice none 0 0] 26) ∧ Box 26 U u64.heap.size (.bool false) (.slice none 0 0) (.slice none 0 0) ∧ Below u64.heap.size u64 U := ⟨_, rfl, Box.new _ _ _ _ _, al1 _⟩
          rw [← hU]
          clear hU
          have n71 := hbR.size
          have n72 := T2.1
          have nn := A6.lt
          replace hP := hP.below hb9
          replace hM6 := hM6.below hb9
          replace hM7 := hM7.below hb9
          replace T2 := T2.below hb9
          replace A6 := A6.below hb9
          replace hbW : Below w.heap.size w u65 := hbW.trans (hb9.mono hbW.size)
          replace hbR : Below u3.heap.size u3 u65 := hbR.trans (hb9.mono hbR.size)
          clear hb9
          generalize u64.heap.size = g7 at B7 n71 n72 nn ⊢
          clear p00 p01 p02 p03 p10 p11 p12
          obtain ⟨p00, p01, p02, p03⟩ := T2.cells
          obtain ⟨p10, p11, p12, _⟩ := A6.cells
          obtain ⟨p20, p21, p22, _⟩ := B7.cells
          refine hK.out _ _ ?_ (fun hHeld => ?_)
          · (try dsimp only)
            exact ⟨p00, p01, p02, p03, p10, p11, p12⟩
          clear hK K
          try simp only [Act.put, List.setIfInBounds_toArray, List.set_cons_zero, List.set_cons_succ]
          refine hCall (i := 14) rfl (by kernel_rfl) (by rfl) (fun K hK => ?_)
          go_simp
          obtain ⟨u66, hU, A7, hbU, hK9, ho⟩ := set3_world B7 (.bool n7) (.slice a17 x17.length c17) (.slice b17 y17.length d17)
          rw [← hU]
          clear hU
          replace hbW := hbU _ _ hbW (by omega)
          replace hbR := hbU _ _ hbR (by omega)
          replace hM7 := hM7.keep hK9
          replace T2 := T2.other ho (by omega)
          replace hM6 := hM6.keep hK9
          replace A6 := A6.other ho (by omega)
          clear hbU hK9 ho hP
          have hP := HPU.out.below hbR
          clear p00 p01 p02 p03 p10 p11 p12 p20 p21 p22
          obtain ⟨p00, p01, p02, p03⟩ := T2.cells
          obtain ⟨p10, p11, p12, _⟩ := A6.cells
          obtain ⟨p20, p21, p22, _⟩ := A7.cells
          refine hK.out _ _ ?_ (fun hHeld => ?_)
          · (try dsimp only)
            exact ⟨p00, p01, p02, p03, p10, p11, p12⟩
          clear hK K
          try simp only [Act.put, List.setIfInBounds_toArray, List.set_cons_zero, List.set_cons_succ]
          refine wpAnyH_done (by kernel_rfl) ?_ _
          clear hHeld
          go_wp2_with fail
          refine wp_region_held_drew (S := (fun u => u.cell? ⟨b, (off + j * 2), none⟩ = some (.int .i64 x0) ∧ u.cell? ⟨b, (off + j * 2 + 1), none⟩ = some (.int .i64 y0) ∧ u.cell? ⟨b, (off + (j + 1) * 2), none⟩ = some (.int .i64 x1) ∧ u.cell? ⟨b, (off + (j + 1) * 2 + 1), none⟩ = some (.int .i64 y1) ∧ u.cell? ⟨g6, 0, none⟩ = some (.bool n6) ∧ u.cell? ⟨g6, 1, none⟩ = some (.slice a16 x16.length c16) ∧ u.cell? ⟨g6, 2, none⟩ = some (.slice b16 y16.length d16) ∧ u.cell? ⟨g7, 0, none⟩ = some (.bool n7) ∧ u.cell? ⟨g7, 1, none⟩ = some (.slice a17 x17.length c17) ∧ u.cell? ⟨g7, 2, none⟩ = some (.slice b17 y17.length d17))) (by kernel_rfl) ?_ (fun hHeld => ?_)
          · (try dsimp only)
            go_keep
          have hdr : Below u66.heap.size u66 u66.drew := Below.drew1
          generalize u66.drew = ud68 at hdr hHeld ⊢
          replace hP := hP.below hdr
          replace hM6 := hM6.below hdr
          replace hM7 := hM7.below hdr
          replace T2 := T2.below hdr
          replace A6 := A6.below hdr
          replace A7 := A7.below hdr
          replace hbW : Below w.heap.size w ud68 := hbW.trans (hdr.mono hbW.size)
          replace hbR : Below u3.heap.size u3 ud68 := hbR.trans (hdr.mono hbR.size)
          clear hdr
          clear p00 p01 p02 p03 p10 p11 p12 p20 p21 p22
          obtain ⟨p00, p01, p02, p03⟩ := T2.cells
          obtain ⟨p10, p11, p12, _⟩ := A6.cells
          obtain ⟨p20, p21, p22, _⟩ := A7.cells
          refine hTake (i := 0) (v := ?v69) rfl (by kernel_rfl) (by kernel_rfl) (by kernel_rfl) (fun _ _ _ h => h) (Or.inl ⟨by rfl, ?y69⟩) hHeld ?r69
          case y69 =>
            intro w9 hSw
            (try dsimp only at hSw)
            go_simp
            try with_reducible rfl
          try simp only [Act.put, List.setIfInBounds_toArray, List.set_cons_zero, List.set_cons_succ]
          refine hTake (i := 1) (v := ?v70) rfl (by kernel_rfl) (by kernel_rfl) (by kernel_rfl) (fun _ _ _ h => h) (Or.inl ⟨by rfl, ?y70⟩) hHeld ?r70
          case y70 =>
            intro w9 hSw
            (try dsimp only at hSw)
            go_simp
            try with_reducible rfl
          try simp only [Act.put, List.setIfInBounds_toArray, List.set_cons_zero, List.set_cons_succ]
          refine hTake (i := 3) (v := ?v71) rfl (by kernel_rfl) (by kernel_rfl) (by kernel_rfl) (fun _ _ _ h => h) (Or.inl ⟨by rfl, ?y71⟩) hHeld ?r71
          case y71 =>
            intro w9 hSw
            (try dsimp only at hSw)
            go_simp
            try with_reducible rfl
          try simp only [Act.put, List.setIfInBounds_toArray, List.set_cons_zero, List.set_cons_succ]
          refine hCall (i := 2) rfl (by kernel_rfl) (by rfl) (fun K hK => ?_)
          go_simp
          refine (hbe 2 (((x0 + x1 : Int) : Rat) / ((32768 : Int) : Rat)) _ _ hP hM6 (by decide) (by decide)).mono ?_
          rintro e u67 ⟨v8, rfl, hF8, hb67⟩
          replace hP := hP.below hb67
          replace hM6 := hM6.below hb67
          replace hM7 := hM7.below hb67
          replace T2 := T2.below hb67
          replace A6 := A6.below hb67
          replace A7 := A7.below hb67
          replace hbW : Below w.heap.size w u67 := hbW.trans (hb67.mono hbW.size)
          replace hbR : Below u3.heap.size u3 u67 := hbR.trans (hb67.mono hbR.size)
          clear hb67
          clear p00 p01 p02 p03 p10 p11 p12 p20 p21 p22
          obtain ⟨p00, p01, p02, p03⟩ := T2.cells
          obtain ⟨p10, p11, p12, _⟩ := A6.cells
          obtain ⟨p20, p21, p22, _⟩ := A7.cells
          go_wp2_with fail
          refine hK.out _ _ ?_ (fun hHeld => ?_)
          · (try dsimp only)
            exact ⟨p00, p01, p02, p03, p10, p11, p12, p20, p21, p22⟩
          clear hK K
          try simp only [Act.put, List.setIfInBounds_toArray, List.set_cons_zero, List.set_cons_succ]
          refine hCall (i := 4) rfl (by kernel_rfl) (by rfl) (fun K hK => ?_)
          go_simp
          refine (qcmp_any 10 2 _ _ _ _ _ hF8.ct hM7 (by decide) (by decide) (by decide) (by decide)).mono ?_
          rintro e u68 ⟨rfl, hb68⟩
          replace hP := hP.below hb68
          replace hM6 := hM6.below hb68
          replace hM7 := hM7.below hb68
          replace hF8 := hF8.below hb68
          replace T2 := T2.below hb68
          replace A6 := A6.below hb68
          replace A7 := A7.below hb68
          replace hbW : Below w.heap.size w u68 := hbW.trans (hb68.mono hbW.size)
          replace hbR : Below u3.heap.size u3 u68 := hbR.trans (hb68.mono hbR.size)
          clear hb68
          rw [sgn_eq0.2 HMID.out]
          clear p00 p01 p02 p03 p10 p11 p12 p20 p21 p22
          obtain ⟨p00, p01, p02, p03⟩ := T2.cells
          obtain ⟨p10, p11, p12, _⟩ := A6.cells
          obtain ⟨p20, p21, p22, _⟩ := A7.cells
          go_wp2_with fail
          refine hK.out _ _ ?_ (fun hHeld => ?_)
          · (try dsimp only)
            exact ⟨p00, p01, p02, p03, p10, p11, p12, p20, p21, p22⟩
          clear hK K
          try simp only [Act.put, List.setIfInBounds_toArray, List.set_cons_zero, List.set_cons_succ]
          refine hTake (i := 5) (v := ?v72) rfl (by kernel_rfl) (by kernel_rfl) (by kernel_rfl) (fun _ _ _ h => h) (Or.inl ⟨by rfl, ?y72⟩) hHeld ?r72
          case y72 =>
            intro w9 hSw
            (try dsimp only at hSw)
            go_simp
            try with_reducible rfl
          try simp only [Act.put, List.setIfInBounds_toArray, List.set_cons_zero, List.set_cons_succ]
          refine wpAnyH_done (by kernel_rfl) ?_ _
          clear hHeld
          go_wp2
          go_roundw
          case rel => exact ⟨j + 1, by omega, by go_num, hbR⟩
          case measure => simp [intOf]; omega
        · go_simp
          obtain ⟨u64, hU, B7, hb9⟩ : ∃ U, U = ud55.alloc (.cells #[.bool false, .slice none 0 0, .slice none 0 0] 26) ∧ Box 26 U ud55.heap.size (.bool false) (.slice none 0 0) (.slice none 0 0) ∧ Below ud55.heap.size ud55 U := ⟨_, rfl, Box.new _ _ _ _ _, al1 _⟩
          rw [← hU]
          clear hU
          have n71 := hbR.size
          have n72 := T2.1
          have nn := A6.lt
          replace hP := hP.below hb9
          replace hM6 := hM6.below hb9
          replace T2 := T2.below hb9
          replace A6 := A6.below hb9
          replace hbW : Below w.heap.size w u64 := hbW.trans (hb9.mono hbW.size)
          replace hbR : Below u3.heap.size u3 u64 := hbR.trans (hb9.mono hbR.size)
          clear hb9
          generalize ud55.heap.size = g7 at B7 n71 n72 nn ⊢
          clear p00 p01 p02 p03 p10 p11 p12
          obtain ⟨p00, p01, p02, p03⟩ := T2.cells
          obtain ⟨p10, p11, p12, _⟩ := A6.cells
          obtain ⟨p20, p21, p22, _⟩ := B7.cells
          refine hK.out _ _ ?_ (fun hHeld => ?_)
          · (try dsimp only)
            exact ⟨p00, p01, p02, p03, p10, p11, p12⟩
          clear hK K
          try simp only [Act.put, List.setIfInBounds_toArray, List.set_cons_zero, List.set_cons_succ]
          refine hCall (i := 12) rfl (by kernel_rfl) (by rfl) (fun K hK => ?_)
          go_simp
          refine (make_any (y0 + y1) 32768 _ (by omega) (by omega) (by decide) (by decide)).mono ?_
          rintro e u65 ⟨v7, rfl, hF7, hb65⟩
          replace hP := hP.below hb65
          replace hM6 := hM6.below hb65
          replace T2 := T2.below hb65
          replace A6 := A6.below hb65
          replace B7 := B7.below hb65
          replace hbW : Below w.heap.size w u65 := hbW.trans (hb65.mono hbW.size)
          replace hbR : Below u3.heap.size u3 u65 := hbR.trans (hb65.mono hbR.size)
          clear hb65
          have hM7 := hF7.ct
          obtain ⟨n7, x17, y17, ⟨a17, c17, b17, d17, rfl, _, _⟩, _⟩ := hF7
          clear p00 p01 p02 p03 p10 p11 p12 p20 p21 p22
          obtain ⟨p00, p01, p02, p03⟩ := T2.cells
          obtain ⟨p10, p11, p12, _⟩ := A6.cells
          obtain ⟨p20, p21, p22, _⟩ := B7.cells
          go_wp2_with fail
          refine hK.out _ _ ?_ (fun hHeld => ?_)
          · (try dsimp only)
            exact ⟨p00, p01, p02, p03, p10, p11, p12⟩
          clear hK K
          try simp only [Act.put, List.setIfInBounds_toArray, List.set_cons_zero, List.set_cons_succ]
          refine hCall (i := 14) rfl (by kernel_rfl) (by rfl) (fun K hK => ?_)
          go_simp
          obtain ⟨u66, hU, A7, hbU, hK9, ho⟩ := set3_world B7 (.bool n7) (.slice a17 x17.length c17) (.slice b17 y17.length d17)
          rw [← hU]
          clear hU
          replace hbW := hbU _ _ hbW (by omega)
          replace hbR := hbU _ _ hbR (by omega)
          replace hM7 := hM7.keep hK9
          replace T2 := T2.other ho (by omega)
          replace hM6 := hM6.keep hK9
          replace A6 := A6.other ho (by omega)
          clear hbU hK9 ho hP
          have hP := HPU.out.below hbR
          clear p00 p01 p02 p03 p10 p11 p12 p20 p21 p22
          obtain ⟨p00, p01, p02, p03⟩ := T2.cells
          obtain ⟨p10, p11, p12, _⟩ := A6.cells
          obtain ⟨p20, p21, p22, _⟩ := A7.cells
          refine hK.out _ _ ?_ (fun hHeld => ?_)
          · (try dsimp only)
            exact ⟨p00, p01, p02, p03, p10, p11, p12⟩
          clear hK K
          try simp only [Act.put, List.setIfInBounds_toArray, List.set_cons_zero, List.set_cons_succ]
          refine wpAnyH_done (by kernel_rfl) ?_ _
          clear hHeld
          go_wp2_with fail
          refine wp_region_held_drew (S := (fun u => u.cell? ⟨b, (off + j * 2), none⟩ = some (.int .i64 x0) ∧ u.cell? ⟨b, (off + j * 2 + 1), none⟩ = some (.int .i64 y0) ∧ u.cell? ⟨b, (off + (j + 1) * 2), none⟩ = some (.int .i64 x1) ∧ u.cell? ⟨b, (off + (j + 1) * 2 + 1), none⟩ = some (.int .i64 y1) ∧ u.cell? ⟨g6, 0, none⟩ = some (.bool n6) ∧ u.cell? ⟨g6, 1, none⟩ = some (.slice a16 x16.length c16) ∧ u.cell? ⟨g6, 2, none⟩ = some (.slice b16 y16.length d16) ∧ u.cell? ⟨g7, 0, none⟩ = some (.bool n7) ∧ u.cell? ⟨g7, 1, none⟩ = some (.slice a17 x17.length c17) ∧ u.cell? ⟨g7, 2, none⟩ = some (.slice b17 y17.length d17))) (by kernel_rfl) ?_ (fun hHeld => ?_)
          · (try dsimp only)
            go_keep
          have hdr : Below u66.heap.size u66 u66.drew := Below.drew1
          generalize u66.drew = ud73 at hdr hHeld ⊢
          replace hP := hP.below hdr
          replace hM6 := hM6.below hdr
          replace hM7 := hM7.below hdr
          replace T2 := T2.below hdr
          replace A6 := A6.below hdr
          replace A7 := A7.below hdr
          replace hbW : Below w.heap.size w ud73 := hbW.trans (hdr.mono hbW.size)
          replace hbR : Below u3.heap.size u3 ud73 := hbR.trans (hdr.mono hbR.size)
          clear hdr
          clear p00 p01 p02 p03 p10 p11 p12 p20 p21 p22
          obtain ⟨p00, p01, p02, p03⟩ := T2.cells
          obtain ⟨p10, p11, p12, _⟩ := A6.cells
          obtain ⟨p20, p21, p22, _⟩ := A7.cells
          refine hTake (i := 0) (v := ?v74) rfl (by kernel_rfl) (by kernel_rfl) (by kernel_rfl) (fun _ _ _ h => h) (Or.inl ⟨by rfl, ?y74⟩) hHeld ?r74
          case y74 =>
            intro w9 hSw
            (try dsimp only at hSw)
            go_simp
            try with_reducible rfl
          try simp only [Act.put, List.setIfInBounds_toArray, List.set_cons_zero, List.set_cons_succ]
          refine hTake (i := 1) (v := ?v75) rfl (by kernel_rfl) (by kernel_rfl) (by kernel_rfl) (fun _ _ _ h => h) (Or.inl ⟨by rfl, ?y75⟩) hHeld ?r75
          case y75 =>
            intro w9 hSw
            (try dsimp only at hSw)
            go_simp
            try with_reducible rfl
          try simp only [Act.put, List.setIfInBounds_toArray, List.set_cons_zero, List.set_cons_succ]
          refine hTake (i := 3) (v := ?v76) rfl (by kernel_rfl) (by kernel_rfl) (by kernel_rfl) (fun _ _ _ h => h) (Or.inl ⟨by rfl, ?y76⟩) hHeld ?r76
          case y76 =>
            intro w9 hSw
            (try dsimp only at hSw)
            go_simp
            try with_reducible rfl
          try simp only [Act.put, List.setIfInBounds_toArray, List.set_cons_zero, List.set_cons_succ]
          refine hCall (i := 2) rfl (by kernel_rfl) (by rfl) (fun K hK => ?_)
          go_simp
          refine (hbe 2 (((x0 + x1 : Int) : Rat) / ((32768 : Int) : Rat)) _ _ hP hM6 (by decide) (by decide)).mono ?_
          rintro e u67 ⟨v8, rfl, hF8, hb67⟩
          replace hP := hP.below hb67
          replace hM6 := hM6.below hb67
          replace hM7 := hM7.below hb67
          replace T2 := T2.below hb67
          replace A6 := A6.below hb67
          replace A7 := A7.below hb67
          replace hbW : Below w.heap.size w u67 := hbW.trans (hb67.mono hbW.size)
          replace hbR : Below u3.heap.size u3 u67 := hbR.trans (hb67.mono hbR.size)
          clear hb67
          clear p00 p01 p02 p03 p10 p11 p12 p20 p21 p22
          obtain ⟨p00, p01, p02, p03⟩ := T2.cells
          obtain ⟨p10, p11, p12, _⟩ := A6.cells
          obtain ⟨p20, p21, p22, _⟩ := A7.cells
          go_wp2_with fail
          refine hK.out _ _ ?_ (fun hHeld => ?_)
          · (try dsimp only)
            exact ⟨p00, p01, p02, p03, p10, p11, p12, p20, p21, p22⟩
          clear hK K
          try simp only [Act.put, List.setIfInBounds_toArray, List.set_cons_zero, List.set_cons_succ]
          refine hCall (i := 4) rfl (by kernel_rfl) (by rfl) (fun K hK => ?_)
          go_simp
          refine (qcmp_any 10 2 _ _ _ _ _ hF8.ct hM7 (by decide) (by decide) (by decide) (by decide)).mono ?_
          rintro e u68 ⟨rfl, hb68⟩
          replace hP := hP.below hb68
          replace hM6 := hM6.below hb68
          replace hM7 := hM7.below hb68
          replace hF8 := hF8.below hb68
          replace T2 := T2.below hb68
          replace A6 := A6.below hb68
          replace A7 := A7.below hb68
          replace hbW : Below w.heap.size w u68 := hbW.trans (hb68.mono hbW.size)
          replace hbR : Below u3.heap.size u3 u68 := hbR.trans (hb68.mono hbR.size)
          clear hb68
          rw [sgn_eq0.2 HMID.out]
          clear p00 p01 p02 p03 p10 p11 p12 p20 p21 p22
          obtain ⟨p00, p01, p02, p03⟩ := T2.cells
          obtain ⟨p10, p11, p12, _⟩ := A6.cells
          obtain ⟨p20, p21, p22, _⟩ := A7.cells
          go_wp2_with fail
          refine hK.out _ _ ?_ (fun hHeld => ?_)
          · (try dsimp only)
            exact ⟨p00, p01, p02, p03, p10, p11, p12, p20, p21, p22⟩
          clear hK K
          try simp only [Act.put, List.setIfInBounds_toArray, List.set_cons_zero, List.set_cons_succ]
          refine hTake (i := 5) (v := ?v77) rfl (by kernel_rfl) (by kernel_rfl) (by kernel_rfl) (fun _ _ _ h => h) (Or.inl ⟨by rfl, ?y77⟩) hHeld ?r77
          case y77 =>
            intro w9 hSw
            (try dsimp only at hSw)
            go_simp
            try with_reducible rfl
          try simp only [Act.put, List.setIfInBounds_toArray, List.set_cons_zero, List.set_cons_succ]
          refine wpAnyH_done (by kernel_rfl) ?_ _
          clear hHeld
          go_wp2
          go_roundw
          case rel => exact ⟨j + 1, by omega, by go_num, hbR⟩
          case measure => simp [intOf]; omega
      · go_simp
        obtain ⟨u61, hU, B6, hb9⟩ : ∃ U, U = ud42.alloc (.cells #[.bool false, .slice none 0 0, .slice none 0 0] 26) ∧ Box 26 U ud42.heap.size (.bool false) (.slice none 0 0) (.slice none 0 0) ∧ Below ud42.heap.size ud42 U := ⟨_, rfl, Box.new _ _ _ _ _, al1 _⟩
        rw [← hU]
        clear hU
        have n61 := hbR.size
        have n62 := T2.1
        replace hP := hP.below hb9
        replace T2 := T2.below hb9
        replace hbW : Below w.heap.size w u61 := hbW.trans (hb9.mono hbW.size)
        replace hbR : Below u3.heap.size u3 u61 := hbR.trans (hb9.mono hbR.size)
        clear hb9
        generalize ud42.heap.size = g6 at B6 n61 n62 ⊢
        clear p00 p01 p02 p03
        obtain ⟨p00, p01, p02, p03⟩ := T2.cells
        obtain ⟨p10, p11, p12, _⟩ := B6.cells
        refine hK.out _ _ ?_ (fun hHeld => ?_)
        · (try dsimp only)
          exact ⟨p00, p01, p02, p03⟩
        clear hK K
        try simp only [Act.put, List.setIfInBounds_toArray, List.set_cons_zero, List.set_cons_succ]
        refine hCall (i := 12) rfl (by kernel_rfl) (by rfl) (fun K hK => ?_)
        go_simp
        refine (make_any (x0 + x1) 32768 _ (by omega) (by omega) (by decide) (by decide)).mono ?_
        rintro e u62 ⟨v6, rfl, hF6, hb62⟩
        replace hP := hP.below hb62
        replace T2 := T2.below hb62
        replace B6 := B6.below hb62
        replace hbW : Below w.heap.size w u62 := hbW.trans (hb62.mono hbW.size)
        replace hbR : Below u3.heap.size u3 u62 := hbR.trans (hb62.mono hbR.size)
        clear hb62
        have hM6 := hF6.ct
        obtain ⟨n6, x16, y16, ⟨a16, c16, b16, d16, rfl, _, _⟩, _⟩ := hF6
        clear p00 p01 p02 p03 p10 p11 p12
        obtain ⟨p00, p01, p02, p03⟩ := T2.cells
        obtain ⟨p10, p11, p12, _⟩ := B6.cells
        go_wp2_with fail
        refine hK.out _ _ ?_ (fun hHeld => ?_)
        · (try dsimp only)
          exact ⟨p00, p01, p02, p03⟩
        clear hK K
        try simp only [Act.put, List.setIfInBounds_toArray, List.set_cons_zero, List.set_cons_succ]
        refine hCall (i := 14) rfl (by kernel_rfl) (by rfl) (fun K hK => ?_)
        go_simp
        obtain ⟨u63, hU, A6, hbU, hK9, ho⟩ := set3_world B6 (.bool n6) (.slice a16 x16.length c16) (.slice b16 y16.length d16)
        rw [← hU]
        clear hU
        replace hbW := hbU _ _ hbW (by omega)
        replace hbR := hbU _ _ hbR (by omega)
        replace hM6 := hM6.keep hK9
        replace T2 := T2.other ho (by omega)
        clear hbU hK9 ho hP
        have hP := HPU.out.below hbR
        clear p00 p01 p02 p03 p10 p11 p12
        obtain ⟨p00, p01, p02, p03⟩ := T2.cells
        obtain ⟨p10, p11, p12, _⟩ := A6.cells
        refine hK.out _ _ ?_ (fun hHeld => ?_)
        · (try dsimp only)
          exact ⟨p00, p01, p02, p03⟩
        clear hK K
        try simp only [Act.put, List.setIfInBounds_toArray, List.set_cons_zero, List.set_cons_succ]
        refine wpAnyH_done (by kernel_rfl) ?_ _
        clear hHeld
        go_wp2_with fail
        refine wp_region_held_drew (S := (fun u => u.cell? ⟨b, (off + j * 2), none⟩ = some (.int .i64 x0) ∧ u.cell? ⟨b, (off + j * 2 + 1), none⟩ = some (.int .i64 y0) ∧ u.cell? ⟨b, (off + (j + 1) * 2), none⟩ = some (.int .i64 x1) ∧ u.cell? ⟨b, (off + (j + 1) * 2 + 1), none⟩ = some (.int .i64 y1) ∧ u.cell? ⟨g6, 0, none⟩ = some (.bool n6) ∧ u.cell? ⟨g6, 1, none⟩ = some (.slice a16 x16.length c16) ∧ u.cell? ⟨g6, 2, none⟩ = some (.slice b16 y16.length d16))) (by kernel_rfl) ?_ (fun hHeld => ?_)
        · (try dsimp only)
          go_keep
        have hdr : Below u63.heap.size u63 u63.drew := Below.drew1
        generalize u63.drew = ud78 at hdr hHeld ⊢
        replace hP := hP.below hdr
        replace hM6 := hM6.below hdr
        replace T2 := T2.below hdr
        replace A6 := A6.below hdr
        replace hbW : Below w.heap.size w ud78 := hbW.trans (hdr.mono hbW.size)
        replace hbR : Below u3.heap.size u3 ud78 := hbR.trans (hdr.mono hbR.size)
        clear hdr
        clear p00 p01 p02 p03 p10 p11 p12
        obtain ⟨p00, p01, p02, p03⟩ := T2.cells
        obtain ⟨p10, p11, p12, _⟩ := A6.cells
        refine hTake (i := 0) (v := ?v79) rfl (by kernel_rfl) (by kernel_rfl) (by kernel_rfl) (fun _ _ _ h => h) (Or.inl ⟨by rfl, ?y79⟩) hHeld ?r79
        case y79 =>
          intro w9 hSw
          (try dsimp only at hSw)
          go_simp
          try with_reducible rfl
        try simp only [Act.put, List.setIfInBounds_toArray, List.set_cons_zero, List.set_cons_succ]
        refine hTake (i := 1) (v := ?v80) rfl (by kernel_rfl) (by kernel_rfl) (by kernel_rfl) (fun _ _ _ h => h) (Or.inl ⟨by rfl, ?y80⟩) hHeld ?r80
        case y80 =>
          intro w9 hSw
          (try dsimp only at hSw)
          go_simp
          try with_reducible rfl
        try simp only [Act.put, List.setIfInBounds_toArray, List.set_cons_zero, List.set_cons_succ]
        refine hTake (i := 2) (v := ?v81) rfl (by kernel_rfl) (by kernel_rfl) (by kernel_rfl) (fun _ _ _ h => h) (Or.inl ⟨by rfl, ?y81⟩) hHeld ?r81
        case y81 =>
          intro w9 hSw
          (try dsimp only at hSw)
          go_simp
          try with_reducible rfl
        try simp only [Act.put, List.setIfInBounds_toArray, List.set_cons_zero, List.set_cons_succ]
        refine hTake (i := 3) (v := ?v82) rfl (by kernel_rfl) (by kernel_rfl) (by kernel_rfl) (fun _ _ _ h => h) (Or.inl ⟨by rfl, ?y82⟩) hHeld ?r82
        case y82 =>
          intro w9 hSw
          (try dsimp only at hSw)
          go_simp
          try with_reducible rfl
        try simp only [Act.put, List.setIfInBounds_toArray, List.set_cons_zero, List.set_cons_succ]
        refine hTake (i := 4) (v := ?v83) rfl (by kernel_rfl) (by kernel_rfl) (by kernel_rfl) (fun _ _ _ h => h) (Or.inl ⟨by rfl, ?y83⟩) hHeld ?r83
        case y83 =>
          intro w9 hSw
          (try dsimp only at hSw)
          go_simp
          try with_reducible rfl
        try simp only [Act.put, List.setIfInBounds_toArray, List.set_cons_zero, List.set_cons_succ]
        refine hTake (i := 5) (v := ?v84) rfl (by kernel_rfl) (by kernel_rfl) (by kernel_rfl) (fun _ _ _ h => h) (Or.inl ⟨by rfl, ?y84⟩) hHeld ?r84
        case y84 =>
          intro w9 hSw
          (try dsimp only at hSw)
          go_simp
          try with_reducible rfl
        try simp only [Act.put, List.setIfInBounds_toArray, List.set_cons_zero, List.set_cons_succ]
        refine hTake (i := 6) (v := ?v85) rfl (by kernel_rfl) (by kernel_rfl) (by kernel_rfl) (fun _ _ _ h => h) (Or.inl ⟨by rfl, ?y85⟩) hHeld ?r85
        case y85 =>
          intro w9 hSw
          (try dsimp only at hSw)
          go_simp
          try with_reducible rfl
        try simp only [Act.put, List.setIfInBounds_toArray, List.set_cons_zero, List.set_cons_succ]
        refine hTake (i := 7) (v := ?v86) rfl (by kernel_rfl) (by kernel_rfl) (by kernel_rfl) (fun _ _ _ h => h) (Or.inl ⟨by rfl, ?y86⟩) hHeld ?r86
        case y86 =>
          intro w9 hSw
          (try dsimp only at hSw)
          go_simp
          try with_reducible rfl
        try simp only [Act.put, List.setIfInBounds_toArray, List.set_cons_zero, List.set_cons_succ]
        refine hTake (i := 8) (v := ?v87) rfl (by kernel_rfl) (by kernel_rfl) (by kernel_rfl) (fun _ _ _ h => h) (Or.inl ⟨by rfl, ?y87⟩) hHeld ?r87
        case y87 =>
          intro w9 hSw
          (try dsimp only at hSw)
          go_simp
          try with_reducible rfl
        try simp only [Act.put, List.setIfInBounds_toArray, List.set_cons_zero, List.set_cons_succ]
        refine hTake (i := 9) (v := ?v88) rfl (by kernel_rfl) (by kernel_rfl) (by kernel_rfl) (fun _ _ _ h => h) (Or.inl ⟨by rfl, ?y88⟩) hHeld ?r88
        case y88 =>
          intro w9 hSw
          (try dsimp only at hSw)
          go_simp
          try with_reducible rfl
        try simp only [Act.put, List.setIfInBounds_toArray, List.set_cons_zero, List.set_cons_succ]
        refine hTake (i := 10) (v := ?v89) rfl (by kernel_rfl) (by kernel_rfl) (by kernel_rfl) (fun _ _ _ h => h) (Or.inl ⟨by rfl, ?y89⟩) hHeld ?r89
        case y89 =>
          intro w9 hSw
          (try dsimp only at hSw)
          go_simp
          try with_reducible rfl
        try simp only [Act.put, List.setIfInBounds_toArray, List.set_cons_zero, List.set_cons_succ]
        refine hTake (i := 11) (v := ?v90) rfl (by kernel_rfl) (by kernel_rfl) (by kernel_rfl) (fun _ _ _ h => h) (Or.inl ⟨by rfl, ?y90⟩) hHeld ?r90
        case y90 =>
          intro w9 hSw
          (try dsimp only at hSw)
          go_simp
          try with_reducible rfl
        try simp only [Act.put, List.setIfInBounds_toArray, List.set_cons_zero, List.set_cons_succ]
        refine wpAnyH_ready (rs := [12, 13]) (by kernel_rfl) (by simp) (hCons (i := 12) rfl (by rfl) (fun K hK => ?_) (hCons (i := 13) rfl (by rfl) (fun K hK => ?_) AllReadyH.nil))
        · go_simp
          refine (make_any (y0 + y1) 32768 _ (by omega) (by omega) (by decide) (by decide)).mono ?_
          rintro e u64 ⟨v7, rfl, hF7, hb64⟩
          replace hP := hP.below hb64
          replace hM6 := hM6.below hb64
          replace T2 := T2.below hb64
          replace A6 := A6.below hb64
          replace hbW : Below w.heap.size w u64 := hbW.trans (hb64.mono hbW.size)
          replace hbR : Below u3.heap.size u3 u64 := hbR.trans (hb64.mono hbR.size)
          clear hb64
          have hM7 := hF7.ct
          obtain ⟨n7, x17, y17, ⟨a17, c17, b17, d17, rfl, _, _⟩, _⟩ := hF7
          clear p00 p01 p02 p03 p10 p11 p12
          obtain ⟨p00, p01, p02, p03⟩ := T2.cells
          obtain ⟨p10, p11, p12, _⟩ := A6.cells
          go_wp2_with fail
          refine hK.out _ _ ?_ (fun hHeld => ?_)
          · (try dsimp only)
            exact ⟨p00, p01, p02, p03, p10, p11, p12⟩
          clear hK K
          try simp only [Act.put, List.setIfInBounds_toArray, List.set_cons_zero, List.set_cons_succ]
          refine hCall (i := 13) rfl (by kernel_rfl) (by rfl) (fun K hK => ?_)
          go_simp
          obtain ⟨u65, hU, B7, hb9⟩ : ∃ U, U = u64.alloc (.cells #[.bool false, .slice none 0 0, .slice none 0 0] 26) ∧ Box 26 U u64.heap.size (.bool false) (.slice none 0 0) (.slice none 0 0) ∧ Below u64.heap.size u64 U := ⟨_, rfl, Box.new _ _ _ _ _, al1 _⟩
          rw [← hU]
          clear hU
          have n71 := hbR.size
          have n72 := T2.1
          have nn := A6.lt
          replace hP := hP.below hb9
          replace hM6 := hM6.below hb9
          replace hM7 := hM7.below hb9
          replace T2 := T2.below hb9
          replace A6 := A6.below hb9
          replace hbW : Below w.heap.size w u65 := hbW.trans (hb9.mono hbW.size)
          replace hbR : Below u3.heap.size u3 u65 := hbR.trans (hb9.mono hbR.size)
          clear hb9
          generalize u64.heap.size = g7 at B7 n71 n72 nn ⊢
          clear p00 p01 p02 p03 p10 p11 p12
          obtain ⟨p00, p01, p02, p03⟩ := T2.cells
          obtain ⟨p10, p11, p12, _⟩ := A6.cells
          obtain ⟨p20, p21, p22, _⟩ := B7.cells
          refine hK.out _ _ ?_ (fun hHeld => ?_)
          · (try dsimp only)
            exact ⟨p00, p01, p02, p03, p10, p11, p12⟩
          clear hK K
          try simp only [Act.put, List.setIfInBounds_toArray, List.set_cons_zero, List.set_cons_succ]
          refine hCall (i := 14) rfl (by kernel_rfl) (by rfl) (fun K hK => ?_)
          go_simp
          obtain ⟨u66, hU, A7, hbU, hK9, ho⟩ := set3_world B7 (.bool n7) (.slice a17 x17.length c17) (.slice b17 y17.length d17)
          rw [← hU]
          clear hU
          replace hbW := hbU _ _ hbW (by omega)
          replace hbR := hbU _ _ hbR (by omega)
          replace hM7 := hM7.keep hK9
          replace T2 := T2.other ho (by omega)
          replace hM6 := hM6.keep hK9
          replace A6 := A6.other ho (by omega)
          clear hbU hK9 ho hP
          have hP := HPU.out.below hbR
          clear p00 p01 p02 p03 p10 p11 p12 p20 p21 p22
          obtain ⟨p00, p01, p02, p03⟩ := T2.cells
          obtain ⟨p10, p11, p12, _⟩ := A6.cells
          obtain ⟨p20, p21, p22, _⟩ := A7.cells
          refine hK.out _ _ ?_ (fun hHeld => ?_)
          · (try dsimp only)
            exact ⟨p00, p01, p02, p03, p10, p11, p12⟩
          clear hK K
          try simp only [Act.put, List.setIfInBounds_toArray, List.set_cons_zero, List.set_cons_succ]
          refine wpAnyH_done (by kernel_rfl) ?_ _
          clear hHeld
          go_wp2_with fail
          refine wp_region_held_drew (S := (fun u => u.cell? ⟨b, (off + j * 2), none⟩ = some (.int .i64 x0) ∧ u.cell? ⟨b, (off + j * 2 + 1), none⟩ = some (.int .i64 y0) ∧ u.cell? ⟨b, (off + (j + 1) * 2), none⟩ = some (.int .i64 x1) ∧ u.cell? ⟨b, (off + (j + 1) * 2 + 1), none⟩ = some (.int .i64 y1) ∧ u.cell? ⟨g6, 0, none⟩ = some (.bool n6) ∧ u.cell? ⟨g6, 1, none⟩ = some (.slice a16 x16.length c16) ∧ u.cell? ⟨g6, 2, none⟩ = some (.slice b16 y16.length d16) ∧ u.cell? ⟨g7, 0, none⟩ = some (.bool n7) ∧ u.cell? ⟨g7, 1, none⟩ = some (.slice a17 x17.length c17) ∧ u.cell? ⟨g7, 2, none⟩ = some (.slice b17 y17.length d17))) (by kernel_rfl) ?_ (fun hHeld => ?_)
          · (try dsimp only)
            go_keep
          have hdr : Below u66.heap.size u66 u66.drew := Below.drew1
          generalize u66.drew = ud91 at hdr hHeld ⊢
          replace hP := hP.below hdr
          replace hM6 := hM6.below hdr
          replace hM7 := hM7.below hdr
          replace T2 := T2.below hdr
          replace A6 := A6.below hdr
          replace A7 := A7.below hdr
          replace hbW : Below w.heap.size w ud91 := hbW.trans (hdr.mono hbW.size)
          replace hbR : Below u3.heap.size u3 ud91 := hbR.trans (hdr.mono hbR.size)
          clear hdr
          clear p00 p01 p02 p03 p10 p11 p12 p20 p21 p22
          obtain ⟨p00, p01, p02, p03⟩ := T2.cells
          obtain ⟨p10, p11, p12, _⟩ := A6.cells
          obtain ⟨p20, p21, p22, _⟩ := A7.cells
          refine hTake (i := 0) (v := ?v92) rfl (by kernel_rfl) (by kernel_rfl) (by kernel_rfl) (fun _ _ _ h => h) (Or.inl ⟨by rfl, ?y92⟩) hHeld ?r92
          case y92 =>
            intro w9 hSw
            (try dsimp only at hSw)
            go_simp
            try with_reducible rfl
          try simp only [Act.put, List.setIfInBounds_toArray, List.set_cons_zero, List.set_cons_succ]
          refine hTake (i := 1) (v := ?v93) rfl (by kernel_rfl) (by kernel_rfl) (by kernel_rfl) (fun _ _ _ h => h) (Or.inl ⟨by rfl, ?y93⟩) hHeld ?r93
          case y93 =>
            intro w9 hSw
            (try dsimp only at hSw)
            go_simp
            try with_reducible rfl
          try simp only [Act.put, List.setIfInBounds_toArray, List.set_cons_zero, List.set_cons_succ]
          refine hTake (i := 3) (v := ?v94) rfl (by kernel_rfl) (by kernel_rfl) (by kernel_rfl) (fun _ _ _ h => h) (Or.inl ⟨by rfl, ?y94⟩) hHeld ?r94
          case y94 =>
            intro w9 hSw
            (try dsimp only at hSw)
            go_simp
            try with_reducible rfl
          try simp only [Act.put, List.setIfInBounds_toArray, List.set_cons_zero, List.set_cons_succ]
          refine hCall (i := 2) rfl (by kernel_rfl) (by rfl) (fun K hK => ?_)
          go_simp
          refine (hbe 2 (((x0 + x1 : Int) : Rat) / ((32768 : Int) : Rat)) _ _ hP hM6 (by decide) (by decide)).mono ?_
          rintro e u67 ⟨v8, rfl, hF8, hb67⟩
          replace hP := hP.below hb67
          replace hM6 := hM6.below hb67
          replace hM7 := hM7.below hb67
          replace T2 := T2.below hb67
          replace A6 := A6.below hb67
          replace A7 := A7.below hb67
          replace hbW : Below w.heap.size w u67 := hbW.trans (hb67.mono hbW.size)
          replace hbR : Below u3.heap.size u3 u67 := hbR.trans (hb67.mono hbR.size)
          clear hb67
          clear p00 p01 p02 p03 p10 p11 p12 p20 p21 p22
          obtain ⟨p00, p01, p02, p03⟩ := T2.cells
          obtain ⟨p10, p11, p12, _⟩ := A6.cells
          obtain ⟨p20, p21, p22, _⟩ := A7.cells
          go_wp2_with fail
          refine hK.out _ _ ?_ (fun hHeld => ?_)
          · (try dsimp only)
            exact ⟨p00, p01, p02, p03, p10, p11, p12, p20, p21, p22⟩
          clear hK K
          try simp only [Act.put, List.setIfInBounds_toArray, List.set_cons_zero, List.set_cons_succ]
          refine hCall (i := 4) rfl (by kernel_rfl) (by rfl) (fun K hK => ?_)
          go_simp
          refine (qcmp_any 10 2 _ _ _ _ _ hF8.ct hM7 (by decide) (by decide) (by decide) (by decide)).mono ?_
          rintro e u68 ⟨rfl, hb68⟩
          replace hP := hP.below hb68
          replace hM6 := hM6.below hb68
          replace hM7 := hM7.below hb68
          replace hF8 := hF8.below hb68
          replace T2 := T2.below hb68
          replace A6 := A6.below hb68
          replace A7 := A7.below hb68
          replace hbW : Below w.heap.size w u68 := hbW.trans (hb68.mono hbW.size)
          replace hbR : Below u3.heap.size u3 u68 := hbR.trans (hb68.mono hbR.size)
          clear hb68
          rw [sgn_eq0.2 HMID.out]
          clear p00 p01 p02 p03 p10 p11 p12 p20 p21 p22
          obtain ⟨p00, p01, p02, p03⟩ := T2.cells
          obtain ⟨p10, p11, p12, _⟩ := A6.cells
          obtain ⟨p20, p21, p22, _⟩ := A7.cells
          go_wp2_with fail
          refine hK.out _ _ ?_ (fun hHeld => ?_)
          · (try dsimp only)
            exact ⟨p00, p01, p02, p03, p10, p11, p12, p20, p21, p22⟩
          clear hK K
          try simp only [Act.put, List.setIfInBounds_toArray, List.set_cons_zero, List.set_cons_succ]
          refine hTake (i := 5) (v := ?v95) rfl (by kernel_rfl) (by kernel_rfl) (by kernel_rfl) (fun _ _ _ h => h) (Or.inl ⟨by rfl, ?y95⟩) hHeld ?r95
          case y95 =>
            intro w9 hSw
            (try dsimp only at hSw)
            go_simp
            try with_reducible rfl
          try simp only [Act.put, List.setIfInBounds_toArray, List.set_cons_zero, List.set_cons_succ]
          refine wpAnyH_done (by kernel_rfl) ?_ _
          clear hHeld
          go_wp2
          go_roundw
          case rel => exact ⟨j + 1, by omega, by go_num, hbR⟩
          case measure => simp [intOf]; omega
        · go_simp
          obtain ⟨u64, hU, B7, hb9⟩ : ∃ U, U = ud78.alloc (.cells #[.bool false, .slice none 0 0, .slice none 0 0] 26) ∧ Box 26 U ud78.heap.size (.bool false) (.slice none 0 0) (.slice none 0 0) ∧ Below ud78.heap.size ud78 U := ⟨_, rfl, Box.new _ _ _ _ _, al1 _⟩
          rw [← hU]
          clear hU
          have n71 := hbR.size
          have n72 := T2.1
          have nn := A6.lt
          replace hP := hP.below hb9
          replace hM6 := hM6.below hb9
          replace T2 := T2.below hb9
          replace A6 := A6.below hb9
          replace hbW : Below w.heap.size w u64 := hbW.trans (hb9.mono hbW.size)
          replace hbR : Below u3.heap.size u3 u64 := hbR.trans (hb9.mono hbR.size)
          clear hb9
          generalize ud78.heap.size = g7 at B7 n71 n72 nn ⊢
          clear p00 p01 p02 p03 p10 p11 p12
          obtain ⟨p00, p01, p02, p03⟩ := T2.cells
          obtain ⟨p10, p11, p12, _⟩ := A6.cells
          obtain ⟨p20, p21, p22, _⟩ := B7.cells
          refine hK.out _ _ ?_ (fun hHeld => ?_)
          · (try dsimp only)
            exact ⟨p00, p01, p02, p03, p10, p11, p12⟩
          clear hK K
          try simp only [Act.put, List.setIfInBounds_toArray, List.set_cons_zero, List.set_cons_succ]
          refine hCall (i := 12) rfl (by kernel_rfl) (by rfl) (fun K hK => ?_)
          go_simp
          refine (make_any (y0 + y1) 32768 _ (by omega) (by omega) (by decide) (by decide)).mono ?_
          rintro e u65 ⟨v7, rfl, hF7, hb65⟩
          replace hP := hP.below hb65
          replace hM6 := hM6.below hb65
          replace T2 := T2.below hb65
          replace A6 := A6.below hb65
          replace B7 := B7.below hb65
          replace hbW : Below w.heap.size w u65 := hbW.trans (hb65.mono hbW.size)
          replace hbR : Below u3.heap.size u3 u65 := hbR.trans (hb65.mono hbR.size)
          clear hb65
          have hM7 := hF7.ct
          obtain ⟨n7, x17, y17, ⟨a17, c17, b17, d17, rfl, _, _⟩, _⟩ := hF7
          clear p00 p01 p02 p03 p10 p11 p12 p20 p21 p22
          obtain ⟨p00, p01, p02, p03⟩ := T2.cells
          obtain ⟨p10, p11, p12, _⟩ := A6.cells
          obtain ⟨p20, p21, p22, _⟩ := B7.cells
          go_wp2_with fail
          refine hK.out _ _ ?_ (fun hHeld => ?_)
          · (try dsimp only)
            exact ⟨p00, p01, p02, p03, p10, p11, p12⟩
          clear hK K
          try simp only [Act.put, List.setIfInBounds_toArray, List.set_cons_zero, List.set_cons_succ]
          refine hCall (i := 14) rfl (by kernel_rfl) (by rfl) (fun K hK => ?_)
          go_simp
          obtain ⟨u66, hU, A7, hbU, hK9, ho⟩ := set3_world B7 (.bool n7) (.slice a17 x17.length c17) (.slice b17 y17.length d17)
          rw [← hU]
          clear hU
          replace hbW := hbU _ _ hbW (by omega)
          replace hbR := hbU _ _ hbR (by omega)
          replace hM7 := hM7.keep hK9
          replace T2 := T2.other ho (by omega)
          replace hM6 := hM6.keep hK9
          replace A6 := A6.other ho (by omega)
          clear hbU hK9 ho hP
          have hP := HPU.out.below hbR
          clear p00 p01 p02 p03 p10 p11 p12 p20 p21 p22
          obtain ⟨p00, p01, p02, p03⟩ := T2.cells
          obtain ⟨p10, p11, p12, _⟩ := A6.cells
          obtain ⟨p20, p21, p22, _⟩ := A7.cells
          refine hK.out _ _ ?_ (fun hHeld => ?_)
          · (try dsimp only)
            exact ⟨p00, p01, p02, p03, p10, p11, p12⟩
          clear hK K
          try simp only [Act.put, List.setIfInBounds_toArray, List.set_cons_zero, List.set_cons_succ]
          refine wpAnyH_done (by kernel_rfl) ?_ _
          clear hHeld
          go_wp2_with fail
          refine wp_region_held_drew (S := (fun u => u.cell? ⟨b, (off + j * 2), none⟩ = some (.int .i64 x0) ∧ u.cell? ⟨b, (off + j * 2 + 1), none⟩ = some (.int .i64 y0) ∧ u.cell? ⟨b, (off + (j + 1) * 2), none⟩ = some (.int .i64 x1) ∧ u.cell? ⟨b, (off + (j + 1) * 2 + 1), none⟩ = some (.int .i64 y1) ∧ u.cell? ⟨g6, 0, none⟩ = some (.bool n6) ∧ u.cell? ⟨g6, 1, none⟩ = some (.slice a16 x16.length c16) ∧ u.cell? ⟨g6, 2, none⟩ = some (.slice b16 y16.length d16) ∧ u.cell? ⟨g7, 0, none⟩ = some (.bool n7) ∧ u.cell? ⟨g7, 1, none⟩ = some (.slice a17 x17.length c17) ∧ u.cell? ⟨g7, 2, none⟩ = some (.slice b17 y17.length d17))) (by kernel_rfl) ?_ (fun hHeld => ?_)
          · (try dsimp only)
            go_keep
          have hdr : Below u66.heap.size u66 u66.drew := Below.drew1
          generalize u66.drew = ud96 at hdr hHeld ⊢
          replace hP := hP.below hdr
          replace hM6 := hM6.below hdr
          replace hM7 := hM7.below hdr
          replace T2 := T2.below hdr
          replace A6 := A6.below hdr
          replace A7 := A7.below hdr
          replace hbW : Below w.heap.size w ud96 := hbW.trans (hdr.mono hbW.size)
          replace hbR : Below u3.heap.size u3 ud96 := hbR.trans (hdr.mono hbR.size)
          clear hdr
          clear p00 p01 p02 p03 p10 p11 p12 p20 p21 p22
          obtain ⟨p00, p01, p02, p03⟩ := T2.cells
          obtain ⟨p10, p11, p12, _⟩ := A6.cells
          obtain ⟨p20, p21, p22, _⟩ := A7.cells
          refine hTake (i := 0) (v := ?v97) rfl (by kernel_rfl) (by kernel_rfl) (by kernel_rfl) (fun _ _ _ h => h) (Or.inl ⟨by rfl, ?y97⟩) hHeld ?r97
          case y97 =>
            intro w9 hSw
            (try dsimp only at hSw)
            go_simp
            try with_reducible rfl
          try simp only [Act.put, List.setIfInBounds_toArray, List.set_cons_zero, List.set_cons_succ]
          refine hTake (i := 1) (v := ?v98) rfl (by kernel_rfl) (by kernel_rfl) (by kernel_rfl) (fun _ _ _ h => h) (Or.inl ⟨by rfl, ?y98⟩) hHeld ?r98
          case y98 =>
            intro w9 hSw
            (try dsimp only at hSw)
            go_simp
            try with_reducible rfl
          try simp only [Act.put, List.setIfInBounds_toArray, List.set_cons_zero, List.set_cons_succ]
          refine hTake (i := 3) (v := ?v99) rfl (by kernel_rfl) (by kernel_rfl) (by kernel_rfl) (fun _ _ _ h => h) (Or.inl ⟨by rfl, ?y99⟩) hHeld ?r99
          case y99 =>
            intro w9 hSw
            (try dsimp only at hSw)
            go_simp
            try with_reducible rfl
          try simp only [Act.put, List.setIfInBounds_toArray, List.set_cons_zero, List.set_cons_succ]
          refine hCall (i := 2) rfl (by kernel_rfl) (by rfl) (fun K hK => ?_)
          go_simp
          refine (hbe 2 (((x0 + x1 : Int) : Rat) / ((32768 : Int) : Rat)) _ _ hP hM6 (by decide) (by decide)).mono ?_
          rintro e u67 ⟨v8, rfl, hF8, hb67⟩
          replace hP := hP.below hb67
          replace hM6 := hM6.below hb67
          replace hM7 := hM7.below hb67
          replace T2 := T2.below hb67
          replace A6 := A6.below hb67
          replace A7 := A7.below hb67
          replace hbW : Below w.heap.size w u67 := hbW.trans (hb67.mono hbW.size)
          replace hbR : Below u3.heap.size u3 u67 := hbR.trans (hb67.mono hbR.size)
          clear hb67
          clear p00 p01 p02 p03 p10 p11 p12 p20 p21 p22
          obtain ⟨p00, p01, p02, p03⟩ := T2.cells
          obtain ⟨p10, p11, p12, _⟩ := A6.cells
          obtain ⟨p20, p21, p22, _⟩ := A7.cells
          go_wp2_with fail
          refine hK.out _ _ ?_ (fun hHeld => ?_)
          · (try dsimp only)
            exact ⟨p00, p01, p02, p03, p10, p11, p12, p20, p21, p22⟩
          clear hK K
          try simp only [Act.put, List.setIfInBounds_toArray, List.set_cons_zero, List.set_cons_succ]
          refine hCall (i := 4) rfl (by kernel_rfl) (by rfl) (fun K hK => ?_)
          go_simp
          refine (qcmp_any 10 2 _ _ _ _ _ hF8.ct hM7 (by decide) (by decide) (by decide) (by decide)).mono ?_
          rintro e u68 ⟨rfl, hb68⟩
          replace hP := hP.below hb68
          replace hM6 := hM6.below hb68
          replace hM7 := hM7.below hb68
          replace hF8 := hF8.below hb68
          replace T2 := T2.below hb68
          replace A6 := A6.below hb68
          replace A7 := A7.below hb68
          replace hbW : Below w.heap.size w u68 := hbW.trans (hb68.mono hbW.size)
          replace hbR : Below u3.heap.size u3 u68 := hbR.trans (hb68.mono hbR.size)
          clear hb68
          rw [sgn_eq0.2 HMID.out]
          clear p00 p01 p02 p03 p10 p11 p12 p20 p21 p22
          obtain ⟨p00, p01, p02, p03⟩ := T2.cells
          obtain ⟨p10, p11, p12, _⟩ := A6.cells
          obtain ⟨p20, p21, p22, _⟩ := A7.cells
          go_wp2_with fail
          refine hK.out _ _ ?_ (fun hHeld => ?_)
          · (try dsimp only)
            exact ⟨p00, p01, p02, p03, p10, p11, p12, p20, p21, p22⟩
          clear hK K
          try simp only [Act.put, List.setIfInBounds_toArray, List.set_cons_zero, List.set_cons_succ]
          refine hTake (i := 5) (v := ?v100) rfl (by kernel_rfl) (by kernel_rfl) (by kernel_rfl) (fun _ _ _ h => h) (Or.inl ⟨by rfl, ?y100⟩) hHeld ?r100
          case y100 =>
            intro w9 hSw
            (try dsimp only at hSw)
            go_simp
            try with_reducible rfl
          try simp only [Act.put, List.setIfInBounds_toArray, List.set_cons_zero, List.set_cons_succ]
          refine wpAnyH_done (by kernel_rfl) ?_ _
          clear hHeld
          go_wp2
          go_roundw
          case rel => exact ⟨j + 1, by omega, by go_num, hbR⟩
          case measure => simp [intOf]; omega
    · have g1 : ¬ (j : Int) + 1 < (l.length : Int) := by omega
      have hP := HPU.out.below hbR
      have hX := HXU.out.below hbR
      have B1 := HBU.out.below hbR
      clear hbR
      obtain ⟨s1, h1⟩ : ∃ s, sgnQ (qx - ((1 : Int) : Rat)) = s := ⟨_, rfl⟩
      obtain ⟨s2, h2⟩ : ∃ s, sgnQ (qx - ((-1 : Int) : Rat)) = s := ⟨_, rfl⟩
      have HS : Hid (sgnQ (qx - ((1 : Int) : Rat)) = s1 ∧ sgnQ (qx - ((-1 : Int) : Rat)) = s2) := ⟨h1, h2⟩
      clear h1 h2
      obtain ⟨p00, p01, p02, _⟩ := B1.cells
      by_cases h1 : s1 ≤ 0
      rotate_left
      · have gd1 : decide (s1 ≤ 0) = false := decide_eq_false h1
        go_wp2_with fail
        refine wp_region_held_drew (S := (fun u => u.cell? ⟨w.heap.size, 0, none⟩ = some (.bool n) ∧ u.cell? ⟨w.heap.size, 1, none⟩ = some (.slice a1 xs.length c1) ∧ u.cell? ⟨w.heap.size, 2, none⟩ = some (.slice a2 ys.length c2))) (by kernel_rfl) ?_ (fun hHeld => ?_)
        · (try dsimp only)
          go_keep
        have hdr : Below wr.heap.size wr wr.drew := Below.drew1
        generalize wr.drew = ud101 at hdr hHeld ⊢
        replace hP := hP.below hdr
        replace hX := hX.below hdr
        replace B1 := B1.below hdr
        replace hbW : Below w.heap.size w ud101 := hbW.trans (hdr.mono hbW.size)
        clear hdr
        clear p00 p01 p02
        obtain ⟨p00, p01, p02, _⟩ := B1.cells
        refine hTake (i := 0) (v := ?v102) rfl (by kernel_rfl) (by kernel_rfl) (by kernel_rfl) (fun _ _ _ h => h) (Or.inl ⟨by rfl, ?y102⟩) hHeld ?r102
        case y102 =>
          intro w9 hSw
          (try dsimp only at hSw)
          go_simp
          try with_reducible rfl
        try simp only [Act.put, List.setIfInBounds_toArray, List.set_cons_zero, List.set_cons_succ]
        refine hCall (i := 1) rfl (by kernel_rfl) (by rfl) (fun K hK => ?_)
        go_simp
        refine (whole_any 1 _ (by decide) (by decide)).mono ?_
        rintro e u101 ⟨vo, rfl, hFo, hb101⟩
        replace hP := hP.below hb101
        replace hX := hX.below hb101
        replace B1 := B1.below hb101
        replace hbW : Below w.heap.size w u101 := hbW.trans (hb101.mono hbW.size)
        clear hb101
        clear p00 p01 p02
        obtain ⟨p00, p01, p02, _⟩ := B1.cells
        go_wp2_with fail
        refine hK.out _ _ ?_ (fun hHeld => ?_)
        · (try dsimp only)
          exact ⟨p00, p01, p02⟩
        clear hK K
        try simp only [Act.put, List.setIfInBounds_toArray, List.set_cons_zero, List.set_cons_succ]
        refine hCall (i := 2) rfl (by kernel_rfl) (by rfl) (fun K hK => ?_)
        go_simp
        refine (qcmp_any 6 2 _ _ _ _ _ hX hFo.ct (by decide) (by decide) (by decide) (by decide)).mono ?_
        rintro e u102 ⟨rfl, hb102⟩
        replace hP := hP.below hb102
        replace hX := hX.below hb102
        replace hFo := hFo.below hb102
        replace B1 := B1.below hb102
        replace hbW : Below w.heap.size w u102 := hbW.trans (hb102.mono hbW.size)
        clear hb102 hFo
        rw [HS.out.1]
        clear p00 p01 p02
        obtain ⟨p00, p01, p02, _⟩ := B1.cells
        go_wp2_with fail
        refine hK.out _ _ ?_ (fun hHeld => ?_)
        · (try dsimp only)
          exact ⟨p00, p01, p02⟩
        clear hK K
        try simp only [Act.put, List.setIfInBounds_toArray, List.set_cons_zero, List.set_cons_succ]
        refine hTake (i := 3) (v := ?v103) rfl (by kernel_rfl) (by kernel_rfl) (by kernel_rfl) (fun _ _ _ h => h) (Or.inl ⟨by rfl, ?y103⟩) hHeld ?r103
        case y103 =>
          intro w9 hSw
          (try dsimp only at hSw)
          go_simp
          try with_reducible rfl
        try simp only [Act.put, List.setIfInBounds_toArray, List.set_cons_zero, List.set_cons_succ]
        refine hTake (i := 4) (v := ?v104) rfl (by kernel_rfl) (by kernel_rfl) (by kernel_rfl) (fun _ _ _ h => h) (Or.inl ⟨by rfl, ?y104⟩) hHeld ?r104
        case y104 =>
          intro w9 hSw
          (try dsimp only at hSw)
          go_simp
          try with_reducible rfl
        try simp only [Act.put, List.setIfInBounds_toArray, List.set_cons_zero, List.set_cons_succ]
        refine hTake (i := 5) (v := undef) rfl (by kernel_rfl) (by kernel_rfl) (by kernel_rfl) (fun _ _ _ h => h) (Or.inr ⟨by rfl, rfl⟩) hHeld ?_
        try simp only [Act.put, List.setIfInBounds_toArray, List.set_cons_zero, List.set_cons_succ]
        refine hTake (i := 6) (v := undef) rfl (by kernel_rfl) (by kernel_rfl) (by kernel_rfl) (fun _ _ _ h => h) (Or.inr ⟨by rfl, rfl⟩) hHeld ?_
        try simp only [Act.put, List.setIfInBounds_toArray, List.set_cons_zero, List.set_cons_succ]
        refine hTake (i := 7) (v := undef) rfl (by kernel_rfl) (by kernel_rfl) (by kernel_rfl) (fun _ _ _ h => h) (Or.inr ⟨by rfl, rfl⟩) hHeld ?_
        try simp only [Act.put, List.setIfInBounds_toArray, List.set_cons_zero, List.set_cons_succ]
        refine hTake (i := 8) (v := undef) rfl (by kernel_rfl) (by kernel_rfl) (by kernel_rfl) (fun _ _ _ h => h) (Or.inr ⟨by rfl, rfl⟩) hHeld ?_
        try simp only [Act.put, List.setIfInBounds_toArray, List.set_cons_zero, List.set_cons_succ]
        refine hTake (i := 9) (v := ?v105) rfl (by kernel_rfl) (by kernel_rfl) (by kernel_rfl) (fun _ _ _ h => h) (Or.inl ⟨by rfl, ?y105⟩) hHeld ?r105
        case y105 =>
          intro w9 hSw
          (try dsimp only at hSw)
          go_simp
          try with_reducible rfl
        try simp only [Act.put, List.setIfInBounds_toArray, List.set_cons_zero, List.set_cons_succ]
        refine hTake (i := 10) (v := ?v106) rfl (by kernel_rfl) (by kernel_rfl) (by kernel_rfl) (fun _ _ _ h => h) (Or.inl ⟨by rfl, ?y106⟩) hHeld ?r106
        case y106 =>
          intro w9 hSw
          (try dsimp only at hSw)
          go_simp
          try with_reducible rfl
        try simp only [Act.put, List.setIfInBounds_toArray, List.set_cons_zero, List.set_cons_succ]
        refine wpAnyH_done (by kernel_rfl) ?_ _
        clear hHeld
        go_wp2_with fail
        refine wp_region_held_drew (S := (fun u => u.cell? ⟨w.heap.size, 0, none⟩ = some (.bool n) ∧ u.cell? ⟨w.heap.size, 1, none⟩ = some (.slice a1 xs.length c1) ∧ u.cell? ⟨w.heap.size, 2, none⟩ = some (.slice a2 ys.length c2))) (by kernel_rfl) ?_ (fun hHeld => ?_)
        · (try dsimp only)
          go_keep
        have hdr : Below u102.heap.size u102 u102.drew := Below.drew1
        generalize u102.drew = ud107 at hdr hHeld ⊢
        replace hP := hP.below hdr
        replace hX := hX.below hdr
        replace B1 := B1.below hdr
        replace hbW : Below w.heap.size w ud107 := hbW.trans (hdr.mono hbW.size)
        clear hdr
        clear p00 p01 p02
        obtain ⟨p00, p01, p02, _⟩ := B1.cells
        refine hTake (i := 0) (v := ?v108) rfl (by kernel_rfl) (by kernel_rfl) (by kernel_rfl) (fun _ _ _ h => h) (Or.inl ⟨by rfl, ?y108⟩) hHeld ?r108
        case y108 =>
          intro w9 hSw
          (try dsimp only at hSw)
          go_simp
          try with_reducible rfl
        try simp only [Act.put, List.setIfInBounds_toArray, List.set_cons_zero, List.set_cons_succ]
        refine hTake (i := 1) (v := ?v109) rfl (by kernel_rfl) (by kernel_rfl) (by kernel_rfl) (fun _ _ _ h => h) (Or.inl ⟨by rfl, ?y109⟩) hHeld ?r109
        case y109 =>
          intro w9 hSw
          (try dsimp only at hSw)
          go_simp
          try with_reducible rfl
        try simp only [Act.put, List.setIfInBounds_toArray, List.set_cons_zero, List.set_cons_succ]
        refine hTake (i := 2) (v := undef) rfl (by kernel_rfl) (by kernel_rfl) (by kernel_rfl) (fun _ _ _ h => h) (Or.inr ⟨by rfl, rfl⟩) hHeld ?_
        try simp only [Act.put, List.setIfInBounds_toArray, List.set_cons_zero, List.set_cons_succ]
        refine hTake (i := 3) (v := undef) rfl (by kernel_rfl) (by kernel_rfl) (by kernel_rfl) (fun _ _ _ h => h) (Or.inr ⟨by rfl, rfl⟩) hHeld ?_
        try simp only [Act.put, List.setIfInBounds_toArray, List.set_cons_zero, List.set_cons_succ]
        refine hTake (i := 4) (v := undef) rfl (by kernel_rfl) (by kernel_rfl) (by kernel_rfl) (fun _ _ _ h => h) (Or.inr ⟨by rfl, rfl⟩) hHeld ?_
        try simp only [Act.put, List.setIfInBounds_toArray, List.set_cons_zero, List.set_cons_succ]
        refine hTake (i := 5) (v := undef) rfl (by kernel_rfl) (by kernel_rfl) (by kernel_rfl) (fun _ _ _ h => h) (Or.inr ⟨by rfl, rfl⟩) hHeld ?_
        try simp only [Act.put, List.setIfInBounds_toArray, List.set_cons_zero, List.set_cons_succ]
        refine hTake (i := 6) (v := undef) rfl (by kernel_rfl) (by kernel_rfl) (by kernel_rfl) (fun _ _ _ h => h) (Or.inr ⟨by rfl, rfl⟩) hHeld ?_
        try simp only [Act.put, List.setIfInBounds_toArray, List.set_cons_zero, List.set_cons_succ]
        refine hTake (i := 7) (v := ?v110) rfl (by kernel_rfl) (by kernel_rfl) (by kernel_rfl) (fun _ _ _ h => h) (Or.inl ⟨by rfl, ?y110⟩) hHeld ?r110
        case y110 =>
          intro w9 hSw
          (try dsimp only at hSw)
          go_simp
          try with_reducible rfl
        try simp only [Act.put, List.setIfInBounds_toArray, List.set_cons_zero, List.set_cons_succ]
        refine wpAnyH_done (by kernel_rfl) ?_ _
        clear hHeld
        go_wp2_with fail
        refine wp_region_held_drew (S := (fun u => u.cell? ⟨w.heap.size, 0, none⟩ = some (.bool n) ∧ u.cell? ⟨w.heap.size, 1, none⟩ = some (.slice a1 xs.length c1) ∧ u.cell? ⟨w.heap.size, 2, none⟩ = some (.slice a2 ys.length c2))) (by kernel_rfl) ?_ (fun hHeld => ?_)
        · (try dsimp only)
          go_keep
        have hdr : Below ud107.heap.size ud107 ud107.drew := Below.drew1
        generalize ud107.drew = ud111 at hdr hHeld ⊢
        replace hP := hP.below hdr
        replace hX := hX.below hdr
        replace B1 := B1.below hdr
        replace hbW : Below w.heap.size w ud111 := hbW.trans (hdr.mono hbW.size)
        clear hdr
        clear p00 p01 p02
        obtain ⟨p00, p01, p02, _⟩ := B1.cells
        refine hTake (i := 0) (v := ?v112) rfl (by kernel_rfl) (by kernel_rfl) (by kernel_rfl) (fun _ _ _ h => h) (Or.inl ⟨by rfl, ?y112⟩) hHeld ?r112
        case y112 =>
          intro w9 hSw
          (try dsimp only at hSw)
          go_simp
          try with_reducible rfl
        try simp only [Act.put, List.setIfInBounds_toArray, List.set_cons_zero, List.set_cons_succ]
        refine hTake (i := 1) (v := ?v113) rfl (by kernel_rfl) (by kernel_rfl) (by kernel_rfl) (fun _ _ _ h => h) (Or.inl ⟨by rfl, ?y113⟩) hHeld ?r113
        case y113 =>
          intro w9 hSw
          (try dsimp only at hSw)
          go_simp
          try with_reducible rfl
        try simp only [Act.put, List.setIfInBounds_toArray, List.set_cons_zero, List.set_cons_succ]
        refine hTake (i := 2) (v := ?v114) rfl (by kernel_rfl) (by kernel_rfl) (by kernel_rfl) (fun _ _ _ h => h) (Or.inl ⟨by rfl, ?y114⟩) hHeld ?r114
        case y114 =>
          intro w9 hSw
          (try dsimp only at hSw)
          go_simp
          try with_reducible rfl
        try simp only [Act.put, List.setIfInBounds_toArray, List.set_cons_zero, List.set_cons_succ]
        refine hTake (i := 3) (v := undef) rfl (by kernel_rfl) (by kernel_rfl) (by kernel_rfl) (fun _ _ _ h => h) (Or.inr ⟨by rfl, rfl⟩) hHeld ?_
        try simp only [Act.put, List.setIfInBounds_toArray, List.set_cons_zero, List.set_cons_succ]
        refine hTake (i := 4) (v := undef) rfl (by kernel_rfl) (by kernel_rfl) (by kernel_rfl) (fun _ _ _ h => h) (Or.inr ⟨by rfl, rfl⟩) hHeld ?_
        try simp only [Act.put, List.setIfInBounds_toArray, List.set_cons_zero, List.set_cons_succ]
        refine hTake (i := 5) (v := undef) rfl (by kernel_rfl) (by kernel_rfl) (by kernel_rfl) (fun _ _ _ h => h) (Or.inr ⟨by rfl, rfl⟩) hHeld ?_
        try simp only [Act.put, List.setIfInBounds_toArray, List.set_cons_zero, List.set_cons_succ]
        refine hTake (i := 6) (v := ?v115) rfl (by kernel_rfl) (by kernel_rfl) (by kernel_rfl) (fun _ _ _ h => h) (Or.inl ⟨by rfl, ?y115⟩) hHeld ?r115
        case y115 =>
          intro w9 hSw
          (try dsimp only at hSw)
          go_simp
          try with_reducible rfl
        try simp only [Act.put, List.setIfInBounds_toArray, List.set_cons_zero, List.set_cons_succ]
        refine hTake (i := 7) (v := ?v116) rfl (by kernel_rfl) (by kernel_rfl) (by kernel_rfl) (fun _ _ _ h => h) (Or.inl ⟨by rfl, ?y116⟩) hHeld ?r116
        case y116 =>
          intro w9 hSw
          (try dsimp only at hSw)
          go_simp
          try with_reducible rfl
        try simp only [Act.put, List.setIfInBounds_toArray, List.set_cons_zero, List.set_cons_succ]
        refine hTake (i := 8) (v := undef) rfl (by kernel_rfl) (by kernel_rfl) (by kernel_rfl) (fun _ _ _ h => h) (Or.inr ⟨by rfl, rfl⟩) hHeld ?_
        try simp only [Act.put, List.setIfInBounds_toArray, List.set_cons_zero, List.set_cons_succ]
        refine hTake (i := 9) (v := undef) rfl (by kernel_rfl) (by kernel_rfl) (by kernel_rfl) (fun _ _ _ h => h) (Or.inr ⟨by rfl, rfl⟩) hHeld ?_
        try simp only [Act.put, List.setIfInBounds_toArray, List.set_cons_zero, List.set_cons_succ]
        refine hTake (i := 10) (v := undef) rfl (by kernel_rfl) (by kernel_rfl) (by kernel_rfl) (fun _ _ _ h => h) (Or.inr ⟨by rfl, rfl⟩) hHeld ?_
        try simp only [Act.put, List.setIfInBounds_toArray, List.set_cons_zero, List.set_cons_succ]
        refine hTake (i := 11) (v := undef) rfl (by kernel_rfl) (by kernel_rfl) (by kernel_rfl) (fun _ _ _ h => h) (Or.inr ⟨by rfl, rfl⟩) hHeld ?_
        try simp only [Act.put, List.setIfInBounds_toArray, List.set_cons_zero, List.set_cons_succ]
        refine hTake (i := 12) (v := undef) rfl (by kernel_rfl) (by kernel_rfl) (by kernel_rfl) (fun _ _ _ h => h) (Or.inr ⟨by rfl, rfl⟩) hHeld ?_
        try simp only [Act.put, List.setIfInBounds_toArray, List.set_cons_zero, List.set_cons_succ]
        refine hTake (i := 13) (v := undef) rfl (by kernel_rfl) (by kernel_rfl) (by kernel_rfl) (fun _ _ _ h => h) (Or.inr ⟨by rfl, rfl⟩) hHeld ?_
        try simp only [Act.put, List.setIfInBounds_toArray, List.set_cons_zero, List.set_cons_succ]
        refine hTake (i := 14) (v := ?v117) rfl (by kernel_rfl) (by kernel_rfl) (by kernel_rfl) (fun _ _ _ h => h) (Or.inl ⟨by rfl, ?y117⟩) hHeld ?r117
        case y117 =>
          intro w9 hSw
          (try dsimp only at hSw)
          go_simp
          try with_reducible rfl
        try simp only [Act.put, List.setIfInBounds_toArray, List.set_cons_zero, List.set_cons_succ]
        refine hTake (i := 15) (v := ?v118) rfl (by kernel_rfl) (by kernel_rfl) (by kernel_rfl) (fun _ _ _ h => h) (Or.inl ⟨by rfl, ?y118⟩) hHeld ?r118
        case y118 =>
          intro w9 hSw
          (try dsimp only at hSw)
          go_simp
          try with_reducible rfl
        try simp only [Act.put, List.setIfInBounds_toArray, List.set_cons_zero, List.set_cons_succ]
        refine wpAnyH_done (by kernel_rfl) ?_ _
        go_wp2
        go_ret
        exact ⟨rfl, hbW⟩
      have gd1 : decide (s1 ≤ 0) = true := decide_eq_true h1
      by_cases h2 : 0 ≤ s2
      rotate_left
      · have gd2 : decide (0 ≤ s2) = false := decide_eq_false h2
        go_wp2_with fail
        refine wp_region_held_drew (S := (fun u => u.cell? ⟨w.heap.size, 0, none⟩ = some (.bool n) ∧ u.cell? ⟨w.heap.size, 1, none⟩ = some (.slice a1 xs.length c1) ∧ u.cell? ⟨w.heap.size, 2, none⟩ = some (.slice a2 ys.length c2))) (by kernel_rfl) ?_ (fun hHeld => ?_)
        · (try dsimp only)
          go_keep
        have hdr : Below wr.heap.size wr wr.drew := Below.drew1
        generalize wr.drew = ud119 at hdr hHeld ⊢
        replace hP := hP.below hdr
        replace hX := hX.below hdr
        replace B1 := B1.below hdr
        replace hbW : Below w.heap.size w ud119 := hbW.trans (hdr.mono hbW.size)
        clear hdr
        clear p00 p01 p02
        obtain ⟨p00, p01, p02, _⟩ := B1.cells
        refine hTake (i := 0) (v := ?v120) rfl (by kernel_rfl) (by kernel_rfl) (by kernel_rfl) (fun _ _ _ h => h) (Or.inl ⟨by rfl, ?y120⟩) hHeld ?r120
        case y120 =>
          intro w9 hSw
          (try dsimp only at hSw)
          go_simp
          try with_reducible rfl
        try simp only [Act.put, List.setIfInBounds_toArray, List.set_cons_zero, List.set_cons_succ]
        refine hCall (i := 1) rfl (by kernel_rfl) (by rfl) (fun K hK => ?_)
        go_simp
        refine (whole_any 1 _ (by decide) (by decide)).mono ?_
        rintro e u101 ⟨vo, rfl, hFo, hb101⟩
        replace hP := hP.below hb101
        replace hX := hX.below hb101
        replace B1 := B1.below hb101
        replace hbW : Below w.heap.size w u101 := hbW.trans (hb101.mono hbW.size)
        clear hb101
        clear p00 p01 p02
        obtain ⟨p00, p01, p02, _⟩ := B1.cells
        go_wp2_with fail
        refine hK.out _ _ ?_ (fun hHeld => ?_)
        · (try dsimp only)
          exact ⟨p00, p01, p02⟩
        clear hK K
        try simp only [Act.put, List.setIfInBounds_toArray, List.set_cons_zero, List.set_cons_succ]
        refine hCall (i := 2) rfl (by kernel_rfl) (by rfl) (fun K hK => ?_)
        go_simp
        refine (qcmp_any 6 2 _ _ _ _ _ hX hFo.ct (by decide) (by decide) (by decide) (by decide)).mono ?_
        rintro e u102 ⟨rfl, hb102⟩
        replace hP := hP.below hb102
        replace hX := hX.below hb102
        replace hFo := hFo.below hb102
        replace B1 := B1.below hb102
        replace hbW : Below w.heap.size w u102 := hbW.trans (hb102.mono hbW.size)
        clear hb102 hFo
        rw [HS.out.1]
        clear p00 p01 p02
        obtain ⟨p00, p01, p02, _⟩ := B1.cells
        go_wp2_with fail
        refine hK.out _ _ ?_ (fun hHeld => ?_)
        · (try dsimp only)
          exact ⟨p00, p01, p02⟩
        clear hK K
        try simp only [Act.put, List.setIfInBounds_toArray, List.set_cons_zero, List.set_cons_succ]
        refine hTake (i := 3) (v := ?v121) rfl (by kernel_rfl) (by kernel_rfl) (by kernel_rfl) (fun _ _ _ h => h) (Or.inl ⟨by rfl, ?y121⟩) hHeld ?r121
        case y121 =>
          intro w9 hSw
          (try dsimp only at hSw)
          go_simp
          try with_reducible rfl
        try simp only [Act.put, List.setIfInBounds_toArray, List.set_cons_zero, List.set_cons_succ]
        refine hTake (i := 4) (v := ?v122) rfl (by kernel_rfl) (by kernel_rfl) (by kernel_rfl) (fun _ _ _ h => h) (Or.inl ⟨by rfl, ?y122⟩) hHeld ?r122
        case y122 =>
          intro w9 hSw
          (try dsimp only at hSw)
          go_simp
          try with_reducible rfl
        try simp only [Act.put, List.setIfInBounds_toArray, List.set_cons_zero, List.set_cons_succ]
        refine hTake (i := 5) (v := ?v123) rfl (by kernel_rfl) (by kernel_rfl) (by kernel_rfl) (fun _ _ _ h => h) (Or.inl ⟨by rfl, ?y123⟩) hHeld ?r123
        case y123 =>
          intro w9 hSw
          (try dsimp only at hSw)
          go_simp
          try with_reducible rfl
        try simp only [Act.put, List.setIfInBounds_toArray, List.set_cons_zero, List.set_cons_succ]
        refine hCall (i := 6) rfl (by kernel_rfl) (by rfl) (fun K hK => ?_)
        go_simp
        refine (whole_any (-1) _ (by decide) (by decide)).mono ?_
        rintro e u103 ⟨vm, rfl, hFm, hb103⟩
        replace hP := hP.below hb103
        replace hX := hX.below hb103
        replace B1 := B1.below hb103
        replace hbW : Below w.heap.size w u103 := hbW.trans (hb103.mono hbW.size)
        clear hb103
        clear p00 p01 p02
        obtain ⟨p00, p01, p02, _⟩ := B1.cells
        go_wp2_with fail
        refine hK.out _ _ ?_ (fun hHeld => ?_)
        · (try dsimp only)
          exact ⟨p00, p01, p02⟩
        clear hK K
        try simp only [Act.put, List.setIfInBounds_toArray, List.set_cons_zero, List.set_cons_succ]
        refine hCall (i := 7) rfl (by kernel_rfl) (by rfl) (fun K hK => ?_)
        go_simp
        refine (qcmp_any 6 2 _ _ _ _ _ hX hFm.ct (by decide) (by decide) (by decide) (by decide)).mono ?_
        rintro e u104 ⟨rfl, hb104⟩
        replace hP := hP.below hb104
        replace hX := hX.below hb104
        replace hFm := hFm.below hb104
        replace B1 := B1.below hb104
        replace hbW : Below w.heap.size w u104 := hbW.trans (hb104.mono hbW.size)
        clear hb104 hFm
        rw [HS.out.2]
        clear p00 p01 p02
        obtain ⟨p00, p01, p02, _⟩ := B1.cells
        go_wp2_with fail
        refine hK.out _ _ ?_ (fun hHeld => ?_)
        · (try dsimp only)
          exact ⟨p00, p01, p02⟩
        clear hK K
        try simp only [Act.put, List.setIfInBounds_toArray, List.set_cons_zero, List.set_cons_succ]
        refine hTake (i := 8) (v := ?v124) rfl (by kernel_rfl) (by kernel_rfl) (by kernel_rfl) (fun _ _ _ h => h) (Or.inl ⟨by rfl, ?y124⟩) hHeld ?r124
        case y124 =>
          intro w9 hSw
          (try dsimp only at hSw)
          go_simp
          try with_reducible rfl
        try simp only [Act.put, List.setIfInBounds_toArray, List.set_cons_zero, List.set_cons_succ]
        refine hTake (i := 9) (v := ?v125) rfl (by kernel_rfl) (by kernel_rfl) (by kernel_rfl) (fun _ _ _ h => h) (Or.inl ⟨by rfl, ?y125⟩) hHeld ?r125
        case y125 =>
          intro w9 hSw
          (try dsimp only at hSw)
          go_simp
          try with_reducible rfl
        try simp only [Act.put, List.setIfInBounds_toArray, List.set_cons_zero, List.set_cons_succ]
        refine hTake (i := 10) (v := ?v126) rfl (by kernel_rfl) (by kernel_rfl) (by kernel_rfl) (fun _ _ _ h => h) (Or.inl ⟨by rfl, ?y126⟩) hHeld ?r126
        case y126 =>
          intro w9 hSw
          (try dsimp only at hSw)
          go_simp
          try with_reducible rfl
        try simp only [Act.put, List.setIfInBounds_toArray, List.set_cons_zero, List.set_cons_succ]
        refine wpAnyH_done (by kernel_rfl) ?_ _
        clear hHeld
        go_wp2_with fail
        refine wp_region_held_drew (S := (fun u => u.cell? ⟨w.heap.size, 0, none⟩ = some (.bool n) ∧ u.cell? ⟨w.heap.size, 1, none⟩ = some (.slice a1 xs.length c1) ∧ u.cell? ⟨w.heap.size, 2, none⟩ = some (.slice a2 ys.length c2))) (by kernel_rfl) ?_ (fun hHeld => ?_)
        · (try dsimp only)
          go_keep
        have hdr : Below u104.heap.size u104 u104.drew := Below.drew1
        generalize u104.drew = ud127 at hdr hHeld ⊢
        replace hP := hP.below hdr
        replace hX := hX.below hdr
        replace B1 := B1.below hdr
        replace hbW : Below w.heap.size w ud127 := hbW.trans (hdr.mono hbW.size)
        clear hdr
        clear p00 p01 p02
        obtain ⟨p00, p01, p02, _⟩ := B1.cells
        refine hTake (i := 0) (v := ?v128) rfl (by kernel_rfl) (by kernel_rfl) (by kernel_rfl) (fun _ _ _ h => h) (Or.inl ⟨by rfl, ?y128⟩) hHeld ?r128
        case y128 =>
          intro w9 hSw
          (try dsimp only at hSw)
          go_simp
          try with_reducible rfl
        try simp only [Act.put, List.setIfInBounds_toArray, List.set_cons_zero, List.set_cons_succ]
        refine hTake (i := 1) (v := ?v129) rfl (by kernel_rfl) (by kernel_rfl) (by kernel_rfl) (fun _ _ _ h => h) (Or.inl ⟨by rfl, ?y129⟩) hHeld ?r129
        case y129 =>
          intro w9 hSw
          (try dsimp only at hSw)
          go_simp
          try with_reducible rfl
        try simp only [Act.put, List.setIfInBounds_toArray, List.set_cons_zero, List.set_cons_succ]
        refine hTake (i := 2) (v := undef) rfl (by kernel_rfl) (by kernel_rfl) (by kernel_rfl) (fun _ _ _ h => h) (Or.inr ⟨by rfl, rfl⟩) hHeld ?_
        try simp only [Act.put, List.setIfInBounds_toArray, List.set_cons_zero, List.set_cons_succ]
        refine hTake (i := 3) (v := undef) rfl (by kernel_rfl) (by kernel_rfl) (by kernel_rfl) (fun _ _ _ h => h) (Or.inr ⟨by rfl, rfl⟩) hHeld ?_
        try simp only [Act.put, List.setIfInBounds_toArray, List.set_cons_zero, List.set_cons_succ]
        refine hTake (i := 4) (v := undef) rfl (by kernel_rfl) (by kernel_rfl) (by kernel_rfl) (fun _ _ _ h => h) (Or.inr ⟨by rfl, rfl⟩) hHeld ?_
        try simp only [Act.put, List.setIfInBounds_toArray, List.set_cons_zero, List.set_cons_succ]
        refine hTake (i := 5) (v := undef) rfl (by kernel_rfl) (by kernel_rfl) (by kernel_rfl) (fun _ _ _ h => h) (Or.inr ⟨by rfl, rfl⟩) hHeld ?_
        try simp only [Act.put, List.setIfInBounds_toArray, List.set_cons_zero, List.set_cons_succ]
        refine hTake (i := 6) (v := undef) rfl (by kernel_rfl) (by kernel_rfl) (by kernel_rfl) (fun _ _ _ h => h) (Or.inr ⟨by rfl, rfl⟩) hHeld ?_
        try simp only [Act.put, List.setIfInBounds_toArray, List.set_cons_zero, List.set_cons_succ]
        refine hTake (i := 7) (v := ?v130) rfl (by kernel_rfl) (by kernel_rfl) (by kernel_rfl) (fun _ _ _ h => h) (Or.inl ⟨by rfl, ?y130⟩) hHeld ?r130
        case y130 =>
          intro w9 hSw
          (try dsimp only at hSw)
          go_simp
          try with_reducible rfl
        try simp only [Act.put, List.setIfInBounds_toArray, List.set_cons_zero, List.set_cons_succ]
        refine wpAnyH_done (by kernel_rfl) ?_ _
        clear hHeld
        go_wp2_with fail
        refine wp_region_held_drew (S := (fun u => u.cell? ⟨w.heap.size, 0, none⟩ = some (.bool n) ∧ u.cell? ⟨w.heap.size, 1, none⟩ = some (.slice a1 xs.length c1) ∧ u.cell? ⟨w.heap.size, 2, none⟩ = some (.slice a2 ys.length c2))) (by kernel_rfl) ?_ (fun hHeld => ?_)
        · (try dsimp only)
          go_keep
        have hdr : Below ud127.heap.size ud127 ud127.drew := Below.drew1
        generalize ud127.drew = ud131 at hdr hHeld ⊢
        replace hP := hP.below hdr
        replace hX := hX.below hdr
        replace B1 := B1.below hdr
        replace hbW : Below w.heap.size w ud131 := hbW.trans (hdr.mono hbW.size)
        clear hdr
        clear p00 p01 p02
        obtain ⟨p00, p01, p02, _⟩ := B1.cells
        refine hTake (i := 0) (v := ?v132) rfl (by kernel_rfl) (by kernel_rfl) (by kernel_rfl) (fun _ _ _ h => h) (Or.inl ⟨by rfl, ?y132⟩) hHeld ?r132
        case y132 =>
          intro w9 hSw
          (try dsimp only at hSw)
          go_simp
          try with_reducible rfl
        try simp only [Act.put, List.setIfInBounds_toArray, List.set_cons_zero, List.set_cons_succ]
        refine hTake (i := 1) (v := ?v133) rfl (by kernel_rfl) (by kernel_rfl) (by kernel_rfl) (fun _ _ _ h => h) (Or.inl ⟨by rfl, ?y133⟩) hHeld ?r133
        case y133 =>
          intro w9 hSw
          (try dsimp only at hSw)
          go_simp
          try with_reducible rfl
        try simp only [Act.put, List.setIfInBounds_toArray, List.set_cons_zero, List.set_cons_succ]
        refine hTake (i := 2) (v := ?v134) rfl (by kernel_rfl) (by kernel_rfl) (by kernel_rfl) (fun _ _ _ h => h) (Or.inl ⟨by rfl, ?y134⟩) hHeld ?r134
        case y134 =>
          intro w9 hSw
          (try dsimp only at hSw)
          go_simp
          try with_reducible rfl
        try simp only [Act.put, List.setIfInBounds_toArray, List.set_cons_zero, List.set_cons_succ]
        refine hTake (i := 3) (v := undef) rfl (by kernel_rfl) (by kernel_rfl) (by kernel_rfl) (fun _ _ _ h => h) (Or.inr ⟨by rfl, rfl⟩) hHeld ?_
        try simp only [Act.put, List.setIfInBounds_toArray, List.set_cons_zero, List.set_cons_succ]
        refine hTake (i := 4) (v := undef) rfl (by kernel_rfl) (by kernel_rfl) (by kernel_rfl) (fun _ _ _ h => h) (Or.inr ⟨by rfl, rfl⟩) hHeld ?_
        try simp only [Act.put, List.setIfInBounds_toArray, List.set_cons_zero, List.set_cons_succ]
        refine hTake (i := 5) (v := undef) rfl (by kernel_rfl) (by kernel_rfl) (by kernel_rfl) (fun _ _ _ h => h) (Or.inr ⟨by rfl, rfl⟩) hHeld ?_
        try simp only [Act.put, List.setIfInBounds_toArray, List.set_cons_zero, List.set_cons_succ]
        refine hTake (i := 6) (v := ?v135) rfl (by kernel_rfl) (by kernel_rfl) (by kernel_rfl) (fun _ _ _ h => h) (Or.inl ⟨by rfl, ?y135⟩) hHeld ?r135
        case y135 =>
          intro w9 hSw
          (try dsimp only at hSw)
          go_simp
          try with_reducible rfl
        try simp only [Act.put, List.setIfInBounds_toArray, List.set_cons_zero, List.set_cons_succ]
        refine hTake (i := 7) (v := ?v136) rfl (by kernel_rfl) (by kernel_rfl) (by kernel_rfl) (fun _ _ _ h => h) (Or.inl ⟨by rfl, ?y136⟩) hHeld ?r136
        case y136 =>
          intro w9 hSw
          (try dsimp only at hSw)
          go_simp
          try with_reducible rfl
        try simp only [Act.put, List.setIfInBounds_toArray, List.set_cons_zero, List.set_cons_succ]
        refine hTake (i := 8) (v := undef) rfl (by kernel_rfl) (by kernel_rfl) (by kernel_rfl) (fun _ _ _ h => h) (Or.inr ⟨by rfl, rfl⟩) hHeld ?_
        try simp only [Act.put, List.setIfInBounds_toArray, List.set_cons_zero, List.set_cons_succ]
        refine hTake (i := 9) (v := undef) rfl (by kernel_rfl) (by kernel_rfl) (by kernel_rfl) (fun _ _ _ h => h) (Or.inr ⟨by rfl, rfl⟩) hHeld ?_
        try simp only [Act.put, List.setIfInBounds_toArray, List.set_cons_zero, List.set_cons_succ]
        refine hTake (i := 10) (v := undef) rfl (by kernel_rfl) (by kernel_rfl) (by kernel_rfl) (fun _ _ _ h => h) (Or.inr ⟨by rfl, rfl⟩) hHeld ?_
        try simp only [Act.put, List.setIfInBounds_toArray, List.set_cons_zero, List.set_cons_succ]
        refine hTake (i := 11) (v := undef) rfl (by kernel_rfl) (by kernel_rfl) (by kernel_rfl) (fun _ _ _ h => h) (Or.inr ⟨by rfl, rfl⟩) hHeld ?_
        try simp only [Act.put, List.setIfInBounds_toArray, List.set_cons_zero, List.set_cons_succ]
        refine hTake (i := 12) (v := undef) rfl (by kernel_rfl) (by kernel_rfl) (by kernel_rfl) (fun _ _ _ h => h) (Or.inr ⟨by rfl, rfl⟩) hHeld ?_
        try simp only [Act.put, List.setIfInBounds_toArray, List.set_cons_zero, List.set_cons_succ]
        refine hTake (i := 13) (v := undef) rfl (by kernel_rfl) (by kernel_rfl) (by kernel_rfl) (fun _ _ _ h => h) (Or.inr ⟨by rfl, rfl⟩) hHeld ?_
        try simp only [Act.put, List.setIfInBounds_toArray, List.set_cons_zero, List.set_cons_succ]
        refine hTake (i := 14) (v := ?v137) rfl (by kernel_rfl) (by kernel_rfl) (by kernel_rfl) (fun _ _ _ h => h) (Or.inl ⟨by rfl, ?y137⟩) hHeld ?r137
        case y137 =>
          intro w9 hSw
          (try dsimp only at hSw)
          go_simp
          try with_reducible rfl
        try simp only [Act.put, List.setIfInBounds_toArray, List.set_cons_zero, List.set_cons_succ]
        refine hTake (i := 15) (v := ?v138) rfl (by kernel_rfl) (by kernel_rfl) (by kernel_rfl) (fun _ _ _ h => h) (Or.inl ⟨by rfl, ?y138⟩) hHeld ?r138
        case y138 =>
          intro w9 hSw
          (try dsimp only at hSw)
          go_simp
          try with_reducible rfl
        try simp only [Act.put, List.setIfInBounds_toArray, List.set_cons_zero, List.set_cons_succ]
        refine wpAnyH_done (by kernel_rfl) ?_ _
        go_wp2
        go_ret
        exact ⟨rfl, hbW⟩
      have gd2 : decide (0 ≤ s2) = true := decide_eq_true h2
      have r1 : qx ≤ ((1 : Int) : Rat) := Rat.not_lt.1 (fun hh => by have := sgn_pos.2 hh; rw [HS.out.1] at this; omega)
      have r2 : ((-1 : Int) : Rat) ≤ qx := Rat.not_lt.1 (fun hh => by have := sgn_neg.2 hh; rw [HS.out.2] at this; omega)
      have HN : Hid (beQ [] qx = qx) := beQ_nil r2 r1
      have HPL : Hid (plB l = true → beQ l qx = qx) := fun hh => beQ_plain hh r2 r1
      clear r1 r2
      go_wp2_with fail
      refine wp_region_held_drew (S := (fun u => u.cell? ⟨w.heap.size, 0, none⟩ = some (.bool n) ∧ u.cell? ⟨w.heap.size, 1, none⟩ = some (.slice a1 xs.length c1) ∧ u.cell? ⟨w.heap.size, 2, none⟩ = some (.slice a2 ys.length c2))) (by kernel_rfl) ?_ (fun hHeld => ?_)
      · (try dsimp only)
        go_keep
      have hdr : Below wr.heap.size wr wr.drew := Below.drew1
      generalize wr.drew = ud139 at hdr hHeld ⊢
      replace hP := hP.below hdr
      replace hX := hX.below hdr
      replace B1 := B1.below hdr
      replace hbW : Below w.heap.size w ud139 := hbW.trans (hdr.mono hbW.size)
      clear hdr
      clear p00 p01 p02
      obtain ⟨p00, p01, p02, _⟩ := B1.cells
      refine hTake (i := 0) (v := ?v140) rfl (by kernel_rfl) (by kernel_rfl) (by kernel_rfl) (fun _ _ _ h => h) (Or.inl ⟨by rfl, ?y140⟩) hHeld ?r140
      case y140 =>
        intro w9 hSw
        (try dsimp only at hSw)
        go_simp
        try with_reducible rfl
      try simp only [Act.put, List.setIfInBounds_toArray, List.set_cons_zero, List.set_cons_succ]
      refine hCall (i := 1) rfl (by kernel_rfl) (by rfl) (fun K hK => ?_)
      go_simp
      refine (whole_any 1 _ (by decide) (by decide)).mono ?_
      rintro e u101 ⟨vo, rfl, hFo, hb101⟩
      replace hP := hP.below hb101
      replace hX := hX.below hb101
      replace B1 := B1.below hb101
      replace hbW : Below w.heap.size w u101 := hbW.trans (hb101.mono hbW.size)
      clear hb101
      clear p00 p01 p02
      obtain ⟨p00, p01, p02, _⟩ := B1.cells
      go_wp2_with fail
      refine hK.out _ _ ?_ (fun hHeld => ?_)
      · (try dsimp only)
        exact ⟨p00, p01, p02⟩
      clear hK K
      try simp only [Act.put, List.setIfInBounds_toArray, List.set_cons_zero, List.set_cons_succ]
      refine hCall (i := 2) rfl (by kernel_rfl) (by rfl) (fun K hK => ?_)
      go_simp
      refine (qcmp_any 6 2 _ _ _ _ _ hX hFo.ct (by decide) (by decide) (by decide) (by decide)).mono ?_
      rintro e u102 ⟨rfl, hb102⟩
      replace hP := hP.below hb102
      replace hX := hX.below hb102
      replace hFo := hFo.below hb102
      replace B1 := B1.below hb102
      replace hbW : Below w.heap.size w u102 := hbW.trans (hb102.mono hbW.size)
      clear hb102 hFo
      rw [HS.out.1]
      clear p00 p01 p02
      obtain ⟨p00, p01, p02, _⟩ := B1.cells
      go_wp2_with fail
      refine hK.out _ _ ?_ (fun hHeld => ?_)
      · (try dsimp only)
        exact ⟨p00, p01, p02⟩
      clear hK K
      try simp only [Act.put, List.setIfInBounds_toArray, List.set_cons_zero, List.set_cons_succ]
      refine hTake (i := 3) (v := ?v141) rfl (by kernel_rfl) (by kernel_rfl) (by kernel_rfl) (fun _ _ _ h => h) (Or.inl ⟨by rfl, ?y141⟩) hHeld ?r141
      case y141 =>
        intro w9 hSw
        (try dsimp only at hSw)
        go_simp
        try with_reducible rfl
      try simp only [Act.put, List.setIfInBounds_toArray, List.set_cons_zero, List.set_cons_succ]
      refine hTake (i := 4) (v := ?v142) rfl (by kernel_rfl) (by kernel_rfl) (by kernel_rfl) (fun _ _ _ h => h) (Or.inl ⟨by rfl, ?y142⟩) hHeld ?r142
      case y142 =>
        intro w9 hSw
        (try dsimp only at hSw)
        go_simp
        try with_reducible rfl
      try simp only [Act.put, List.setIfInBounds_toArray, List.set_cons_zero, List.set_cons_succ]
      refine hTake (i := 5) (v := ?v143) rfl (by kernel_rfl) (by kernel_rfl) (by kernel_rfl) (fun _ _ _ h => h) (Or.inl ⟨by rfl, ?y143⟩) hHeld ?r143
      case y143 =>
        intro w9 hSw
        (try dsimp only at hSw)
        go_simp
        try with_reducible rfl
      try simp only [Act.put, List.setIfInBounds_toArray, List.set_cons_zero, List.set_cons_succ]
      refine hCall (i := 6) rfl (by kernel_rfl) (by rfl) (fun K hK => ?_)
      go_simp
      refine (whole_any (-1) _ (by decide) (by decide)).mono ?_
      rintro e u103 ⟨vm, rfl, hFm, hb103⟩
      replace hP := hP.below hb103
      replace hX := hX.below hb103
      replace B1 := B1.below hb103
      replace hbW : Below w.heap.size w u103 := hbW.trans (hb103.mono hbW.size)
      clear hb103
      clear p00 p01 p02
      obtain ⟨p00, p01, p02, _⟩ := B1.cells
      go_wp2_with fail
      refine hK.out _ _ ?_ (fun hHeld => ?_)
      · (try dsimp only)
        exact ⟨p00, p01, p02⟩
      clear hK K
      try simp only [Act.put, List.setIfInBounds_toArray, List.set_cons_zero, List.set_cons_succ]
      refine hCall (i := 7) rfl (by kernel_rfl) (by rfl) (fun K hK => ?_)
      go_simp
      refine (qcmp_any 6 2 _ _ _ _ _ hX hFm.ct (by decide) (by decide) (by decide) (by decide)).mono ?_
      rintro e u104 ⟨rfl, hb104⟩
      replace hP := hP.below hb104
      replace hX := hX.below hb104
      replace hFm := hFm.below hb104
      replace B1 := B1.below hb104
      replace hbW : Below w.heap.size w u104 := hbW.trans (hb104.mono hbW.size)
      clear hb104 hFm
      rw [HS.out.2]
      clear p00 p01 p02
      obtain ⟨p00, p01, p02, _⟩ := B1.cells
      go_wp2_with fail
      refine hK.out _ _ ?_ (fun hHeld => ?_)
      · (try dsimp only)
        exact ⟨p00, p01, p02⟩
      clear hK K
      try simp only [Act.put, List.setIfInBounds_toArray, List.set_cons_zero, List.set_cons_succ]
      refine hTake (i := 8) (v := ?v144) rfl (by kernel_rfl) (by kernel_rfl) (by kernel_rfl) (fun _ _ _ h => h) (Or.inl ⟨by rfl, ?y144⟩) hHeld ?r144
      case y144 =>
        intro w9 hSw
        (try dsimp only at hSw)
        go_simp
        try with_reducible rfl
      try simp only [Act.put, List.setIfInBounds_toArray, List.set_cons_zero, List.set_cons_succ]
      refine hTake (i := 9) (v := ?v145) rfl (by kernel_rfl) (by kernel_rfl) (by kernel_rfl) (fun _ _ _ h => h) (Or.inl ⟨by rfl, ?y145⟩) hHeld ?r145
      case y145 =>
        intro w9 hSw
        (try dsimp only at hSw)
        go_simp
        try with_reducible rfl
      try simp only [Act.put, List.setIfInBounds_toArray, List.set_cons_zero, List.set_cons_succ]
      refine hTake (i := 10) (v := ?v146) rfl (by kernel_rfl) (by kernel_rfl) (by kernel_rfl) (fun _ _ _ h => h) (Or.inl ⟨by rfl, ?y146⟩) hHeld ?r146
      case y146 =>
        intro w9 hSw
        (try dsimp only at hSw)
        go_simp
        try with_reducible rfl
      try simp only [Act.put, List.setIfInBounds_toArray, List.set_cons_zero, List.set_cons_succ]
      refine wpAnyH_done (by kernel_rfl) ?_ _
      clear hHeld
      have hbn := fun v V hv => cbend_any 6 qx v none 0 [] V (Pz.nil _ _ _ (Nat.zero_le _)) hv (by decide) (by decide)
      rw [show ([] : List Pr).length = 0 from rfl] at hbn
      go_wp2_with fail
      refine wp_region_held_drew (S := (fun u => u.cell? ⟨w.heap.size, 0, none⟩ = some (.bool n) ∧ u.cell? ⟨w.heap.size, 1, none⟩ = some (.slice a1 xs.length c1) ∧ u.cell? ⟨w.heap.size, 2, none⟩ = some (.slice a2 ys.length c2))) (by kernel_rfl) ?_ (fun hHeld => ?_)
      · (try dsimp only)
        go_keep
      have hdr : Below u104.heap.size u104 u104.drew := Below.drew1
      generalize u104.drew = ud147 at hdr hHeld ⊢
      replace hP := hP.below hdr
      replace hX := hX.below hdr
      replace B1 := B1.below hdr
      replace hbW : Below w.heap.size w ud147 := hbW.trans (hdr.mono hbW.size)
      clear hdr
      clear p00 p01 p02
      obtain ⟨p00, p01, p02, _⟩ := B1.cells
      refine hTake (i := 0) (v := ?v148) rfl (by kernel_rfl) (by kernel_rfl) (by kernel_rfl) (fun _ _ _ h => h) (Or.inl ⟨by rfl, ?y148⟩) hHeld ?r148
      case y148 =>
        intro w9 hSw
        (try dsimp only at hSw)
        go_simp
        try with_reducible rfl
      try simp only [Act.put, List.setIfInBounds_toArray, List.set_cons_zero, List.set_cons_succ]
      refine hTake (i := 1) (v := ?v149) rfl (by kernel_rfl) (by kernel_rfl) (by kernel_rfl) (fun _ _ _ h => h) (Or.inl ⟨by rfl, ?y149⟩) hHeld ?r149
      case y149 =>
        intro w9 hSw
        (try dsimp only at hSw)
        go_simp
        try with_reducible rfl
      try simp only [Act.put, List.setIfInBounds_toArray, List.set_cons_zero, List.set_cons_succ]
      refine hTake (i := 2) (v := ?v150) rfl (by kernel_rfl) (by kernel_rfl) (by kernel_rfl) (fun _ _ _ h => h) (Or.inl ⟨by rfl, ?y150⟩) hHeld ?r150
      case y150 =>
        intro w9 hSw
        (try dsimp only at hSw)
        go_simp
        try with_reducible rfl
      try simp only [Act.put, List.setIfInBounds_toArray, List.set_cons_zero, List.set_cons_succ]
      refine hTake (i := 4) (v := ?v151) rfl (by kernel_rfl) (by kernel_rfl) (by kernel_rfl) (fun _ _ _ h => h) (Or.inl ⟨by rfl, ?y151⟩) hHeld ?r151
      case y151 =>
        intro w9 hSw
        (try dsimp only at hSw)
        go_simp
        try with_reducible rfl
      try simp only [Act.put, List.setIfInBounds_toArray, List.set_cons_zero, List.set_cons_succ]
      refine hCall (i := 3) rfl (by kernel_rfl) (by rfl) (fun K hK => ?_)
      go_simp
      refine (hbn _ _ hX).mono ?_
      rintro e u105 ⟨v1, rfl, hF1, hb105⟩
      replace hP := hP.below hb105
      replace hX := hX.below hb105
      replace B1 := B1.below hb105
      replace hbW : Below w.heap.size w u105 := hbW.trans (hb105.mono hbW.size)
      clear hb105
      clear p00 p01 p02
      obtain ⟨p00, p01, p02, _⟩ := B1.cells
      go_wp2_with fail
      refine hK.out _ _ ?_ (fun hHeld => ?_)
      · (try dsimp only)
        exact ⟨p00, p01, p02⟩
      clear hK K
      try simp only [Act.put, List.setIfInBounds_toArray, List.set_cons_zero, List.set_cons_succ]
      refine hCall (i := 5) rfl (by kernel_rfl) (by rfl) (fun K hK => ?_)
      go_simp
      refine (qcmp_any 14 6 _ _ _ _ _ hF1.ct hX (by decide) (by decide) (by decide) (by decide)).mono ?_
      rintro e u106 ⟨rfl, hb106⟩
      replace hP := hP.below hb106
      replace hX := hX.below hb106
      replace hF1 := hF1.below hb106
      replace B1 := B1.below hb106
      replace hbW : Below w.heap.size w u106 := hbW.trans (hb106.mono hbW.size)
      clear hb106 hF1
      rw [sgn_eq0.2 HN.out]
      clear p00 p01 p02
      obtain ⟨p00, p01, p02, _⟩ := B1.cells
      go_wp2_with fail
      refine hK.out _ _ ?_ (fun hHeld => ?_)
      · (try dsimp only)
        exact ⟨p00, p01, p02⟩
      clear hK K
      try simp only [Act.put, List.setIfInBounds_toArray, List.set_cons_zero, List.set_cons_succ]
      refine hTake (i := 6) (v := ?v152) rfl (by kernel_rfl) (by kernel_rfl) (by kernel_rfl) (fun _ _ _ h => h) (Or.inl ⟨by rfl, ?y152⟩) hHeld ?r152
      case y152 =>
        intro w9 hSw
        (try dsimp only at hSw)
        go_simp
        try with_reducible rfl
      try simp only [Act.put, List.setIfInBounds_toArray, List.set_cons_zero, List.set_cons_succ]
      refine hTake (i := 7) (v := ?v153) rfl (by kernel_rfl) (by kernel_rfl) (by kernel_rfl) (fun _ _ _ h => h) (Or.inl ⟨by rfl, ?y153⟩) hHeld ?r153
      case y153 =>
        intro w9 hSw
        (try dsimp only at hSw)
        go_simp
        try with_reducible rfl
      try simp only [Act.put, List.setIfInBounds_toArray, List.set_cons_zero, List.set_cons_succ]
      refine wpAnyH_done (by kernel_rfl) ?_ _
      clear hHeld hbn
      have hpl := fun V hV => cplainP_any a cap l V hV
      cases hpp : plB l with
      | false =>
        rw [hpp] at hpl
        go_wp2_with fail
        refine wp_region_held_drew (S := (fun u => u.cell? ⟨w.heap.size, 0, none⟩ = some (.bool n) ∧ u.cell? ⟨w.heap.size, 1, none⟩ = some (.slice a1 xs.length c1) ∧ u.cell? ⟨w.heap.size, 2, none⟩ = some (.slice a2 ys.length c2))) (by kernel_rfl) ?_ (fun hHeld => ?_)
        · (try dsimp only)
          go_keep
        have hdr : Below u106.heap.size u106 u106.drew := Below.drew1
        generalize u106.drew = ud154 at hdr hHeld ⊢
        replace hP := hP.below hdr
        replace hX := hX.below hdr
        replace B1 := B1.below hdr
        replace hbW : Below w.heap.size w ud154 := hbW.trans (hdr.mono hbW.size)
        clear hdr
        clear p00 p01 p02
        obtain ⟨p00, p01, p02, _⟩ := B1.cells
        refine hTake (i := 0) (v := ?v155) rfl (by kernel_rfl) (by kernel_rfl) (by kernel_rfl) (fun _ _ _ h => h) (Or.inl ⟨by rfl, ?y155⟩) hHeld ?r155
        case y155 =>
          intro w9 hSw
          (try dsimp only at hSw)
          go_simp
          try with_reducible rfl
        try simp only [Act.put, List.setIfInBounds_toArray, List.set_cons_zero, List.set_cons_succ]
        refine hTake (i := 1) (v := ?v156) rfl (by kernel_rfl) (by kernel_rfl) (by kernel_rfl) (fun _ _ _ h => h) (Or.inl ⟨by rfl, ?y156⟩) hHeld ?r156
        case y156 =>
          intro w9 hSw
          (try dsimp only at hSw)
          go_simp
          try with_reducible rfl
        try simp only [Act.put, List.setIfInBounds_toArray, List.set_cons_zero, List.set_cons_succ]
        refine hTake (i := 2) (v := ?v157) rfl (by kernel_rfl) (by kernel_rfl) (by kernel_rfl) (fun _ _ _ h => h) (Or.inl ⟨by rfl, ?y157⟩) hHeld ?r157
        case y157 =>
          intro w9 hSw
          (try dsimp only at hSw)
          go_simp
          try with_reducible rfl
        try simp only [Act.put, List.setIfInBounds_toArray, List.set_cons_zero, List.set_cons_succ]
        refine hTake (i := 3) (v := ?v158) rfl (by kernel_rfl) (by kernel_rfl) (by kernel_rfl) (fun _ _ _ h => h) (Or.inl ⟨by rfl, ?y158⟩) hHeld ?r158
        case y158 =>
          intro w9 hSw
          (try dsimp only at hSw)
          go_simp
          try with_reducible rfl
        try simp only [Act.put, List.setIfInBounds_toArray, List.set_cons_zero, List.set_cons_succ]
        refine hCall (i := 4) rfl (by kernel_rfl) (by rfl) (fun K hK => ?_)
        go_simp
        refine (hpl _ hP).mono ?_
        rintro e u107 ⟨rfl, hb107⟩
        replace hP := hP.below hb107
        replace hX := hX.below hb107
        replace B1 := B1.below hb107
        replace hbW : Below w.heap.size w u107 := hbW.trans (hb107.mono hbW.size)
        clear hb107
        clear p00 p01 p02
        obtain ⟨p00, p01, p02, _⟩ := B1.cells
        go_wp2_with fail
        refine hK.out _ _ ?_ (fun hHeld => ?_)
        · (try dsimp only)
          exact ⟨p00, p01, p02⟩
        clear hK K
        try simp only [Act.put, List.setIfInBounds_toArray, List.set_cons_zero, List.set_cons_succ]
        refine hTake (i := 5) (v := ?v159) rfl (by kernel_rfl) (by kernel_rfl) (by kernel_rfl) (fun _ _ _ h => h) (Or.inl ⟨by rfl, ?y159⟩) hHeld ?r159
        case y159 =>
          intro w9 hSw
          (try dsimp only at hSw)
          go_simp
          try with_reducible rfl
        try simp only [Act.put, List.setIfInBounds_toArray, List.set_cons_zero, List.set_cons_succ]
        refine hTake (i := 6) (v := ?v160) rfl (by kernel_rfl) (by kernel_rfl) (by kernel_rfl) (fun _ _ _ h => h) (Or.inl ⟨by rfl, ?y160⟩) hHeld ?r160
        case y160 =>
          intro w9 hSw
          (try dsimp only at hSw)
          go_simp
          try with_reducible rfl
        try simp only [Act.put, List.setIfInBounds_toArray, List.set_cons_zero, List.set_cons_succ]
        refine hTake (i := 7) (v := ?v161) rfl (by kernel_rfl) (by kernel_rfl) (by kernel_rfl) (fun _ _ _ h => h) (Or.inl ⟨by rfl, ?y161⟩) hHeld ?r161
        case y161 =>
          intro w9 hSw
          (try dsimp only at hSw)
          go_simp
          try with_reducible rfl
        try simp only [Act.put, List.setIfInBounds_toArray, List.set_cons_zero, List.set_cons_succ]
        refine hTake (i := 8) (v := undef) rfl (by kernel_rfl) (by kernel_rfl) (by kernel_rfl) (fun _ _ _ h => h) (Or.inr ⟨by rfl, rfl⟩) hHeld ?_
        try simp only [Act.put, List.setIfInBounds_toArray, List.set_cons_zero, List.set_cons_succ]
        refine hTake (i := 9) (v := undef) rfl (by kernel_rfl) (by kernel_rfl) (by kernel_rfl) (fun _ _ _ h => h) (Or.inr ⟨by rfl, rfl⟩) hHeld ?_
        try simp only [Act.put, List.setIfInBounds_toArray, List.set_cons_zero, List.set_cons_succ]
        refine hTake (i := 10) (v := undef) rfl (by kernel_rfl) (by kernel_rfl) (by kernel_rfl) (fun _ _ _ h => h) (Or.inr ⟨by rfl, rfl⟩) hHeld ?_
        try simp only [Act.put, List.setIfInBounds_toArray, List.set_cons_zero, List.set_cons_succ]
        refine hTake (i := 11) (v := undef) rfl (by kernel_rfl) (by kernel_rfl) (by kernel_rfl) (fun _ _ _ h => h) (Or.inr ⟨by rfl, rfl⟩) hHeld ?_
        try simp only [Act.put, List.setIfInBounds_toArray, List.set_cons_zero, List.set_cons_succ]
        refine hTake (i := 12) (v := undef) rfl (by kernel_rfl) (by kernel_rfl) (by kernel_rfl) (fun _ _ _ h => h) (Or.inr ⟨by rfl, rfl⟩) hHeld ?_
        try simp only [Act.put, List.setIfInBounds_toArray, List.set_cons_zero, List.set_cons_succ]
        refine hTake (i := 13) (v := undef) rfl (by kernel_rfl) (by kernel_rfl) (by kernel_rfl) (fun _ _ _ h => h) (Or.inr ⟨by rfl, rfl⟩) hHeld ?_
        try simp only [Act.put, List.setIfInBounds_toArray, List.set_cons_zero, List.set_cons_succ]
        refine hTake (i := 14) (v := ?v162) rfl (by kernel_rfl) (by kernel_rfl) (by kernel_rfl) (fun _ _ _ h => h) (Or.inl ⟨by rfl, ?y162⟩) hHeld ?r162
        case y162 =>
          intro w9 hSw
          (try dsimp only at hSw)
          go_simp
          try with_reducible rfl
        try simp only [Act.put, List.setIfInBounds_toArray, List.set_cons_zero, List.set_cons_succ]
        refine hTake (i := 15) (v := ?v163) rfl (by kernel_rfl) (by kernel_rfl) (by kernel_rfl) (fun _ _ _ h => h) (Or.inl ⟨by rfl, ?y163⟩) hHeld ?r163
        case y163 =>
          intro w9 hSw
          (try dsimp only at hSw)
          go_simp
          try with_reducible rfl
        try simp only [Act.put, List.setIfInBounds_toArray, List.set_cons_zero, List.set_cons_succ]
        refine wpAnyH_done (by kernel_rfl) ?_ _
        go_wp2
        go_ret
        exact ⟨rfl, hbW⟩
      | true =>
        rw [hpp] at hpl
        go_wp2_with fail
        refine wp_region_held_drew (S := (fun u => u.cell? ⟨w.heap.size, 0, none⟩ = some (.bool n) ∧ u.cell? ⟨w.heap.size, 1, none⟩ = some (.slice a1 xs.length c1) ∧ u.cell? ⟨w.heap.size, 2, none⟩ = some (.slice a2 ys.length c2))) (by kernel_rfl) ?_ (fun hHeld => ?_)
        · (try dsimp only)
          go_keep
        have hdr : Below u106.heap.size u106 u106.drew := Below.drew1
        generalize u106.drew = ud164 at hdr hHeld ⊢
        replace hP := hP.below hdr
        replace hX := hX.below hdr
        replace B1 := B1.below hdr
        replace hbW : Below w.heap.size w ud164 := hbW.trans (hdr.mono hbW.size)
        clear hdr
        clear p00 p01 p02
        obtain ⟨p00, p01, p02, _⟩ := B1.cells
        refine hTake (i := 0) (v := ?v165) rfl (by kernel_rfl) (by kernel_rfl) (by kernel_rfl) (fun _ _ _ h => h) (Or.inl ⟨by rfl, ?y165⟩) hHeld ?r165
        case y165 =>
          intro w9 hSw
          (try dsimp only at hSw)
          go_simp
          try with_reducible rfl
        try simp only [Act.put, List.setIfInBounds_toArray, List.set_cons_zero, List.set_cons_succ]
        refine hTake (i := 1) (v := ?v166) rfl (by kernel_rfl) (by kernel_rfl) (by kernel_rfl) (fun _ _ _ h => h) (Or.inl ⟨by rfl, ?y166⟩) hHeld ?r166
        case y166 =>
          intro w9 hSw
          (try dsimp only at hSw)
          go_simp
          try with_reducible rfl
        try simp only [Act.put, List.setIfInBounds_toArray, List.set_cons_zero, List.set_cons_succ]
        refine hTake (i := 2) (v := ?v167) rfl (by kernel_rfl) (by kernel_rfl) (by kernel_rfl) (fun _ _ _ h => h) (Or.inl ⟨by rfl, ?y167⟩) hHeld ?r167
        case y167 =>
          intro w9 hSw
          (try dsimp only at hSw)
          go_simp
          try with_reducible rfl
        try simp only [Act.put, List.setIfInBounds_toArray, List.set_cons_zero, List.set_cons_succ]
        refine hTake (i := 3) (v := ?v168) rfl (by kernel_rfl) (by kernel_rfl) (by kernel_rfl) (fun _ _ _ h => h) (Or.inl ⟨by rfl, ?y168⟩) hHeld ?r168
        case y168 =>
          intro w9 hSw
          (try dsimp only at hSw)
          go_simp
          try with_reducible rfl
        try simp only [Act.put, List.setIfInBounds_toArray, List.set_cons_zero, List.set_cons_succ]
        refine hCall (i := 4) rfl (by kernel_rfl) (by rfl) (fun K hK => ?_)
        go_simp
        refine (hpl _ hP).mono ?_
        rintro e u107 ⟨rfl, hb107⟩
        replace hP := hP.below hb107
        replace hX := hX.below hb107
        replace B1 := B1.below hb107
        replace hbW : Below w.heap.size w u107 := hbW.trans (hb107.mono hbW.size)
        clear hb107
        clear p00 p01 p02
        obtain ⟨p00, p01, p02, _⟩ := B1.cells
        go_wp2_with fail
        refine hK.out _ _ ?_ (fun hHeld => ?_)
        · (try dsimp only)
          exact ⟨p00, p01, p02⟩
        clear hK K
        try simp only [Act.put, List.setIfInBounds_toArray, List.set_cons_zero, List.set_cons_succ]
        refine hTake (i := 5) (v := ?v169) rfl (by kernel_rfl) (by kernel_rfl) (by kernel_rfl) (fun _ _ _ h => h) (Or.inl ⟨by rfl, ?y169⟩) hHeld ?r169
        case y169 =>
          intro w9 hSw
          (try dsimp only at hSw)
          go_simp
          try with_reducible rfl
        try simp only [Act.put, List.setIfInBounds_toArray, List.set_cons_zero, List.set_cons_succ]
        refine hTake (i := 6) (v := ?v170) rfl (by kernel_rfl) (by kernel_rfl) (by kernel_rfl) (fun _ _ _ h => h) (Or.inl ⟨by rfl, ?y170⟩) hHeld ?r170
        case y170 =>
          intro w9 hSw
          (try dsimp only at hSw)
          go_simp
          try with_reducible rfl
        try simp only [Act.put, List.setIfInBounds_toArray, List.set_cons_zero, List.set_cons_succ]
        refine hTake (i := 7) (v := ?v171) rfl (by kernel_rfl) (by kernel_rfl) (by kernel_rfl) (fun _ _ _ h => h) (Or.inl ⟨by rfl, ?y171⟩) hHeld ?r171
        case y171 =>
          intro w9 hSw
          (try dsimp only at hSw)
          go_simp
          try with_reducible rfl
        try simp only [Act.put, List.setIfInBounds_toArray, List.set_cons_zero, List.set_cons_succ]
        refine hTake (i := 8) (v := ?v172) rfl (by kernel_rfl) (by kernel_rfl) (by kernel_rfl) (fun _ _ _ h => h) (Or.inl ⟨by rfl, ?y172⟩) hHeld ?r172
        case y172 =>
          intro w9 hSw
          (try dsimp only at hSw)
          go_simp
          try with_reducible rfl
        try simp only [Act.put, List.setIfInBounds_toArray, List.set_cons_zero, List.set_cons_succ]
        refine hTake (i := 9) (v := ?v173) rfl (by kernel_rfl) (by kernel_rfl) (by kernel_rfl) (fun _ _ _ h => h) (Or.inl ⟨by rfl, ?y173⟩) hHeld ?r173
        case y173 =>
          intro w9 hSw
          (try dsimp only at hSw)
          go_simp
          try with_reducible rfl
        try simp only [Act.put, List.setIfInBounds_toArray, List.set_cons_zero, List.set_cons_succ]
        refine hTake (i := 11) (v := ?v174) rfl (by kernel_rfl) (by kernel_rfl) (by kernel_rfl) (fun _ _ _ h => h) (Or.inl ⟨by rfl, ?y174⟩) hHeld ?r174
        case y174 =>
          intro w9 hSw
          (try dsimp only at hSw)
          go_simp
          try with_reducible rfl
        try simp only [Act.put, List.setIfInBounds_toArray, List.set_cons_zero, List.set_cons_succ]
        refine hCall (i := 10) rfl (by kernel_rfl) (by rfl) (fun K hK => ?_)
        go_simp
        refine (hbe 6 qx _ _ hP hX (by decide) (by decide)).mono ?_
        rintro e u108 ⟨v2, rfl, hF2, hb108⟩
        replace hP := hP.below hb108
        replace hX := hX.below hb108
        replace B1 := B1.below hb108
        replace hbW : Below w.heap.size w u108 := hbW.trans (hb108.mono hbW.size)
        clear hb108
        clear p00 p01 p02
        obtain ⟨p00, p01, p02, _⟩ := B1.cells
        go_wp2_with fail
        refine hK.out _ _ ?_ (fun hHeld => ?_)
        · (try dsimp only)
          exact ⟨p00, p01, p02⟩
        clear hK K
        try simp only [Act.put, List.setIfInBounds_toArray, List.set_cons_zero, List.set_cons_succ]
        refine hCall (i := 12) rfl (by kernel_rfl) (by rfl) (fun K hK => ?_)
        go_simp
        refine (qcmp_any 14 6 _ _ _ _ _ hF2.ct hX (by decide) (by decide) (by decide) (by decide)).mono ?_
        rintro e u109 ⟨rfl, hb109⟩
        replace hP := hP.below hb109
        replace hX := hX.below hb109
        replace hF2 := hF2.below hb109
        replace B1 := B1.below hb109
        replace hbW : Below w.heap.size w u109 := hbW.trans (hb109.mono hbW.size)
        clear hb109 hF2
        rw [sgn_eq0.2 (HPL.out hpp)]
        clear p00 p01 p02
        obtain ⟨p00, p01, p02, _⟩ := B1.cells
        go_wp2_with fail
        refine hK.out _ _ ?_ (fun hHeld => ?_)
        · (try dsimp only)
          exact ⟨p00, p01, p02⟩
        clear hK K
        try simp only [Act.put, List.setIfInBounds_toArray, List.set_cons_zero, List.set_cons_succ]
        refine hTake (i := 13) (v := ?v175) rfl (by kernel_rfl) (by kernel_rfl) (by kernel_rfl) (fun _ _ _ h => h) (Or.inl ⟨by rfl, ?y175⟩) hHeld ?r175
        case y175 =>
          intro w9 hSw
          (try dsimp only at hSw)
          go_simp
          try with_reducible rfl
        try simp only [Act.put, List.setIfInBounds_toArray, List.set_cons_zero, List.set_cons_succ]
        refine hTake (i := 14) (v := ?v176) rfl (by kernel_rfl) (by kernel_rfl) (by kernel_rfl) (fun _ _ _ h => h) (Or.inl ⟨by rfl, ?y176⟩) hHeld ?r176
        case y176 =>
          intro w9 hSw
          (try dsimp only at hSw)
          go_simp
          try with_reducible rfl
        try simp only [Act.put, List.setIfInBounds_toArray, List.set_cons_zero, List.set_cons_succ]
        refine hTake (i := 15) (v := ?v177) rfl (by kernel_rfl) (by kernel_rfl) (by kernel_rfl) (fun _ _ _ h => h) (Or.inl ⟨by rfl, ?y177⟩) hHeld ?r177
        case y177 =>
          intro w9 hSw
          (try dsimp only at hSw)
          go_simp
          try with_reducible rfl
        try simp only [Act.put, List.setIfInBounds_toArray, List.set_cons_zero, List.set_cons_succ]
        refine wpAnyH_done (by kernel_rfl) ?_ _
        go_wp2
        go_ret
        exact ⟨rfl, hbW⟩

end Go.Proofs.YtdholmnniccbcaaDoor
