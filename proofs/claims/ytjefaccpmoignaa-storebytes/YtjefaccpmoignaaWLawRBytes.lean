/-
  foundrylaw10.StoreBytes: the walk.
-/
import Derived.Test.YtjefaccpmoignaaZ15
import Derived.Test.YtjefaccpmoignaaZ21
import Derived.Test.YtjefaccpmoignaaZ23
import Derived.Test.YtjefaccpmoignaaZ24
import Derived.Test.YtjefaccpmoignaaZ26
import Derived.Deep.CutRange
namespace Go.Proofs.Ytjefaccpmoignaa
open Go.RowKit Go.Maps
set_option linter.unusedSimpArgs false
set_option linter.unusedVariables false

set_option maxHeartbeats 8000000 in
set_option maxRecDepth 100000 in
theorem storeBytes_any (a : Option Addr) (ca : Nat) (b : Option Addr) (cb : Nat) (s : Sr) (n : Int) (pa : Option Addr) (pc : Nat) (xs : List Nat) (w : World) (hg : Tzz w a ca s.rg) (hm : Rii w b cb s.rw) (hb : Rb w pa pc xs) (hn : I64 n) :
    Calls Try.prog 3 #[.agg #[.slice a s.rg.length ca, .slice b s.rw.length cb], .int .i64 n, .slice pa xs.length pc] w fun e w' => e = .returned (.bool true) ∧ Below w.heap.size w w' := by
  have k1 := hg.lenB
  have k2 := hm.lenB
  have k3 := hb.le
  have k4 := hb.cap
  unfold maxLen at k4
  have hcw := fun U h1 h2 => cwriteS_any a ca b cb s n U h1 h2 hn
  have hsw := fun U h1 h2 => swriteS_any a ca b cb s n U h1 h2 hn
  obtain ⟨W, hW, X1, hbW⟩ : ∃ W, W = w.alloc (.cells #[.slice a s.rg.length ca, .slice b s.rw.length cb] 25) ∧ BxS W w.heap.size (.slice a s.rg.length ca) (.slice b s.rw.length cb) ∧ Below w.heap.size w W := ⟨_, rfl, BxS.new _ _ _, bl1 _⟩
  replace hg := hg.below hbW
  replace hm := hm.below hbW
  replace hb := hb.below hbW
  go_enter Try.func3, Try.ntmps3
  go_wp2_with fail
  rw [← hW]
  clear hW
  refine (awake10_any _).mono ?_
  rintro e t1 ⟨rfl, hb1⟩
  replace hg := hg.below hb1
  replace hm := hm.below hb1
  replace hb := hb.below hb1
  replace X1 := X1.below hb1
  replace hbW : Below w.heap.size w t1 := hbW.trans (hb1.mono hbW.size)
  clear hb1
  obtain ⟨p00, p01, _⟩ := X1.cells
  go_wp2_with fail
  refine (few10_any a ca b cb s _ hg hm).mono ?_
  rintro e t2 ⟨q, rfl, hq, hb2⟩
  clear p00 p01
  replace hg := hg.below hb2
  replace hm := hm.below hb2
  replace hb := hb.below hb2
  replace X1 := X1.below hb2
  replace hbW : Below w.heap.size w t2 := hbW.trans (hb2.mono hbW.size)
  clear hb2
  obtain ⟨p00, p01, _⟩ := X1.cells
  cases q with
  | false =>
    clear hq
    go_wp2_with fail
    refine (awake10_any _).mono ?_
    rintro e v9 ⟨rfl, hb9⟩
    replace hbW := hbW.trans (hb9.mono hbW.size)
    clear hb9
    go_wp2
    go_ret
    exact ⟨rfl, hbW⟩
  | true =>
    clear hq
    by_cases h4 : 4000 < xs.length
    · have g1 : decide ((4000 : Int) < (xs.length : Int)) = true := decide_eq_true (by omega)
      go_wp2_with fail
      refine (awake10_any _).mono ?_
      rintro e v9 ⟨rfl, hb9⟩
      replace hbW := hbW.trans (hb9.mono hbW.size)
      clear hb9
      go_wp2
      go_ret
      exact ⟨rfl, hbW⟩
    have g1 : decide ((4000 : Int) < (xs.length : Int)) = false := decide_eq_false (by omega)
    have hcr := fun U h1 => creadS_any pa pc xs U h1 (by omega)
    have hsr := fun U h1 => sreadS_any pa pc xs U h1 (by omega)
    have hcf := fun U h1 h2 => cformS_any a ca b cb s n U h1 h2
    have hsf := fun U h1 h2 => sformS_any a ca b cb s n U h1 h2
    generalize wrSB s n = fb at *
    generalize wrSE s n = we at *
    generalize stB s n = sb at *
    generalize rdSL xs = t at *
    generalize rdSN xs = rn at *
    generalize rdSE xs = re at *
    have q1 : (we == we) = true := by simp
    have q2 : (re == re) = true := by simp
    have q3 : (rn == rn) = true := by simp
    have q4 : (sb == sb) = true := by simp
    clear h4
    go_wp2_with fail
    refine (hcw _ hg hm).mono ?_
    rintro e t3 ⟨p1, d1, rfl, hr1, hb3⟩
    clear p00 p01
    replace hg := hg.below hb3
    replace hm := hm.below hb3
    replace hb := hb.below hb3
    replace X1 := X1.below hb3
    replace hbW : Below w.heap.size w t3 := hbW.trans (hb3.mono hbW.size)
    clear hb3 g1
    obtain ⟨p00, p01, _⟩ := X1.cells
    go_wp2_with fail
    refine (hsw _ hg hm).mono ?_
    rintro e t4 ⟨p2, d2, rfl, hr2, hb4⟩
    clear p00 p01
    replace hg := hg.below hb4
    replace hm := hm.below hb4
    replace hb := hb.below hb4
    replace hr1 := hr1.below hb4
    replace X1 := X1.below hb4
    replace hbW : Below w.heap.size w t4 := hbW.trans (hb4.mono hbW.size)
    clear hb4
    obtain ⟨p00, p01, _⟩ := X1.cells
    go_wp2_with fail
    refine (hcr _ hb).mono ?_
    rintro e t5 ⟨a1, c1, b1, e1, rfl, hg1, hm1, hb5⟩
    clear p00 p01
    replace hg := hg.below hb5
    replace hm := hm.below hb5
    replace hb := hb.below hb5
    replace hr1 := hr1.below hb5
    replace hr2 := hr2.below hb5
    replace X1 := X1.below hb5
    replace hbW : Below w.heap.size w t5 := hbW.trans (hb5.mono hbW.size)
    clear hb5
    obtain ⟨p00, p01, _⟩ := X1.cells
    obtain ⟨QY1, hU, Y1, hb9⟩ : ∃ U, U = t5.alloc (.cells #[.slice a1 t.rg.length c1, .slice b1 t.rw.length e1] 25) ∧ BxS U t5.heap.size (.slice a1 t.rg.length c1) (.slice b1 t.rw.length e1) ∧ Below t5.heap.size t5 U := ⟨_, rfl, BxS.new _ _ _, bl1 _⟩
    clear p00 p01
    replace hg := hg.below hb9
    replace hm := hm.below hb9
    replace hb := hb.below hb9
    replace hr1 := hr1.below hb9
    replace hr2 := hr2.below hb9
    replace hg1 := hg1.below hb9
    replace hm1 := hm1.below hb9
    replace X1 := X1.below hb9
    replace hbW : Below w.heap.size w QY1 := hbW.trans (hb9.mono hbW.size)
    clear hb9
    go_upto_region 6 with fail
    rw [← hU]
    clear hU
    generalize t5.heap.size = gt at Y1 ⊢
    obtain ⟨p00, p01, _⟩ := X1.cells
    obtain ⟨p10, p11, _⟩ := Y1.cells
    go_wp2_with fail
    refine (hsr _ hb).mono ?_
    rintro e t6 ⟨a2, c2, b2, e2, rfl, hg2, hm2, hb6⟩
    clear p00 p01 p10 p11
    replace hg := hg.below hb6
    replace hm := hm.below hb6
    replace hb := hb.below hb6
    replace hr1 := hr1.below hb6
    replace hr2 := hr2.below hb6
    replace hg1 := hg1.below hb6
    replace hm1 := hm1.below hb6
    replace X1 := X1.below hb6
    replace Y1 := Y1.below hb6
    replace hbW : Below w.heap.size w t6 := hbW.trans (hb6.mono hbW.size)
    clear hb6
    obtain ⟨p00, p01, _⟩ := X1.cells
    obtain ⟨p10, p11, _⟩ := Y1.cells
    obtain ⟨QY2, hU, Y2, hb9⟩ : ∃ U, U = t6.alloc (.cells #[.slice a2 t.rg.length c2, .slice b2 t.rw.length e2] 25) ∧ BxS U t6.heap.size (.slice a2 t.rg.length c2) (.slice b2 t.rw.length e2) ∧ Below t6.heap.size t6 U := ⟨_, rfl, BxS.new _ _ _, bl1 _⟩
    clear p00 p01 p10 p11
    replace hg := hg.below hb9
    replace hm := hm.below hb9
    replace hb := hb.below hb9
    replace hr1 := hr1.below hb9
    replace hr2 := hr2.below hb9
    replace hg1 := hg1.below hb9
    replace hm1 := hm1.below hb9
    replace hg2 := hg2.below hb9
    replace hm2 := hm2.below hb9
    replace X1 := X1.below hb9
    replace Y1 := Y1.below hb9
    replace hbW : Below w.heap.size w QY2 := hbW.trans (hb9.mono hbW.size)
    clear hb9
    go_upto_region 7 with fail
    rw [← hU]
    clear hU
    generalize t6.heap.size = gu at Y2 ⊢
    obtain ⟨p00, p01, _⟩ := X1.cells
    obtain ⟨p10, p11, _⟩ := Y1.cells
    obtain ⟨p20, p21, _⟩ := Y2.cells
    clear hcw hsw hcr hsr
    refine wp_region_held_drew (S := (fun u => u.cell? ⟨w.heap.size, 0, none⟩ = some (.slice a s.rg.length ca) ∧ u.cell? ⟨w.heap.size, 1, none⟩ = some (.slice b s.rw.length cb) ∧ u.cell? ⟨gt, 0, none⟩ = some (.slice a1 t.rg.length c1) ∧ u.cell? ⟨gt, 1, none⟩ = some (.slice b1 t.rw.length e1) ∧ u.cell? ⟨gu, 0, none⟩ = some (.slice a2 t.rg.length c2) ∧ u.cell? ⟨gu, 1, none⟩ = some (.slice b2 t.rw.length e2))) (by kernel_rfl) ?_ (fun hHeld => ?_)
    · (try dsimp only)
      go_keep
    have hdr : Below QY2.heap.size QY2 QY2.drew := Below.drew1
    generalize QY2.drew = ud1 at hdr hHeld ⊢
    replace hg := hg.below hdr
    replace hm := hm.below hdr
    replace hb := hb.below hdr
    replace hr1 := hr1.below hdr
    replace hr2 := hr2.below hdr
    replace hg1 := hg1.below hdr
    replace hm1 := hm1.below hdr
    replace hg2 := hg2.below hdr
    replace hm2 := hm2.below hdr
    replace X1 := X1.below hdr
    replace Y1 := Y1.below hdr
    replace Y2 := Y2.below hdr
    replace hbW : Below w.heap.size w ud1 := hbW.trans (hdr.mono hbW.size)
    clear hdr
    clear p00 p01 p10 p11 p20 p21
    obtain ⟨p00, p01, _⟩ := X1.cells
    obtain ⟨p10, p11, _⟩ := Y1.cells
    obtain ⟨p20, p21, _⟩ := Y2.cells
    refine hT 0 hHeld ?_
    refine hT 1 hHeld ?_
    refine hT 2 hHeld ?_
    refine hT 3 hHeld ?_
    refine hT 4 hHeld ?_
    refine hT 5 hHeld ?_
    refine hCall (i := 6) rfl (by kernel_rfl) (by rfl) (fun K hK => ?_)
    go_simp
    refine (same8g_any p1 p2 d1 d2 fb fb _ hr1 hr2).mono ?_
    rintro e u7 ⟨rfl, hb7⟩
    replace hg := hg.below hb7
    replace hm := hm.below hb7
    replace hb := hb.below hb7
    replace hr1 := hr1.below hb7
    replace hr2 := hr2.below hb7
    replace hg1 := hg1.below hb7
    replace hm1 := hm1.below hb7
    replace hg2 := hg2.below hb7
    replace hm2 := hm2.below hb7
    replace X1 := X1.below hb7
    replace Y1 := Y1.below hb7
    replace Y2 := Y2.below hb7
    replace hbW : Below w.heap.size w u7 := hbW.trans (hb7.mono hbW.size)
    clear hb7
    rw [decide_eq_true rfl]
    clear p00 p01 p10 p11 p20 p21
    obtain ⟨p00, p01, _⟩ := X1.cells
    obtain ⟨p10, p11, _⟩ := Y1.cells
    obtain ⟨p20, p21, _⟩ := Y2.cells
    go_wp2_with fail
    refine hK.out _ _ ?_ (fun hHeld => ?_)
    · (try dsimp only)
      exact ⟨p00, p01, p10, p11, p20, p21⟩
    clear hK K
    try simp only [Act.put, List.setIfInBounds_toArray, List.set_cons_zero, List.set_cons_succ]
    refine hT 7 hHeld ?_
    refine hT 8 hHeld ?_
    refine hT 9 hHeld ?_
    refine hT 10 hHeld ?_
    refine hT 11 hHeld ?_
    refine hT 12 hHeld ?_
    refine hT 13 hHeld ?_
    refine hT 14 hHeld ?_
    refine hT 15 hHeld ?_
    refine hT 16 hHeld ?_
    refine hT 17 hHeld ?_
    refine hT 18 hHeld ?_
    refine hT 19 hHeld ?_
    refine hT 20 hHeld ?_
    refine hCall (i := 21) rfl (by kernel_rfl) (by rfl) (fun K hK => ?_)
    go_simp
    refine (ssameS_any a1 c1 b1 e1 a2 c2 b2 e2 t _ hg1 hm1 hg2 hm2).mono ?_
    rintro e u8 ⟨rfl, hb8⟩
    replace hg := hg.below hb8
    replace hm := hm.below hb8
    replace hb := hb.below hb8
    replace hr1 := hr1.below hb8
    replace hr2 := hr2.below hb8
    replace hg1 := hg1.below hb8
    replace hm1 := hm1.below hb8
    replace hg2 := hg2.below hb8
    replace hm2 := hm2.below hb8
    replace X1 := X1.below hb8
    replace Y1 := Y1.below hb8
    replace Y2 := Y2.below hb8
    replace hbW : Below w.heap.size w u8 := hbW.trans (hb8.mono hbW.size)
    clear hb8
    clear p00 p01 p10 p11 p20 p21
    obtain ⟨p00, p01, _⟩ := X1.cells
    obtain ⟨p10, p11, _⟩ := Y1.cells
    obtain ⟨p20, p21, _⟩ := Y2.cells
    go_wp2_with fail
    refine hK.out _ _ ?_ (fun hHeld => ?_)
    · (try dsimp only)
      exact ⟨p00, p01, p10, p11, p20, p21⟩
    clear hK K
    try simp only [Act.put, List.setIfInBounds_toArray, List.set_cons_zero, List.set_cons_succ]
    refine hT 22 hHeld ?_
    refine hT 23 hHeld ?_
    refine hT 24 hHeld ?_
    refine hT 25 hHeld ?_
    refine hT 27 hHeld ?_
    refine hT 28 hHeld ?_
    refine hCall (i := 26) rfl (by kernel_rfl) (by rfl) (fun K hK => ?_)
    go_simp
    refine (hcf _ hg hm).mono ?_
    rintro e u9 ⟨rfl, hb9⟩
    replace hg := hg.below hb9
    replace hm := hm.below hb9
    replace hb := hb.below hb9
    replace hr1 := hr1.below hb9
    replace hr2 := hr2.below hb9
    replace hg1 := hg1.below hb9
    replace hm1 := hm1.below hb9
    replace hg2 := hg2.below hb9
    replace hm2 := hm2.below hb9
    replace X1 := X1.below hb9
    replace Y1 := Y1.below hb9
    replace Y2 := Y2.below hb9
    replace hbW : Below w.heap.size w u9 := hbW.trans (hb9.mono hbW.size)
    clear hb9
    clear p00 p01 p10 p11 p20 p21
    obtain ⟨p00, p01, _⟩ := X1.cells
    obtain ⟨p10, p11, _⟩ := Y1.cells
    obtain ⟨p20, p21, _⟩ := Y2.cells
    go_wp2_with fail
    refine hK.out _ _ ?_ (fun hHeld => ?_)
    · (try dsimp only)
      exact ⟨p00, p01, p10, p11, p20, p21⟩
    clear hK K
    try simp only [Act.put, List.setIfInBounds_toArray, List.set_cons_zero, List.set_cons_succ]
    refine hCall (i := 29) rfl (by kernel_rfl) (by rfl) (fun K hK => ?_)
    go_simp
    refine (hsf _ hg hm).mono ?_
    rintro e u10 ⟨rfl, hb10⟩
    replace hg := hg.below hb10
    replace hm := hm.below hb10
    replace hb := hb.below hb10
    replace hr1 := hr1.below hb10
    replace hr2 := hr2.below hb10
    replace hg1 := hg1.below hb10
    replace hm1 := hm1.below hb10
    replace hg2 := hg2.below hb10
    replace hm2 := hm2.below hb10
    replace X1 := X1.below hb10
    replace Y1 := Y1.below hb10
    replace Y2 := Y2.below hb10
    replace hbW : Below w.heap.size w u10 := hbW.trans (hb10.mono hbW.size)
    clear hb10
    clear p00 p01 p10 p11 p20 p21
    obtain ⟨p00, p01, _⟩ := X1.cells
    obtain ⟨p10, p11, _⟩ := Y1.cells
    obtain ⟨p20, p21, _⟩ := Y2.cells
    go_wp2_with fail
    refine hK.out _ _ ?_ (fun hHeld => ?_)
    · (try dsimp only)
      exact ⟨p00, p01, p10, p11, p20, p21⟩
    clear hK K
    try simp only [Act.put, List.setIfInBounds_toArray, List.set_cons_zero, List.set_cons_succ]
    refine hT 30 hHeld ?_
    refine hT 31 hHeld ?_
    refine hT 32 hHeld ?_
    refine wpAnyH_done (by kernel_rfl) ?_ _
    clear hHeld
    go_wp2
    go_ret
    exact ⟨rt_bool (by first | rfl | simp), hbW⟩

end Go.Proofs.Ytjefaccpmoignaa
