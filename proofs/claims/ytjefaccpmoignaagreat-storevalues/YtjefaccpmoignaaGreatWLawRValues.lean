/-
  foundrylaw10.StoreValues: the walk.
-/
import Derived.Test.YtjefaccpmoignaaGreatZ15
import Derived.Test.YtjefaccpmoignaaGreatZ21
import Derived.Test.YtjefaccpmoignaaGreatZ11
import Derived.Deep.CutRange
namespace Go.Proofs.YtjefaccpmoignaaGreat
open Go.RowKit Go.Maps
set_option linter.unusedSimpArgs false
set_option linter.unusedVariables false

set_option maxHeartbeats 1000000 in
set_option maxRecDepth 100000 in
/-- foundrylaw10.plain: the same value. -/
theorem plain10_any (k : Nat) (q : Rat) (v : Value) (w : World) (h : Ct w v k q) :
    Calls Tryz.prog 11 #[v] w fun e w' => e = .returned v ∧ Below w.heap.size w w' := by
  obtain ⟨n, xs, ys, ⟨a, c, a', c', rfl, _, _⟩, _⟩ := h
  go_enter Tryz.func11, Tryz.ntmps11
  go_wp2
  exact bodyPost_ret (v := .agg #[.bool n, .slice a xs.length c, .slice a' ys.length c']) (by simp [results, Tryz.results11, go_sem]) rfl ⟨rfl, al2 _ _⟩

set_option maxHeartbeats 8000000 in
set_option maxRecDepth 100000 in
theorem storeValues_any (a : Option Addr) (ca : Nat) (b : Option Addr) (cb : Nat) (s : Sr) (x r : Int) (pa : Option Addr) (pc : Nat) (cs : List Int) (w : World) (hg : Tzz w a ca s.rg) (hm : Rii w b cb s.rw) (hp : Ri w pa pc cs) (hx : I64 x) (hr : I64 r) :
    Calls Tryz.prog 3 #[.agg #[.slice a s.rg.length ca, .slice b s.rw.length cb], .agg #[.int .i64 x, .int .i64 r], .slice pa cs.length pc] w fun e w' => e = .returned (.bool true) ∧ Below w.heap.size w w' := by
  have k1 := hg.lenB
  have k2 := hm.lenB
  have k3 := hp.lenB
  have hcf := fun U => cfits_any a ca b cb s x r U k2 hx hr
  have hsf := fun U => sfitsS_any a ca b cb s x r U k2 hx hr
  obtain ⟨W, hW, X1, X2, hbW⟩ : ∃ W, W = (w.alloc (.cells #[.slice a s.rg.length ca, .slice b s.rw.length cb] 25)).alloc (.cells #[.int .i64 x, .int .i64 r] 27) ∧ BxS W w.heap.size (.slice a s.rg.length ca) (.slice b s.rw.length cb) ∧ BxL W (w.heap.size + 1) (.int .i64 x) (.int .i64 r) ∧ Below w.heap.size w W := ⟨_, rfl, (BxS.new _ _ _).below (bl1 _), BxL.new1 _ _ _ _, bl2 _ _⟩
  replace hg := hg.below hbW
  replace hm := hm.below hbW
  replace hp := hp.below hbW
  go_enter Tryz.func3, Tryz.ntmps3
  go_wp2_with fail
  rw [← hW]
  clear hW
  refine (awake10_any _).mono ?_
  rintro e t1 ⟨rfl, hb1⟩
  replace hg := hg.below hb1
  replace hm := hm.below hb1
  replace hp := hp.below hb1
  replace X1 := X1.below hb1
  replace X2 := X2.below hb1
  replace hbW : Below w.heap.size w t1 := hbW.trans (hb1.mono hbW.size)
  clear hb1
  obtain ⟨p00, p01, _⟩ := X1.cells
  obtain ⟨p10, p11, _⟩ := X2.cells
  go_wp2_with fail
  refine (few10_any a ca b cb s _ hg hm).mono ?_
  rintro e t2 ⟨q, rfl, hq, hb2⟩
  clear p00 p01 p10 p11
  replace hg := hg.below hb2
  replace hm := hm.below hb2
  replace hp := hp.below hb2
  replace X1 := X1.below hb2
  replace X2 := X2.below hb2
  replace hbW : Below w.heap.size w t2 := hbW.trans (hb2.mono hbW.size)
  clear hb2
  obtain ⟨p00, p01, _⟩ := X1.cells
  obtain ⟨p10, p11, _⟩ := X2.cells
  cases q with
  | false =>
    clear hq
    go_wp2_with fail
    refine (awake10_any _).mono ?_
    rintro e v9 ⟨rfl, hb9⟩
    replace hbW := hbW.trans (hb9.mono hbW.size)
    clear hb9
    go_wp2
    go_ret
    exact ⟨rfl, hbW⟩
  | true =>
    obtain ⟨hq1, hq2⟩ := hq rfl
    clear hq
    by_cases h100 : 100 < cs.length
    · have g1 : decide ((100 : Int) < (cs.length : Int)) = true := decide_eq_true (by omega)
      go_wp2_with fail
      refine (awake10_any _).mono ?_
      rintro e v9 ⟨rfl, hb9⟩
      replace hbW := hbW.trans (hb9.mono hbW.size)
      clear hb9
      go_wp2
      go_ret
      exact ⟨rfl, hbW⟩
    have g1 : decide ((100 : Int) < (cs.length : Int)) = false := decide_eq_false (by omega)
    have hcr := fun U h1 h2 h3 => crounded_any a ca b cb s x r pa pc cs U h1 h2 h3 hx hr (by omega) hq2
    have hsr := fun U h1 h2 h3 => sroundedS_any a ca b cb s x r pa pc cs U h1 h2 h3 hx hr (by omega) hq2
    have hcc := fun U h1 h2 h3 => cchange_any a ca b cb s r pa pc cs U h1 h2 h3 (by omega) hq2
    have hsc := fun U h1 h2 h3 => schangeS_any a ca b cb s r pa pc cs U h1 h2 h3 (by omega) hq2
    have hcv := fun U h1 h2 h3 => cvalue_any a ca b cb s x r pa pc cs U h1 h2 h3 hx hr (by omega) hq2
    have hsv := fun U h1 h2 h3 => svalueS_any a ca b cb s x r pa pc cs U h1 h2 h3 hx hr (by omega) hq2
    generalize roN s x r cs = rn at *
    generalize roE s x r cs = re at *
    generalize chQ s r cs = qc at *
    generalize vaQ s x r cs = qv at *
    generalize fiS s x r = fb at *
    have q1 : (rn == rn) = true := by simp
    have q2 : (re == re) = true := by simp
    have q3 : (fb == fb) = true := by simp
    clear h100 hq1 hq2
    go_wp2_with fail
    refine (hcr _ hg hm hp).mono ?_
    rintro e t3 ⟨rfl, hb3⟩
    clear p00 p01 p10 p11
    replace hg := hg.below hb3
    replace hm := hm.below hb3
    replace hp := hp.below hb3
    replace X1 := X1.below hb3
    replace X2 := X2.below hb3
    replace hbW : Below w.heap.size w t3 := hbW.trans (hb3.mono hbW.size)
    clear hb3 g1
    obtain ⟨p00, p01, _⟩ := X1.cells
    obtain ⟨p10, p11, _⟩ := X2.cells
    go_wp2_with fail
    refine (hsr _ hg hm hp).mono ?_
    rintro e t4 ⟨rfl, hb4⟩
    clear p00 p01 p10 p11
    replace hg := hg.below hb4
    replace hm := hm.below hb4
    replace hp := hp.below hb4
    replace X1 := X1.below hb4
    replace X2 := X2.below hb4
    replace hbW : Below w.heap.size w t4 := hbW.trans (hb4.mono hbW.size)
    clear hb4
    obtain ⟨p00, p01, _⟩ := X1.cells
    obtain ⟨p10, p11, _⟩ := X2.cells
    clear hcr hsr
    go_upto_region 5 with fail
    refine wp_region_held_drew (S := (fun u => u.cell? ⟨w.heap.size, 0, none⟩ = some (.slice a s.rg.length ca) ∧ u.cell? ⟨w.heap.size, 1, none⟩ = some (.slice b s.rw.length cb) ∧ u.cell? ⟨w.heap.size + 1, 0, none⟩ = some (.int .i64 x) ∧ u.cell? ⟨w.heap.size + 1, 1, none⟩ = some (.int .i64 r))) (by kernel_rfl) ?_ (fun hHeld => ?_)
    · (try dsimp only)
      go_keep
    have hdr : Below t4.heap.size t4 t4.drew := Below.drew1
    generalize t4.drew = ud1 at hdr hHeld ⊢
    replace hg := hg.below hdr
    replace hm := hm.below hdr
    replace hp := hp.below hdr
    replace X1 := X1.below hdr
    replace X2 := X2.below hdr
    replace hbW : Below w.heap.size w ud1 := hbW.trans (hdr.mono hbW.size)
    clear hdr
    clear p00 p01 p10 p11
    obtain ⟨p00, p01, _⟩ := X1.cells
    obtain ⟨p10, p11, _⟩ := X2.cells
    refine hT 0 hHeld ?_
    refine hT 1 hHeld ?_
    refine hT 2 hHeld ?_
    refine hT 3 hHeld ?_
    refine hT 4 hHeld ?_
    refine hT 5 hHeld ?_
    refine hT 6 hHeld ?_
    refine hT 7 hHeld ?_
    refine hT 8 hHeld ?_
    refine hT 9 hHeld ?_
    refine hT 10 hHeld ?_
    refine hT 12 hHeld ?_
    refine hT 13 hHeld ?_
    refine hCall (i := 11) rfl (by kernel_rfl) (by rfl) (fun K hK => ?_)
    go_simp
    refine (hcf _).mono ?_
    rintro e u5 ⟨rfl, hb5⟩
    replace hg := hg.below hb5
    replace hm := hm.below hb5
    replace hp := hp.below hb5
    replace X1 := X1.below hb5
    replace X2 := X2.below hb5
    replace hbW : Below w.heap.size w u5 := hbW.trans (hb5.mono hbW.size)
    clear hb5
    clear p00 p01 p10 p11
    obtain ⟨p00, p01, _⟩ := X1.cells
    obtain ⟨p10, p11, _⟩ := X2.cells
    go_wp2_with fail
    refine hK.out _ _ ?_ (fun hHeld => ?_)
    · (try dsimp only)
      exact ⟨p00, p01, p10, p11⟩
    clear hK K
    try simp only [Act.put, List.setIfInBounds_toArray, List.set_cons_zero, List.set_cons_succ]
    refine hCall (i := 14) rfl (by kernel_rfl) (by rfl) (fun K hK => ?_)
    go_simp
    refine (hsf _).mono ?_
    rintro e u6 ⟨rfl, hb6⟩
    replace hg := hg.below hb6
    replace hm := hm.below hb6
    replace hp := hp.below hb6
    replace X1 := X1.below hb6
    replace X2 := X2.below hb6
    replace hbW : Below w.heap.size w u6 := hbW.trans (hb6.mono hbW.size)
    clear hb6
    clear p00 p01 p10 p11
    obtain ⟨p00, p01, _⟩ := X1.cells
    obtain ⟨p10, p11, _⟩ := X2.cells
    go_wp2_with fail
    refine hK.out _ _ ?_ (fun hHeld => ?_)
    · (try dsimp only)
      exact ⟨p00, p01, p10, p11⟩
    clear hK K
    try simp only [Act.put, List.setIfInBounds_toArray, List.set_cons_zero, List.set_cons_succ]
    refine hT 15 hHeld ?_
    refine hT 16 hHeld ?_
    refine hT 17 hHeld ?_
    refine hT 18 hHeld ?_
    refine hT 19 hHeld ?_
    refine hT 20 hHeld ?_
    refine hT 21 hHeld ?_
    refine hT 24 hHeld ?_
    refine hT 25 hHeld ?_
    refine hT 26 hHeld ?_
    refine hT 27 hHeld ?_
    refine hCall (i := 22) rfl (by kernel_rfl) (by rfl) (fun K hK => ?_)
    go_simp
    refine (hcc _ hg hm hp).mono ?_
    rintro e u7 ⟨v5, rfl, hF5, hb7⟩
    replace hg := hg.below hb7
    replace hm := hm.below hb7
    replace hp := hp.below hb7
    replace X1 := X1.below hb7
    replace X2 := X2.below hb7
    replace hbW : Below w.heap.size w u7 := hbW.trans (hb7.mono hbW.size)
    clear hb7
    clear p00 p01 p10 p11
    obtain ⟨p00, p01, _⟩ := X1.cells
    obtain ⟨p10, p11, _⟩ := X2.cells
    go_wp2_with fail
    refine hK.out _ _ ?_ (fun hHeld => ?_)
    · (try dsimp only)
      exact ⟨p00, p01, p10, p11⟩
    clear hK K
    try simp only [Act.put, List.setIfInBounds_toArray, List.set_cons_zero, List.set_cons_succ]
    refine hCall (i := 23) rfl (by kernel_rfl) (by rfl) (fun K hK => ?_)
    go_simp
    refine (plain10_any _ _ _ _ hF5.ct).mono ?_
    rintro e u8 ⟨rfl, hb8⟩
    replace hg := hg.below hb8
    replace hm := hm.below hb8
    replace hp := hp.below hb8
    replace hF5 := hF5.below hb8
    replace X1 := X1.below hb8
    replace X2 := X2.below hb8
    replace hbW : Below w.heap.size w u8 := hbW.trans (hb8.mono hbW.size)
    clear hb8
    clear p00 p01 p10 p11
    obtain ⟨p00, p01, _⟩ := X1.cells
    obtain ⟨p10, p11, _⟩ := X2.cells
    go_wp2_with fail
    refine hK.out _ _ ?_ (fun hHeld => ?_)
    · (try dsimp only)
      exact ⟨p00, p01, p10, p11⟩
    clear hK K
    try simp only [Act.put, List.setIfInBounds_toArray, List.set_cons_zero, List.set_cons_succ]
    refine hCall (i := 28) rfl (by kernel_rfl) (by rfl) (fun K hK => ?_)
    go_simp
    refine (hsc _ hg hm hp).mono ?_
    rintro e u9 ⟨v6, rfl, hF6, hb9⟩
    replace hg := hg.below hb9
    replace hm := hm.below hb9
    replace hp := hp.below hb9
    replace hF5 := hF5.below hb9
    replace X1 := X1.below hb9
    replace X2 := X2.below hb9
    replace hbW : Below w.heap.size w u9 := hbW.trans (hb9.mono hbW.size)
    clear hb9
    clear p00 p01 p10 p11
    obtain ⟨p00, p01, _⟩ := X1.cells
    obtain ⟨p10, p11, _⟩ := X2.cells
    go_wp2_with fail
    refine hK.out _ _ ?_ (fun hHeld => ?_)
    · (try dsimp only)
      exact ⟨p00, p01, p10, p11⟩
    clear hK K
    try simp only [Act.put, List.setIfInBounds_toArray, List.set_cons_zero, List.set_cons_succ]
    refine hCall (i := 29) rfl (by kernel_rfl) (by rfl) (fun K hK => ?_)
    go_simp
    refine (same3_any 1000 1000 qc qc _ _ _ hF5 hF6 rfl).mono ?_
    rintro e u10 ⟨rfl, hb10⟩
    replace hg := hg.below hb10
    replace hm := hm.below hb10
    replace hp := hp.below hb10
    replace hF5 := hF5.below hb10
    replace hF6 := hF6.below hb10
    replace X1 := X1.below hb10
    replace X2 := X2.below hb10
    replace hbW : Below w.heap.size w u10 := hbW.trans (hb10.mono hbW.size)
    clear hb10 hF5 hF6
    clear p00 p01 p10 p11
    obtain ⟨p00, p01, _⟩ := X1.cells
    obtain ⟨p10, p11, _⟩ := X2.cells
    go_wp2_with fail
    refine hK.out _ _ ?_ (fun hHeld => ?_)
    · (try dsimp only)
      exact ⟨p00, p01, p10, p11⟩
    clear hK K
    try simp only [Act.put, List.setIfInBounds_toArray, List.set_cons_zero, List.set_cons_succ]
    refine hT 30 hHeld ?_
    refine hT 31 hHeld ?_
    refine hT 32 hHeld ?_
    refine hT 33 hHeld ?_
    refine hT 34 hHeld ?_
    refine hT 37 hHeld ?_
    refine hT 38 hHeld ?_
    refine hT 39 hHeld ?_
    refine hCall (i := 35) rfl (by kernel_rfl) (by rfl) (fun K hK => ?_)
    go_simp
    refine (hcv _ hg hm hp).mono ?_
    rintro e u11 ⟨v7, rfl, hF7, hb11⟩
    replace hg := hg.below hb11
    replace hm := hm.below hb11
    replace hp := hp.below hb11
    replace X1 := X1.below hb11
    replace X2 := X2.below hb11
    replace hbW : Below w.heap.size w u11 := hbW.trans (hb11.mono hbW.size)
    clear hb11
    clear p00 p01 p10 p11
    obtain ⟨p00, p01, _⟩ := X1.cells
    obtain ⟨p10, p11, _⟩ := X2.cells
    go_wp2_with fail
    refine hK.out _ _ ?_ (fun hHeld => ?_)
    · (try dsimp only)
      exact ⟨p00, p01, p10, p11⟩
    clear hK K
    try simp only [Act.put, List.setIfInBounds_toArray, List.set_cons_zero, List.set_cons_succ]
    refine hCall (i := 36) rfl (by kernel_rfl) (by rfl) (fun K hK => ?_)
    go_simp
    refine (plain10_any _ _ _ _ hF7.ct).mono ?_
    rintro e u12 ⟨rfl, hb12⟩
    replace hg := hg.below hb12
    replace hm := hm.below hb12
    replace hp := hp.below hb12
    replace hF7 := hF7.below hb12
    replace X1 := X1.below hb12
    replace X2 := X2.below hb12
    replace hbW : Below w.heap.size w u12 := hbW.trans (hb12.mono hbW.size)
    clear hb12
    clear p00 p01 p10 p11
    obtain ⟨p00, p01, _⟩ := X1.cells
    obtain ⟨p10, p11, _⟩ := X2.cells
    go_wp2_with fail
    refine hK.out _ _ ?_ (fun hHeld => ?_)
    · (try dsimp only)
      exact ⟨p00, p01, p10, p11⟩
    clear hK K
    try simp only [Act.put, List.setIfInBounds_toArray, List.set_cons_zero, List.set_cons_succ]
    refine hCall (i := 40) rfl (by kernel_rfl) (by rfl) (fun K hK => ?_)
    go_simp
    refine (hsv _ hg hm hp).mono ?_
    rintro e u13 ⟨v8, rfl, hF8, hb13⟩
    replace hg := hg.below hb13
    replace hm := hm.below hb13
    replace hp := hp.below hb13
    replace hF7 := hF7.below hb13
    replace X1 := X1.below hb13
    replace X2 := X2.below hb13
    replace hbW : Below w.heap.size w u13 := hbW.trans (hb13.mono hbW.size)
    clear hb13
    clear p00 p01 p10 p11
    obtain ⟨p00, p01, _⟩ := X1.cells
    obtain ⟨p10, p11, _⟩ := X2.cells
    go_wp2_with fail
    refine hK.out _ _ ?_ (fun hHeld => ?_)
    · (try dsimp only)
      exact ⟨p00, p01, p10, p11⟩
    clear hK K
    try simp only [Act.put, List.setIfInBounds_toArray, List.set_cons_zero, List.set_cons_succ]
    refine hCall (i := 41) rfl (by kernel_rfl) (by rfl) (fun K hK => ?_)
    go_simp
    refine (same3_any 1003 1003 qv qv _ _ _ hF7 hF8 rfl).mono ?_
    rintro e u14 ⟨rfl, hb14⟩
    replace hg := hg.below hb14
    replace hm := hm.below hb14
    replace hp := hp.below hb14
    replace hF7 := hF7.below hb14
    replace hF8 := hF8.below hb14
    replace X1 := X1.below hb14
    replace X2 := X2.below hb14
    replace hbW : Below w.heap.size w u14 := hbW.trans (hb14.mono hbW.size)
    clear hb14
    clear p00 p01 p10 p11
    obtain ⟨p00, p01, _⟩ := X1.cells
    obtain ⟨p10, p11, _⟩ := X2.cells
    go_wp2_with fail
    refine hK.out _ _ ?_ (fun hHeld => ?_)
    · (try dsimp only)
      exact ⟨p00, p01, p10, p11⟩
    clear hK K
    try simp only [Act.put, List.setIfInBounds_toArray, List.set_cons_zero, List.set_cons_succ]
    refine hT 42 hHeld ?_
    refine hT 43 hHeld ?_
    refine wpAnyH_done (by kernel_rfl) ?_ _
    clear hHeld
    go_wp2
    go_ret
    exact ⟨rt_bool (by first | rfl | simp), hbW⟩

end Go.Proofs.YtjefaccpmoignaaGreat
