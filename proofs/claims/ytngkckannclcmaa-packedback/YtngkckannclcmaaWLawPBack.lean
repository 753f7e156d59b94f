/-
  foundrylaw11.PackedBack: the walk.
-/
import Derived.Test.YtngkckannclcmaaZ7
import Derived.Test.YtngkckannclcmaaZ11
namespace Go.Proofs.Ytngkckannclcmaa
open Go.RowKit Go.Maps
set_option linter.unusedSimpArgs false
set_option linter.unusedVariables false

set_option maxHeartbeats 8000000 in
set_option maxRecDepth 100000 in
theorem packedBack_any (C : CodP) (a : Option Addr) (ca : Nat) (l : List Int) (b : Option Addr) (cb : Nat) (m : List Int) (pa : Option Addr) (pc : Nat) (xs : List Nat) (w : World) (hl : Ri w a ca l) (hc : Ri w b cb m) (hb : Rb w pa pc xs) :
    Calls Try.prog 5 #[.slice a l.length ca, .slice b m.length cb, .slice pa xs.length pc] w fun e w' => e = .returned (.bool true) ∧ Below w.heap.size w w' := by
  have k1 := hl.lenB
  have k2 := hc.lenB
  have k3 := hb.le
  have k4 := hb.cap
  unfold maxLen at k4
  have hbW : Below w.heap.size w w := Below.refl _ _
  go_enter Try.func5, Try.ntmps5
  go_wp2_with fail
  refine (awake11_any C _).mono ?_
  rintro e t1 ⟨rfl, hb1⟩
  replace hl := hl.below hb1
  replace hc := hc.below hb1
  replace hb := hb.below hb1
  replace hbW : Below w.heap.size w t1 := hbW.trans (hb1.mono hbW.size)
  clear hb1 
  by_cases h1 : 2000 < l.length
  · have g1 : (2000 : Int) < (l.length : Int) := by omega
    go_wp2_with fail
    refine (awake11_any C _).mono ?_
    rintro e v9 ⟨rfl, hb9⟩
    replace hbW := hbW.trans (hb9.mono hbW.size)
    clear hb9
    go_wp2
    go_ret
    exact ⟨rfl, hbW⟩
  have gh1 : ¬ (2000 : Int) < (l.length : Int) := by omega
  by_cases h2 : 2000 < m.length
  · have g1 : (2000 : Int) < (m.length : Int) := by omega
    go_wp2_with fail
    refine (awake11_any C _).mono ?_
    rintro e v9 ⟨rfl, hb9⟩
    replace hbW := hbW.trans (hb9.mono hbW.size)
    clear hb9
    go_wp2
    go_ret
    exact ⟨rfl, hbW⟩
  have gh2 : ¬ (2000 : Int) < (m.length : Int) := by omega
  by_cases h3 : 1000 < xs.length
  · have g1 : (1000 : Int) < (xs.length : Int) := by omega
    go_wp2_with fail
    refine (awake11_any C _).mono ?_
    rintro e v9 ⟨rfl, hb9⟩
    replace hbW := hbW.trans (hb9.mono hbW.size)
    clear hb9
    go_wp2
    go_ret
    exact ⟨rfl, hbW⟩
  have gh3 : ¬ (1000 : Int) < (xs.length : Int) := by omega
  have hP := fun U h => C.pts a ca l U h (by omega)
  have hQ := fun U h => C.chs b cb m U h (by omega)
  cases hp : ptB l with
  | false =>
    have e1 : ppE l = 1 := by simp [ppE, hp]
    have e2 : ppB l = [] := by simp [ppB, hp]
    simp only [e1, e2, List.length_nil] at hP
    clear hp e1 e2
    go_wp2_with fail
    refine (hP _ hl).mono ?_
    rintro e t2 ⟨a1, c1, rfl, hr1, hb2⟩
    replace hl := hl.below hb2
    replace hc := hc.below hb2
    replace hb := hb.below hb2
    replace hbW : Below w.heap.size w t2 := hbW.trans (hb2.mono hbW.size)
    clear hb2 
    cases hm : chB m with
    | false =>
      have e1 : pcE m = 1 := by simp [pcE, hm]
      have e2 : pcB m = [] := by simp [pcB, hm]
      simp only [e1, e2, List.length_nil] at hQ
      clear hm e1 e2
      go_wp2_with fail
      refine (hQ _ hc).mono ?_
      rintro e t3 ⟨a3, c3, rfl, hr3, hb3⟩
      replace hl := hl.below hb3
      replace hc := hc.below hb3
      replace hb := hb.below hb3
      replace hbW : Below w.heap.size w t3 := hbW.trans (hb3.mono hbW.size)
      clear hb3 
      go_wp2
      go_ret
      exact ⟨rt_bool (by first | rfl | simp), hbW⟩
    | true =>
      have e1 : pcE m = 0 := by simp [pcE, hm]
      have e3 := rc_back hm xs
      have hml := pc_short hm
      obtain ⟨D, hD⟩ : ∃ D, pcB m = D := ⟨_, rfl⟩
      rw [hD] at e3 hml
      simp only [e1, hD] at hQ
      obtain ⟨Z, hZ⟩ : ∃ Z, D ++ xs = Z := ⟨_, rfl⟩
      rw [hZ] at e3
      have hZl : Z.length ≤ 10000 := by rw [← hZ, List.length_append]; omega
      have hR := fun p d U h => C.rchs p d Z (m.length : Int) U h hZl ⟨by omega, by omega⟩
      have r1 : rcL Z (m.length : Int) = m := by rw [rcL, e3]
      have r2 : rcN Z (m.length : Int) = (D.length : Int) := by rw [rcN, e3]
      have r3 : rcE Z (m.length : Int) = 0 := by rw [rcE, e3]
      simp only [r1, r2, r3] at hR
      clear hm e1 e3 hD r1 r2 r3
      go_wp2_with fail
      refine (hQ _ hc).mono ?_
      rintro e t3 ⟨a3, c3, rfl, hr3, hb3⟩
      replace hl := hl.below hb3
      replace hc := hc.below hb3
      replace hb := hb.below hb3
      replace hbW : Below w.heap.size w t3 := hbW.trans (hb3.mono hbW.size)
      clear hb3 
      have hbs : t3.heap.size ≤ t3.heap.size := Nat.le_refl _
      have hT := Bo.nil t3.heap.size t3
      have hl1 : ([] : List Nat).length + D.length ≤ 1000000 := by simp; omega
      go_wp2_with (at_builtin; refine wpList_append_bs rfl _ _ rfl t3.heap.size _ [] rfl hT _ _ _ D rfl rfl hr3 hl1 hbs ?_)
      intro v9 y4 hT9 hgrow
      have hB9 : Below t3.heap.size t3 y4 := (Below.refl _ _).grown hgrow hbs (fun k hk => (hT.lo hk).1)
      try rw [List.nil_append] at hT9
      obtain ⟨a9, c9, rfl, _⟩ := hT9.slice
      have hb9 := hb.below hB9
      have hbs9 := hB9.size
      have hl9 : D.length + xs.length ≤ 1000000 := by omega
      clear hgrow hT hl1 hbs
      go_wp2_with (at_builtin; refine wpList_append_bs rfl _ _ rfl t3.heap.size _ D rfl hT9 _ _ _ xs rfl rfl hb9 hl9 hbs9 ?_)
      intro v10 z4 hT10 hgrow
      have hB10 : Below t3.heap.size t3 z4 := hB9.grown hgrow hbs9 (fun k hk => (hT9.lo hk).1)
      try rw [hZ] at hT10
      obtain ⟨a4, c4, rfl, hz4⟩ := hT10.slice
      clear hgrow hT9 hT10 hB9 hb9 hbs9 hl9
      replace hl := hl.below hB10
      replace hc := hc.below hB10
      replace hb := hb.below hB10
      replace hr3 := hr3.below hB10
      replace hbW : Below w.heap.size w z4 := hbW.trans (hB10.mono hbW.size)
      clear hB10
      go_wp2_with fail
      refine (hR _ _ _ hz4).mono ?_
      rintro e t4 ⟨a5, c5, rfl, hr5, hb4⟩
      replace hl := hl.below hb4
      replace hc := hc.below hb4
      replace hb := hb.below hb4
      replace hr3 := hr3.below hb4
      replace hz4 := hz4.below hb4
      replace hbW : Below w.heap.size w t4 := hbW.trans (hb4.mono hbW.size)
      clear hb4 
      go_wp2_with fail
      refine (ssameI_any a5 b c5 cb m _ hr5 hc).mono ?_
      rintro e t5 ⟨rfl, hb5⟩
      replace hl := hl.below hb5
      replace hc := hc.below hb5
      replace hb := hb.below hb5
      replace hr3 := hr3.below hb5
      replace hz4 := hz4.below hb5
      replace hr5 := hr5.below hb5
      replace hbW : Below w.heap.size w t5 := hbW.trans (hb5.mono hbW.size)
      clear hb5 
      go_wp2
      go_ret
      exact ⟨rt_bool (by first | rfl | simp), hbW⟩
  | true =>
    have e1 : ppE l = 0 := by simp [ppE, hp]
    have e3 := rp_back hp xs
    have hpl := pp_short hp
    obtain ⟨B, hB⟩ : ∃ D, ppB l = D := ⟨_, rfl⟩
    rw [hB] at e3 hpl
    simp only [e1, hB] at hP
    obtain ⟨Y, hY⟩ : ∃ Z, B ++ xs = Z := ⟨_, rfl⟩
    rw [hY] at e3
    have hYl : Y.length ≤ 10000 := by rw [← hY, List.length_append]; omega
    have hS := fun p d U h => C.rpts p d Y U h hYl
    have r1 : rpL Y = l := by rw [rpL, e3]
    have r2 : rpN Y = (B.length : Int) := by rw [rpN, e3]
    have r3 : rpE Y = 0 := by rw [rpE, e3]
    simp only [r1, r2, r3] at hS
    clear hp e1 e3 hB r1 r2 r3
    go_wp2_with fail
    refine (hP _ hl).mono ?_
    rintro e t2 ⟨a1, c1, rfl, hr1, hb2⟩
    replace hl := hl.below hb2
    replace hc := hc.below hb2
    replace hb := hb.below hb2
    replace hbW : Below w.heap.size w t2 := hbW.trans (hb2.mono hbW.size)
    clear hb2 
    have hbs : t2.heap.size ≤ t2.heap.size := Nat.le_refl _
    have hT := Bo.nil t2.heap.size t2
    have hl1 : ([] : List Nat).length + B.length ≤ 1000000 := by simp; omega
    go_wp2_with (at_builtin; refine wpList_append_bs rfl _ _ rfl t2.heap.size _ [] rfl hT _ _ _ B rfl rfl hr1 hl1 hbs ?_)
    intro v9 y2 hT9 hgrow
    have hB9 : Below t2.heap.size t2 y2 := (Below.refl _ _).grown hgrow hbs (fun k hk => (hT.lo hk).1)
    try rw [List.nil_append] at hT9
    obtain ⟨a9, c9, rfl, _⟩ := hT9.slice
    have hb9 := hb.below hB9
    have hbs9 := hB9.size
    have hl9 : B.length + xs.length ≤ 1000000 := by omega
    clear hgrow hT hl1 hbs
    go_wp2_with (at_builtin; refine wpList_append_bs rfl _ _ rfl t2.heap.size _ B rfl hT9 _ _ _ xs rfl rfl hb9 hl9 hbs9 ?_)
    intro v10 z2 hT10 hgrow
    have hB10 : Below t2.heap.size t2 z2 := hB9.grown hgrow hbs9 (fun k hk => (hT9.lo hk).1)
    try rw [hY] at hT10
    obtain ⟨a2, c2, rfl, hz2⟩ := hT10.slice
    clear hgrow hT9 hT10 hB9 hb9 hbs9 hl9
    replace hl := hl.below hB10
    replace hc := hc.below hB10
    replace hb := hb.below hB10
    replace hr1 := hr1.below hB10
    replace hbW : Below w.heap.size w z2 := hbW.trans (hB10.mono hbW.size)
    clear hB10
    go_wp2_with fail
    refine (hS _ _ _ hz2).mono ?_
    rintro e t3 ⟨a6, c6, rfl, hr6, hb3⟩
    replace hl := hl.below hb3
    replace hc := hc.below hb3
    replace hb := hb.below hb3
    replace hr1 := hr1.below hb3
    replace hz2 := hz2.below hb3
    replace hbW : Below w.heap.size w t3 := hbW.trans (hb3.mono hbW.size)
    clear hb3 
    go_wp2_with fail
    refine (ssameI_any a6 a c6 ca l _ hr6 hl).mono ?_
    rintro e t4 ⟨rfl, hb4⟩
    replace hl := hl.below hb4
    replace hc := hc.below hb4
    replace hb := hb.below hb4
    replace hr1 := hr1.below hb4
    replace hz2 := hz2.below hb4
    replace hr6 := hr6.below hb4
    replace hbW : Below w.heap.size w t4 := hbW.trans (hb4.mono hbW.size)
    clear hb4 
    cases hm : chB m with
    | false =>
      have e1 : pcE m = 1 := by simp [pcE, hm]
      have e2 : pcB m = [] := by simp [pcB, hm]
      simp only [e1, e2, List.length_nil] at hQ
      clear hm e1 e2
      go_wp2_with fail
      refine (hQ _ hc).mono ?_
      rintro e t5 ⟨a3, c3, rfl, hr3, hb5⟩
      replace hl := hl.below hb5
      replace hc := hc.below hb5
      replace hb := hb.below hb5
      replace hbW : Below w.heap.size w t5 := hbW.trans (hb5.mono hbW.size)
      clear hb5 
      go_wp2
      go_ret
      exact ⟨rt_bool (by first | rfl | simp), hbW⟩
    | true =>
      have e1 : pcE m = 0 := by simp [pcE, hm]
      have e3 := rc_back hm xs
      have hml := pc_short hm
      obtain ⟨D, hD⟩ : ∃ D, pcB m = D := ⟨_, rfl⟩
      rw [hD] at e3 hml
      simp only [e1, hD] at hQ
      obtain ⟨Z, hZ⟩ : ∃ Z, D ++ xs = Z := ⟨_, rfl⟩
      rw [hZ] at e3
      have hZl : Z.length ≤ 10000 := by rw [← hZ, List.length_append]; omega
      have hR := fun p d U h => C.rchs p d Z (m.length : Int) U h hZl ⟨by omega, by omega⟩
      have r1 : rcL Z (m.length : Int) = m := by rw [rcL, e3]
      have r2 : rcN Z (m.length : Int) = (D.length : Int) := by rw [rcN, e3]
      have r3 : rcE Z (m.length : Int) = 0 := by rw [rcE, e3]
      simp only [r1, r2, r3] at hR
      clear hm e1 e3 hD r1 r2 r3
      go_wp2_with fail
      refine (hQ _ hc).mono ?_
      rintro e t5 ⟨a3, c3, rfl, hr3, hb5⟩
      replace hl := hl.below hb5
      replace hc := hc.below hb5
      replace hb := hb.below hb5
      replace hbW : Below w.heap.size w t5 := hbW.trans (hb5.mono hbW.size)
      clear hb5 
      have hbs : t5.heap.size ≤ t5.heap.size := Nat.le_refl _
      have hT := Bo.nil t5.heap.size t5
      have hl1 : ([] : List Nat).length + D.length ≤ 1000000 := by simp; omega
      go_wp2_with (at_builtin; refine wpList_append_bs rfl _ _ rfl t5.heap.size _ [] rfl hT _ _ _ D rfl rfl hr3 hl1 hbs ?_)
      intro v9 y4 hT9 hgrow
      have hB9 : Below t5.heap.size t5 y4 := (Below.refl _ _).grown hgrow hbs (fun k hk => (hT.lo hk).1)
      try rw [List.nil_append] at hT9
      obtain ⟨a9, c9, rfl, _⟩ := hT9.slice
      have hb9 := hb.below hB9
      have hbs9 := hB9.size
      have hl9 : D.length + xs.length ≤ 1000000 := by omega
      clear hgrow hT hl1 hbs
      go_wp2_with (at_builtin; refine wpList_append_bs rfl _ _ rfl t5.heap.size _ D rfl hT9 _ _ _ xs rfl rfl hb9 hl9 hbs9 ?_)
      intro v10 z4 hT10 hgrow
      have hB10 : Below t5.heap.size t5 z4 := hB9.grown hgrow hbs9 (fun k hk => (hT9.lo hk).1)
      try rw [hZ] at hT10
      obtain ⟨a4, c4, rfl, hz4⟩ := hT10.slice
      clear hgrow hT9 hT10 hB9 hb9 hbs9 hl9
      replace hl := hl.below hB10
      replace hc := hc.below hB10
      replace hb := hb.below hB10
      replace hr3 := hr3.below hB10
      replace hbW : Below w.heap.size w z4 := hbW.trans (hB10.mono hbW.size)
      clear hB10
      go_wp2_with fail
      refine (hR _ _ _ hz4).mono ?_
      rintro e t6 ⟨a5, c5, rfl, hr5, hb6⟩
      replace hl := hl.below hb6
      replace hc := hc.below hb6
      replace hb := hb.below hb6
      replace hr3 := hr3.below hb6
      replace hz4 := hz4.below hb6
      replace hbW : Below w.heap.size w t6 := hbW.trans (hb6.mono hbW.size)
      clear hb6 
      go_wp2_with fail
      refine (ssameI_any a5 b c5 cb m _ hr5 hc).mono ?_
      rintro e t7 ⟨rfl, hb7⟩
      replace hl := hl.below hb7
      replace hc := hc.below hb7
      replace hb := hb.below hb7
      replace hr3 := hr3.below hb7
      replace hz4 := hz4.below hb7
      replace hr5 := hr5.below hb7
      replace hbW : Below w.heap.size w t7 := hbW.trans (hb7.mono hbW.size)
      clear hb7 
      go_wp2
      go_ret
      exact ⟨rt_bool (by first | rfl | simp), hbW⟩

end Go.Proofs.Ytngkckannclcmaa
