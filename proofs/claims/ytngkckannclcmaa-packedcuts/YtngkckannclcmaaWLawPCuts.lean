/-
  foundrylaw11.PackedCuts: the walk.
-/
import Derived.Test.YtngkckannclcmaaZ7
namespace Go.Proofs.Ytngkckannclcmaa
open Go.RowKit Go.Maps
set_option linter.unusedSimpArgs false
set_option linter.unusedVariables false

theorem pp_one {l : List Int} (h : ptB l = true) : 1 ≤ (ppB l).length := by
  have h3 : 1 ≤ (cnE l.length).length := by unfold cnE; split <;> simp
  rw [ppB, if_pos h, List.length_append]
  omega
set_option maxHeartbeats 8000000 in
set_option maxRecDepth 100000 in
theorem packedCuts_any (C : CodP) (a : Option Addr) (ca : Nat) (l : List Int) (b : Option Addr) (cb : Nat) (m : List Int) (n : Nat) (w : World) (hl : Ri w a ca l) (hc : Ri w b cb m) (hn : n < 65536) :
    Calls Try.prog 6 #[.slice a l.length ca, .slice b m.length cb, .int .u16 (n : Int)] w fun e w' => e = .returned (.bool true) ∧ Below w.heap.size w w' := by
  have k1 := hl.lenB
  have k2 := hc.lenB
  have hbW : Below w.heap.size w w := Below.refl _ _
  go_enter Try.func6, Try.ntmps6
  go_wp2_with fail
  refine (awake11_any C _).mono ?_
  rintro e t1 ⟨rfl, hb1⟩
  replace hl := hl.below hb1
  replace hc := hc.below hb1
  replace hbW : Below w.heap.size w t1 := hbW.trans (hb1.mono hbW.size)
  clear hb1 
  by_cases h1 : 2000 < l.length
  · have g1 : (2000 : Int) < (l.length : Int) := by omega
    go_wp2_with fail
    refine (awake11_any C _).mono ?_
    rintro e v9 ⟨rfl, hb9⟩
    replace hbW := hbW.trans (hb9.mono hbW.size)
    clear hb9
    go_wp2
    go_ret
    exact ⟨rfl, hbW⟩
  have gh1 : ¬ (2000 : Int) < (l.length : Int) := by omega
  by_cases h2 : 2000 < m.length
  · have g1 : (2000 : Int) < (m.length : Int) := by omega
    go_wp2_with fail
    refine (awake11_any C _).mono ?_
    rintro e v9 ⟨rfl, hb9⟩
    replace hbW := hbW.trans (hb9.mono hbW.size)
    clear hb9
    go_wp2
    go_ret
    exact ⟨rfl, hbW⟩
  have gh2 : ¬ (2000 : Int) < (m.length : Int) := by omega
  have hP := fun U h => C.pts a ca l U h (by omega)
  have hQ := fun U h => C.chs b cb m U h (by omega)
  cases hp : ptB l with
  | false =>
    have e1 : ppE l = 1 := by simp [ppE, hp]
    have e2 : ppB l = [] := by simp [ppB, hp]
    simp only [e1, e2, List.length_nil] at hP
    clear hp e1 e2
    cases hm : chB m with
    | false =>
      have e1 : pcE m = 1 := by simp [pcE, hm]
      have e2 : pcB m = [] := by simp [pcB, hm]
      simp only [e1, e2, List.length_nil] at hQ
      clear hm e1 e2
      go_wp2_with fail
      refine (hP _ hl).mono ?_
      rintro e t2 ⟨a1, c1, rfl, hr1, hb2⟩
      replace hl := hl.below hb2
      replace hc := hc.below hb2
      replace hbW : Below w.heap.size w t2 := hbW.trans (hb2.mono hbW.size)
      clear hb2 
      go_wp2_with fail
      refine (hQ _ hc).mono ?_
      rintro e t3 ⟨a3, c3, rfl, hr3, hb3⟩
      replace hl := hl.below hb3
      replace hc := hc.below hb3
      replace hr1 := hr1.below hb3
      replace hbW : Below w.heap.size w t3 := hbW.trans (hb3.mono hbW.size)
      clear hb3 
      go_wp2
      go_ret
      exact ⟨rt_bool (by first | rfl | simp), hbW⟩
    | true =>
      have e1 : pcE m = 0 := by simp [pcE, hm]
      have e3 := fun j hj => rc_cut hm (j := j) hj
      have hml := pc_short hm
      obtain ⟨D, hD⟩ : ∃ D, pcB m = D := ⟨_, rfl⟩
      simp only [hD] at e3 hml hQ
      simp only [e1] at hQ
      have hR := fun p d j U h (hj : j < D.length) => C.rchs p d (D.take j) (m.length : Int) U h (by rw [List.length_take]; omega) ⟨by omega, by omega⟩
      have HR3 : Hid (∀ j, j < D.length → rcE (D.take j) (m.length : Int) = 2) := fun j hj => by rw [rcE, e3 j hj]; exact if_pos (by omega)
      clear hm e1 e3 hD
      by_cases hD0 : D.length = 0
      · have g7 : ((D.length : Int) == 0) = true := by rw [hD0]; rfl
        go_wp2_with fail
        refine (hP _ hl).mono ?_
        rintro e t2 ⟨a1, c1, rfl, hr1, hb2⟩
        replace hl := hl.below hb2
        replace hc := hc.below hb2
        replace hbW : Below w.heap.size w t2 := hbW.trans (hb2.mono hbW.size)
        clear hb2 
        go_wp2_with fail
        refine (hQ _ hc).mono ?_
        rintro e t3 ⟨a3, c3, rfl, hr3, hb3⟩
        replace hl := hl.below hb3
        replace hc := hc.below hb3
        replace hr1 := hr1.below hb3
        replace hbW : Below w.heap.size w t3 := hbW.trans (hb3.mono hbW.size)
        clear hb3 
        go_wp2
        go_ret
        exact ⟨rt_bool (by first | rfl | simp), hbW⟩
      obtain ⟨j2, hj2⟩ : ∃ k, n % D.length = k := ⟨_, rfl⟩
      have hltj2 : j2 < D.length := by rw [← hj2]; exact Nat.mod_lt _ (by omega)
      have mj2 : (n : Int) % (D.length : Int) = (j2 : Int) := by rw [← hj2]; exact (Int.natCast_emod _ _).symm
      have mtj2 : (n : Int).tmod (D.length : Int) = (j2 : Int) := by rw [Int.tmod_eq_emod_of_nonneg (by omega)]; exact mj2
      have nzj2 : ((D.length : Int) == 0) = false := beq_eq_false_iff_ne.2 (by omega)
      clear hj2
      go_wp2_with fail
      refine (hP _ hl).mono ?_
      rintro e t2 ⟨a1, c1, rfl, hr1, hb2⟩
      replace hl := hl.below hb2
      replace hc := hc.below hb2
      replace hbW : Below w.heap.size w t2 := hbW.trans (hb2.mono hbW.size)
      clear hb2 
      go_wp2_with fail
      refine (hQ _ hc).mono ?_
      rintro e t3 ⟨a3, c3, rfl, hr3, hb3⟩
      replace hl := hl.below hb3
      replace hc := hc.below hb3
      replace hr1 := hr1.below hb3
      replace hbW : Below w.heap.size w t3 := hbW.trans (hb3.mono hbW.size)
      clear hb3 
      have htk := hr3.take j2
      have hle2 := hr3.le
      have hcp2 := hr3.cap
      unfold maxLen at hcp2
      have hRR := fun U h => hR a3 c3 j2 U h hltj2
      rw [HR3.out j2 hltj2] at hRR
      have hlen2 : (D.take j2).length = j2 := by rw [List.length_take]; omega
      rw [hlen2] at hRR
      generalize rcL (D.take j2) (m.length : Int) = L2 at hRR
      generalize rcN (D.take j2) (m.length : Int) = N2 at hRR
      clear hR
      go_wp2_with fail
      refine (hRR _ htk).mono ?_
      rintro e t4 ⟨a5, c5, rfl, hr5, hb4⟩
      replace hl := hl.below hb4
      replace hc := hc.below hb4
      replace hr1 := hr1.below hb4
      replace hr3 := hr3.below hb4
      replace htk := htk.below hb4
      replace hbW : Below w.heap.size w t4 := hbW.trans (hb4.mono hbW.size)
      clear hb4 
      go_wp2
      go_ret
      exact ⟨rt_bool (by first | rfl | simp), hbW⟩
  | true =>
    have e1 : ppE l = 0 := by simp [ppE, hp]
    have e3 := fun j hj => rp_cut hp (j := j) hj
    have hpl := pp_short hp
    have hp1 := pp_one hp
    obtain ⟨B, hB⟩ : ∃ D, ppB l = D := ⟨_, rfl⟩
    simp only [hB] at e3 hpl hP hp1
    simp only [e1] at hP
    have hS := fun p d j U h (hj : j < B.length) => C.rpts p d (B.take j) U h (by rw [List.length_take]; omega)
    have HS3 : Hid (∀ j, j < B.length → rpE (B.take j) = 2) := fun j hj => by rw [rpE, e3 j hj]
    clear hp e1 e3 hB
    obtain ⟨j1, hj1⟩ : ∃ k, n % B.length = k := ⟨_, rfl⟩
    have hltj1 : j1 < B.length := by rw [← hj1]; exact Nat.mod_lt _ (by omega)
    have mj1 : (n : Int) % (B.length : Int) = (j1 : Int) := by rw [← hj1]; exact (Int.natCast_emod _ _).symm
    have mtj1 : (n : Int).tmod (B.length : Int) = (j1 : Int) := by rw [Int.tmod_eq_emod_of_nonneg (by omega)]; exact mj1
    have nzj1 : ((B.length : Int) == 0) = false := beq_eq_false_iff_ne.2 (by omega)
    clear hj1
    cases hm : chB m with
    | false =>
      have e1 : pcE m = 1 := by simp [pcE, hm]
      have e2 : pcB m = [] := by simp [pcB, hm]
      simp only [e1, e2, List.length_nil] at hQ
      clear hm e1 e2
      go_wp2_with fail
      refine (hP _ hl).mono ?_
      rintro e t2 ⟨a1, c1, rfl, hr1, hb2⟩
      replace hl := hl.below hb2
      replace hc := hc.below hb2
      replace hbW : Below w.heap.size w t2 := hbW.trans (hb2.mono hbW.size)
      clear hb2 
      go_wp2_with fail
      refine (hQ _ hc).mono ?_
      rintro e t3 ⟨a3, c3, rfl, hr3, hb3⟩
      replace hl := hl.below hb3
      replace hc := hc.below hb3
      replace hr1 := hr1.below hb3
      replace hbW : Below w.heap.size w t3 := hbW.trans (hb3.mono hbW.size)
      clear hb3 
      have htp := hr1.take j1
      have hle1 := hr1.le
      have hcp1 := hr1.cap
      unfold maxLen at hcp1
      have hSS := fun U h => hS a1 c1 j1 U h hltj1
      rw [HS3.out j1 hltj1] at hSS
      have hlen1 : (B.take j1).length = j1 := by rw [List.length_take]; omega
      rw [hlen1] at hSS
      generalize rpL (B.take j1) = L1 at hSS
      generalize rpN (B.take j1) = N1 at hSS
      clear hS
      go_wp2_with fail
      refine (hSS _ htp).mono ?_
      rintro e t4 ⟨a6, c6, rfl, hr6, hb4⟩
      replace hl := hl.below hb4
      replace hc := hc.below hb4
      replace hr1 := hr1.below hb4
      replace hr3 := hr3.below hb4
      replace htp := htp.below hb4
      replace hbW : Below w.heap.size w t4 := hbW.trans (hb4.mono hbW.size)
      clear hb4 
      go_wp2
      go_ret
      exact ⟨rt_bool (by first | rfl | simp), hbW⟩
    | true =>
      have e1 : pcE m = 0 := by simp [pcE, hm]
      have e3 := fun j hj => rc_cut hm (j := j) hj
      have hml := pc_short hm
      obtain ⟨D, hD⟩ : ∃ D, pcB m = D := ⟨_, rfl⟩
      simp only [hD] at e3 hml hQ
      simp only [e1] at hQ
      have hR := fun p d j U h (hj : j < D.length) => C.rchs p d (D.take j) (m.length : Int) U h (by rw [List.length_take]; omega) ⟨by omega, by omega⟩
      have HR3 : Hid (∀ j, j < D.length → rcE (D.take j) (m.length : Int) = 2) := fun j hj => by rw [rcE, e3 j hj]; exact if_pos (by omega)
      clear hm e1 e3 hD
      by_cases hD0 : D.length = 0
      · have g7 : ((D.length : Int) == 0) = true := by rw [hD0]; rfl
        go_wp2_with fail
        refine (hP _ hl).mono ?_
        rintro e t2 ⟨a1, c1, rfl, hr1, hb2⟩
        replace hl := hl.below hb2
        replace hc := hc.below hb2
        replace hbW : Below w.heap.size w t2 := hbW.trans (hb2.mono hbW.size)
        clear hb2 
        go_wp2_with fail
        refine (hQ _ hc).mono ?_
        rintro e t3 ⟨a3, c3, rfl, hr3, hb3⟩
        replace hl := hl.below hb3
        replace hc := hc.below hb3
        replace hr1 := hr1.below hb3
        replace hbW : Below w.heap.size w t3 := hbW.trans (hb3.mono hbW.size)
        clear hb3 
        have htp := hr1.take j1
        have hle1 := hr1.le
        have hcp1 := hr1.cap
        unfold maxLen at hcp1
        have hSS := fun U h => hS a1 c1 j1 U h hltj1
        rw [HS3.out j1 hltj1] at hSS
        have hlen1 : (B.take j1).length = j1 := by rw [List.length_take]; omega
        rw [hlen1] at hSS
        generalize rpL (B.take j1) = L1 at hSS
        generalize rpN (B.take j1) = N1 at hSS
        clear hS
        go_wp2_with fail
        refine (hSS _ htp).mono ?_
        rintro e t4 ⟨a6, c6, rfl, hr6, hb4⟩
        replace hl := hl.below hb4
        replace hc := hc.below hb4
        replace hr1 := hr1.below hb4
        replace hr3 := hr3.below hb4
        replace htp := htp.below hb4
        replace hbW : Below w.heap.size w t4 := hbW.trans (hb4.mono hbW.size)
        clear hb4 
        go_wp2
        go_ret
        exact ⟨rt_bool (by first | rfl | simp), hbW⟩
      obtain ⟨j2, hj2⟩ : ∃ k, n % D.length = k := ⟨_, rfl⟩
      have hltj2 : j2 < D.length := by rw [← hj2]; exact Nat.mod_lt _ (by omega)
      have mj2 : (n : Int) % (D.length : Int) = (j2 : Int) := by rw [← hj2]; exact (Int.natCast_emod _ _).symm
      have mtj2 : (n : Int).tmod (D.length : Int) = (j2 : Int) := by rw [Int.tmod_eq_emod_of_nonneg (by omega)]; exact mj2
      have nzj2 : ((D.length : Int) == 0) = false := beq_eq_false_iff_ne.2 (by omega)
      clear hj2
      go_wp2_with fail
      refine (hP _ hl).mono ?_
      rintro e t2 ⟨a1, c1, rfl, hr1, hb2⟩
      replace hl := hl.below hb2
      replace hc := hc.below hb2
      replace hbW : Below w.heap.size w t2 := hbW.trans (hb2.mono hbW.size)
      clear hb2 
      go_wp2_with fail
      refine (hQ _ hc).mono ?_
      rintro e t3 ⟨a3, c3, rfl, hr3, hb3⟩
      replace hl := hl.below hb3
      replace hc := hc.below hb3
      replace hr1 := hr1.below hb3
      replace hbW : Below w.heap.size w t3 := hbW.trans (hb3.mono hbW.size)
      clear hb3 
      have htp := hr1.take j1
      have hle1 := hr1.le
      have hcp1 := hr1.cap
      unfold maxLen at hcp1
      have hSS := fun U h => hS a1 c1 j1 U h hltj1
      rw [HS3.out j1 hltj1] at hSS
      have hlen1 : (B.take j1).length = j1 := by rw [List.length_take]; omega
      rw [hlen1] at hSS
      generalize rpL (B.take j1) = L1 at hSS
      generalize rpN (B.take j1) = N1 at hSS
      clear hS
      go_wp2_with fail
      refine (hSS _ htp).mono ?_
      rintro e t4 ⟨a6, c6, rfl, hr6, hb4⟩
      replace hl := hl.below hb4
      replace hc := hc.below hb4
      replace hr1 := hr1.below hb4
      replace hr3 := hr3.below hb4
      replace htp := htp.below hb4
      replace hbW : Below w.heap.size w t4 := hbW.trans (hb4.mono hbW.size)
      clear hb4 
      have htk := hr3.take j2
      have hle2 := hr3.le
      have hcp2 := hr3.cap
      unfold maxLen at hcp2
      have hRR := fun U h => hR a3 c3 j2 U h hltj2
      rw [HR3.out j2 hltj2] at hRR
      have hlen2 : (D.take j2).length = j2 := by rw [List.length_take]; omega
      rw [hlen2] at hRR
      generalize rcL (D.take j2) (m.length : Int) = L2 at hRR
      generalize rcN (D.take j2) (m.length : Int) = N2 at hRR
      clear hR
      go_wp2_with fail
      refine (hRR _ htk).mono ?_
      rintro e t5 ⟨a5, c5, rfl, hr5, hb5⟩
      replace hl := hl.below hb5
      replace hc := hc.below hb5
      replace hr1 := hr1.below hb5
      replace hr3 := hr3.below hb5
      replace htp := htp.below hb5
      replace htk := htk.below hb5
      replace hbW : Below w.heap.size w t5 := hbW.trans (hb5.mono hbW.size)
      clear hb5 
      go_wp2
      go_ret
      exact ⟨rt_bool (by first | rfl | simp), hbW⟩

end Go.Proofs.Ytngkckannclcmaa
