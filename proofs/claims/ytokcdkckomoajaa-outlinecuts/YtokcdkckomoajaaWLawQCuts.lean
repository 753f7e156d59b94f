/-
  foundrylaw12.OutlineCuts: the walk.
-/
import Derived.Test.YtokcdkckomoajaaZ12
import Derived.Test.YtokcdkckomoajaaZ15
import Derived.Test.YtokcdkckomoajaaZ16
namespace Go.Proofs.Ytokcdkckomoajaa
open Go.RowKit Go.Maps
set_option linter.unusedSimpArgs false
set_option linter.unusedVariables false

set_option maxHeartbeats 1000000 in
set_option maxRecDepth 100000 in
theorem outlineCuts_any (S : Nat → Prop) (a : Option Addr) (ca : Nat) (b : Option Addr) (cb : Nat) (o : Ol) (n m : Nat) (w : World) (hg : Gr PnE.row S w a ca o.cs) (hm : Gr PaE S w b cb o.ps) (hn : n < 65536) (hm8 : m < 256) :
    Calls Try.prog 7 #[.agg #[.slice a o.cs.length ca, .slice b o.ps.length cb], .int .u16 (n : Int), .int .u8 (m : Int)] w fun e w' => e = .returned (.bool true) ∧ Below w.heap.size w w' := by
  have k1 := hg.lenB
  have k2 := hm.lenB
  obtain ⟨W, hW, X1, hbW⟩ : ∃ W, W = w.alloc (.cells #[.slice a o.cs.length ca, .slice b o.ps.length cb] 25) ∧ Bk 25 W w.heap.size [.slice a o.cs.length ca, .slice b o.ps.length cb] ∧ Below w.heap.size w W := ⟨_, rfl, Bk.new _ _ _, bl1 _⟩
  replace hg := hg.below hbW
  replace hm := hm.below hbW
  go_enter Try.func7, Try.ntmps7
  go_wp2_with fail
  rw [← hW]
  clear hW
  refine (awake12_any _).mono ?_
  rintro e t1 ⟨rfl, hb1⟩
  replace hg := hg.below hb1
  replace hm := hm.below hb1
  replace X1 := X1.below hb1
  replace hbW : Below w.heap.size w t1 := hbW.trans (hb1.mono hbW.size)
  clear hb1 
  obtain ⟨p0, p1, _⟩ := X1.two
  go_wp2_with fail
  refine (sfewO_any S a ca b cb o _ hg hm).mono ?_
  rintro e t2 ⟨rfl, hb2⟩
  replace hg := hg.below hb2
  replace hm := hm.below hb2
  replace X1 := X1.below hb2
  replace hbW : Below w.heap.size w t2 := hbW.trans (hb2.mono hbW.size)
  clear hb2 p0 p1
  obtain ⟨p0, p1, _⟩ := X1.two
  cases hq : fewB o with
  | false =>
    clear hq
    go_wp2_with fail
    refine (awake12_any _).mono ?_
    rintro e v9 ⟨rfl, hb9⟩
    replace hbW := hbW.trans (hb9.mono hbW.size)
    clear hb9
    go_wp2
    go_ret
    exact ⟨rfl, hbW⟩
  | true =>
  obtain ⟨q1, q2, q3⟩ := fewB_of hq
  clear hq
  have hwr := fun U h1 h2 => cwriteO_any S a ca b cb o U h1 h2
  by_cases h0 : wrOE o = 0
  rotate_left
  · have g0 : (wrOE o != 0) = true := bne_iff_ne.2 h0
    clear h0
    generalize wrOE o = we at *
    generalize wrOB o = fb at *
    go_wp2_with fail
    refine (hwr _ hg hm).mono ?_
    rintro e t3 ⟨a1, c1, rfl, hr1, hb3⟩
    replace hg := hg.below hb3
    replace hm := hm.below hb3
    replace X1 := X1.below hb3
    replace hbW : Below w.heap.size w t3 := hbW.trans (hb3.mono hbW.size)
    clear hb3 p0 p1
    go_wp2
    go_ret
    exact ⟨rfl, hbW⟩
  have h2l := wrOB_two h0
  have hbl := (byt_wrOB o).2
  have HC : Hid (∀ j, j < (wrOB o).length → rdOE ((wrOB o).take j) = 2 ∧ rdOL ((wrOB o).take j) = Ol.none) := fun j hj => by
    have := rdO_cut h0 hj
    exact ⟨by rw [rdOE, if_neg (by rw [this]; decide)], by rw [rdOL, if_neg (by rw [this]; decide)]⟩
  have HM : Hid (∀ Z, Z ≠ [] → rdOE (wrOB o ++ Z) = 2 ∧ rdOL (wrOB o ++ Z) = Ol.none) := fun Z hZ => by
    have := rdO_more h0 hZ
    exact ⟨by rw [rdOE, if_neg (by rw [this]; decide)], by rw [rdOL, if_neg (by rw [this]; decide)]⟩
  simp only [h0] at hwr
  clear h0
  generalize wrOB o = B at *
  obtain ⟨j, hj⟩ : ∃ k, n % B.length = k := ⟨_, rfl⟩
  have hlt : j < B.length := by rw [← hj]; exact Nat.mod_lt _ (by omega)
  have mj : (n : Int) % (B.length : Int) = (j : Int) := by rw [← hj]; exact (Int.natCast_emod _ _).symm
  have mtj : (n : Int).tmod (B.length : Int) = (j : Int) := by rw [Int.tmod_eq_emod_of_nonneg (by omega)]; exact mj
  have nzj : ((B.length : Int) == 0) = false := beq_eq_false_iff_ne.2 (by omega)
  clear hj
  have hrd := fun p d U h => creadO_any p d (B.take j) U h
  have hrm := fun p d U h => creadO_any p d (B ++ [m]) U h
  have hlen2 : (B.take j).length = j := by rw [List.length_take]; omega
  have hlen3 : (B ++ [m]).length = B.length + 1 := by rw [List.length_append]; rfl
  have z1 : Ol.none.cs.length = 0 := rfl
  have z2 : Ol.none.ps.length = 0 := rfl
  simp only [(HC.out j hlt).1, (HC.out j hlt).2, hlen2, z1, z2] at hrd
  simp only [(HM.out [m] (by simp)).1, (HM.out [m] (by simp)).2, hlen3, z1, z2] at hrm
  have HL3 : Hid (_) := hlen3
  clear hlen2 hlen3 HC HM z1 z2
  go_wp2_with fail
  refine (hwr _ hg hm).mono ?_
  rintro e t3 ⟨a1, c1, rfl, hr1, hb3⟩
  replace hg := hg.below hb3
  replace hm := hm.below hb3
  replace X1 := X1.below hb3
  replace hbW : Below w.heap.size w t3 := hbW.trans (hb3.mono hbW.size)
  clear hb3 p0 p1
  have htk := hr1.take j
  have hle2 := hr1.le
  have hcp2 := hr1.cap
  unfold maxLen at hcp2
  rcases hr1.2.2.2.2 with hn0 | ⟨bb, ob, rfl, _, _⟩
  · rw [hn0] at h2l; simp at h2l
  have i1 : (0 : Int) ≤ (j : Int) := by omega
  have i2 : (j : Int) ≤ (c1 : Int) := by omega
  go_wp2_with fail
  refine (hrd _ _ _ htk).mono ?_
  rintro e t4 ⟨a2, c2, b2, d2, rfl, hg2, hm2, hb4⟩
  replace hg := hg.below hb4
  replace hm := hm.below hb4
  replace X1 := X1.below hb4
  replace hr1 := hr1.below hb4
  replace hbW : Below w.heap.size w t4 := hbW.trans (hb4.mono hbW.size)
  clear hb4 htk hg2 hm2
  obtain ⟨V, hV, hbV⟩ : ∃ V, V = t4.alloc (.cells #[.slice a2 0 c2, .slice b2 0 d2] 25) ∧ Below t4.heap.size t4 V := ⟨_, rfl, bl1 _⟩
  replace hg := hg.below hbV
  replace hm := hm.below hbV
  replace X1 := X1.below hbV
  replace hr1 := hr1.below hbV
  replace hbW : Below w.heap.size w V := hbW.trans (hbV.mono hbW.size)
  clear hbV mj mtj nzj
  have hbs : V.heap.size ≤ V.heap.size := Nat.le_refl _
  have hT := Bo.nil V.heap.size V
  have hl1 : ([] : List Nat).length + B.length ≤ 1000000 := by simp; omega
  go_upto_region 8 with fail
  rw [← hV]
  clear hV
  go_wp2_with (at_builtin; refine wpList_append_bs rfl _ _ rfl V.heap.size _ [] rfl hT _ _ _ B rfl rfl hr1 hl1 hbs ?_)
  intro v9 y2 hT9 hgrow
  have hB9 : Below V.heap.size V y2 := (Below.refl _ _).grown hgrow hbs (fun k hk => (hT.lo hk).1)
  try rw [List.nil_append] at hT9
  obtain ⟨a9, c9, rfl, _⟩ := hT9.slice
  clear hgrow hT hl1 hbs
  have bp := bl1 (w := y2) (.cells #[.int .u8 (m : Int)] 5)
  have hT8 := hT9.below bp
  have hN := Bk.new 5 y2 [.int .u8 (m : Int)]
  have n0 := hN.cell 0 (by simp)
  have hB8 := hB9.trans (bp.mono hB9.size)
  have hbs8 := hB8.size
  have hl8 : B.length + 1 ≤ 1000000 := by omega
  clear hN bp
  go_wp2_with (at_builtin; refine wpList_append_b1 rfl _ _ rfl V.heap.size _ B rfl hT8 y2.heap.size m rfl n0 hm8 hl8 hbs8 ?_)
  intro v10 z2 hT10 hgrow
  have hB10 : Below V.heap.size V z2 := hB8.grown hgrow hbs8 (fun k hk => (hT8.lo hk).1)
  obtain ⟨a4, c4, rfl, hz4⟩ := hT10.slice
  rw [HL3.out]
  clear hgrow hT9 hT10 hB9 hbs8 hl8 hT8 hB8 n0
  replace hbW : Below w.heap.size w z2 := hbW.trans (hB10.mono hbW.size)
  clear hB10
  go_wp2_with fail
  refine (hrm _ _ _ hz4).mono ?_
  rintro e t5 ⟨a5, c5, b5, d5, rfl, hg5, hm5, hb5⟩
  replace hbW : Below w.heap.size w t5 := hbW.trans (hb5.mono hbW.size)
  clear hb5 hg5 hm5
  obtain ⟨V2, hV2, hbV2⟩ : ∃ V2, V2 = t5.alloc (.cells #[.slice a5 0 c5, .slice b5 0 d5] 25) ∧ Below t5.heap.size t5 V2 := ⟨_, rfl, bl1 _⟩
  replace hbW : Below w.heap.size w V2 := hbW.trans (hbV2.mono hbW.size)
  clear hbV2
  go_upto_region 11 with fail
  rw [← hV2]
  clear hV2
  go_wp2
  go_ret
  exact ⟨rfl, hbW⟩

end Go.Proofs.Ytokcdkckomoajaa
