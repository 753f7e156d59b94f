/-
  foundrylaw10.StoreBack: the walk.
-/
import Derived.Test.YtjefaccpmoignaaZ15
import Derived.Test.YtjefaccpmoignaaZ21
import Derived.Test.YtjefaccpmoignaaZ23
import Derived.Test.YtjefaccpmoignaaZ24
import Derived.Deep.CutRange
namespace Go.Proofs.Ytjefaccpmoignaa
open Go.RowKit Go.Maps
set_option linter.unusedSimpArgs false
set_option linter.unusedVariables false

/-- What is written is read: what the reading answers. -/
theorem rd_back {s : Sr} {n : Int} (h : stB s n = true) : rdSE (stE s n) = 0 ∧ rdSN (stE s n) = n ∧ rdSL (stE s n) = s := by
  obtain ⟨h1, h2, h3⟩ := rd_wr h
  exact ⟨by simp [rdSE, h3], by simp [rdSN, h3, h2], by simp [rdSL, h3, h1]⟩
/-- What is read is written to its very bytes. -/
theorem wr_back {b : List Nat} (h : rdSB b = true) : wrSE (rdSL b) (rdSN b) = 0 ∧ wrSB (rdSL b) (rdSN b) = b ∧ rdSE b = 0 ∧ I64 (rdSN b) := by
  obtain ⟨h1, h2⟩ := rdSB_iff.1 h
  have e1 : rdSL b = rdS b := by simp [rdSL, h]
  have e2 : rdSN b = (axN b : Int) := by simp [rdSN, h]
  have hs := (stB_iff.1 h1).1
  rw [e1, e2]
  exact ⟨by simp [wrSE, h1], by simp [wrSB, h1, h2], by simp [rdSE, h], ⟨by omega, by omega⟩⟩

set_option maxHeartbeats 8000000 in
set_option maxRecDepth 100000 in
theorem storeBack_any (a : Option Addr) (ca : Nat) (b : Option Addr) (cb : Nat) (s : Sr) (n : Int) (pa : Option Addr) (pc : Nat) (xs : List Nat) (w : World) (hg : Tzz w a ca s.rg) (hm : Rii w b cb s.rw) (hb : Rb w pa pc xs) (hn : I64 n) :
    Calls Try.prog 4 #[.agg #[.slice a s.rg.length ca, .slice b s.rw.length cb], .int .i64 n, .slice pa xs.length pc] w fun e w' => e = .returned (.bool true) ∧ Below w.heap.size w w' := by
  have k1 := hg.lenB
  have k2 := hm.lenB
  have k3 := hb.le
  have k4 := hb.cap
  unfold maxLen at k4
  have hcw := fun U h1 h2 => cwriteS_any a ca b cb s n U h1 h2 hn
  obtain ⟨W, hW, X1, hbW⟩ : ∃ W, W = w.alloc (.cells #[.slice a s.rg.length ca, .slice b s.rw.length cb] 25) ∧ BxS W w.heap.size (.slice a s.rg.length ca) (.slice b s.rw.length cb) ∧ Below w.heap.size w W := ⟨_, rfl, BxS.new _ _ _, bl1 _⟩
  replace hg := hg.below hbW
  replace hm := hm.below hbW
  replace hb := hb.below hbW
  go_enter Try.func4, Try.ntmps4
  go_wp2_with fail
  rw [← hW]
  clear hW
  refine (awake10_any _).mono ?_
  rintro e t1 ⟨rfl, hb1⟩
  replace hg := hg.below hb1
  replace hm := hm.below hb1
  replace hb := hb.below hb1
  replace X1 := X1.below hb1
  replace hbW : Below w.heap.size w t1 := hbW.trans (hb1.mono hbW.size)
  clear hb1
  obtain ⟨p00, p01, _⟩ := X1.cells
  go_wp2_with fail
  refine (few10_any a ca b cb s _ hg hm).mono ?_
  rintro e t2 ⟨q, rfl, hq, hb2⟩
  clear p00 p01
  replace hg := hg.below hb2
  replace hm := hm.below hb2
  replace hb := hb.below hb2
  replace X1 := X1.below hb2
  replace hbW : Below w.heap.size w t2 := hbW.trans (hb2.mono hbW.size)
  clear hb2
  obtain ⟨p00, p01, _⟩ := X1.cells
  cases q with
  | false =>
    clear hq
    go_wp2_with fail
    refine (awake10_any _).mono ?_
    rintro e v9 ⟨rfl, hb9⟩
    replace hbW := hbW.trans (hb9.mono hbW.size)
    clear hb9
    go_wp2
    go_ret
    exact ⟨rfl, hbW⟩
  | true =>
    clear hq
    by_cases h4 : 4000 < xs.length
    · have g1 : decide ((4000 : Int) < (xs.length : Int)) = true := decide_eq_true (by omega)
      go_wp2_with fail
      refine (awake10_any _).mono ?_
      rintro e v9 ⟨rfl, hb9⟩
      replace hbW := hbW.trans (hb9.mono hbW.size)
      clear hb9
      go_wp2
      go_ret
      exact ⟨rfl, hbW⟩
    have g1 : decide ((4000 : Int) < (xs.length : Int)) = false := decide_eq_false (by omega)
    have hcr := fun U h1 => creadS_any pa pc xs U h1 (by omega)
    clear h4
    cases hst : stB s n with
    | false =>
      simp only [wrSB, wrSE, hst, Bool.false_eq_true, if_false, List.length_nil] at hcw
      have hcr1 := fun p d U h1 => creadS_any p d [] U h1 (by decide)
      simp only [List.length_nil] at hcr1
      generalize rdSL [] = t0 at *
      generalize rdSN [] = n0 at *
      generalize rdSE [] = e0 at *
      clear hst
      go_wp2_with fail
      refine (hcw _ hg hm).mono ?_
      rintro e t3 ⟨p1, d1, rfl, hr1, hb3⟩
      clear p00 p01
      replace hg := hg.below hb3
      replace hm := hm.below hb3
      replace hb := hb.below hb3
      replace X1 := X1.below hb3
      replace hbW : Below w.heap.size w t3 := hbW.trans (hb3.mono hbW.size)
      clear hb3 g1
      obtain ⟨p00, p01, _⟩ := X1.cells
      go_wp2_with fail
      refine (hcr1 p1 d1 _ hr1).mono ?_
      rintro e t4 ⟨a3, c3, b3, e3, rfl, hg3, hm3, hb4⟩
      clear p00 p01
      replace hg := hg.below hb4
      replace hm := hm.below hb4
      replace hb := hb.below hb4
      replace hr1 := hr1.below hb4
      replace X1 := X1.below hb4
      replace hbW : Below w.heap.size w t4 := hbW.trans (hb4.mono hbW.size)
      clear hb4
      obtain ⟨p00, p01, _⟩ := X1.cells
      obtain ⟨QY3, hU, Y3, hb9⟩ : ∃ U, U = t4.alloc (.cells #[.slice a3 t0.rg.length c3, .slice b3 t0.rw.length e3] 25) ∧ BxS U t4.heap.size (.slice a3 t0.rg.length c3) (.slice b3 t0.rw.length e3) ∧ Below t4.heap.size t4 U := ⟨_, rfl, BxS.new _ _ _, bl1 _⟩
      clear p00 p01
      replace hg := hg.below hb9
      replace hm := hm.below hb9
      replace hb := hb.below hb9
      replace hr1 := hr1.below hb9
      replace hg3 := hg3.below hb9
      replace hm3 := hm3.below hb9
      replace X1 := X1.below hb9
      replace hbW : Below w.heap.size w QY3 := hbW.trans (hb9.mono hbW.size)
      clear hb9
      go_upto_region 5 with fail
      rw [← hU]
      clear hU
      generalize t4.heap.size = gt at Y3 ⊢
      obtain ⟨p00, p01, _⟩ := X1.cells
      obtain ⟨p10, p11, _⟩ := Y3.cells
      clear hcw hcr1
      cases hrd : rdSB xs with
      | false =>
        have hbd := rdS_bad hrd
        obtain ⟨t, ht⟩ : ∃ t, rdSL xs = t := ⟨_, rfl⟩
        simp only [ht] at hcr
        rw [ht] at hbd
        simp only [hbd.1, hbd.2.1] at hcr
        have ht2 : t.rw.length = 0 := by rw [hbd.2.2.2]; rfl
        simp only [ht2] at hcr
        clear hrd hbd ht
        go_wp2_with fail
        refine (hcr _ hb).mono ?_
        rintro e t5 ⟨a1, c1, b1, e1, rfl, hg1, hm1, hb5⟩
        clear p00 p01 p10 p11
        replace hg := hg.below hb5
        replace hm := hm.below hb5
        replace hb := hb.below hb5
        replace hr1 := hr1.below hb5
        replace hg3 := hg3.below hb5
        replace hm3 := hm3.below hb5
        replace X1 := X1.below hb5
        replace Y3 := Y3.below hb5
        replace hbW : Below w.heap.size w t5 := hbW.trans (hb5.mono hbW.size)
        clear hb5
        obtain ⟨p00, p01, _⟩ := X1.cells
        obtain ⟨p10, p11, _⟩ := Y3.cells
        obtain ⟨QY1, hU, Y1, hb9⟩ : ∃ U, U = t5.alloc (.cells #[.slice a1 t.rg.length c1, .slice b1 0 e1] 25) ∧ BxS U t5.heap.size (.slice a1 t.rg.length c1) (.slice b1 0 e1) ∧ Below t5.heap.size t5 U := ⟨_, rfl, BxS.new _ _ _, bl1 _⟩
        clear p00 p01 p10 p11
        replace hg := hg.below hb9
        replace hm := hm.below hb9
        replace hb := hb.below hb9
        replace hr1 := hr1.below hb9
        replace hg3 := hg3.below hb9
        replace hm3 := hm3.below hb9
        replace hg1 := hg1.below hb9
        replace hm1 := hm1.below hb9
        replace X1 := X1.below hb9
        replace Y3 := Y3.below hb9
        replace hbW : Below w.heap.size w QY1 := hbW.trans (hb9.mono hbW.size)
        clear hb9
        go_upto_region 8 with fail
        rw [← hU]
        clear hU
        generalize t5.heap.size = gu at Y1 ⊢
        obtain ⟨p00, p01, _⟩ := X1.cells
        obtain ⟨p10, p11, _⟩ := Y3.cells
        obtain ⟨p20, p21, _⟩ := Y1.cells
        go_wp2
        go_ret
        exact ⟨rt_bool (by first | rfl | simp), hbW⟩
      | true =>
        obtain ⟨h1, h2, h3, h5⟩ := wr_back hrd
        obtain ⟨t, ht⟩ : ∃ t, rdSL xs = t := ⟨_, rfl⟩
        obtain ⟨rn, hrn⟩ : ∃ t, rdSN xs = t := ⟨_, rfl⟩
        rw [ht, hrn] at h1 h2
        rw [hrn] at h5
        simp only [ht, hrn, h3] at hcr
        have hcw2 := fun a1 c1 b1 e1 U g1 g2 => cwriteS_any a1 c1 b1 e1 t rn U g1 g2 h5
        simp only [h1, h2] at hcw2
        clear hrd h1 h2 h3 h5 ht hrn
        go_wp2_with fail
        refine (hcr _ hb).mono ?_
        rintro e t5 ⟨a1, c1, b1, e1, rfl, hg1, hm1, hb5⟩
        clear p00 p01 p10 p11
        replace hg := hg.below hb5
        replace hm := hm.below hb5
        replace hb := hb.below hb5
        replace hr1 := hr1.below hb5
        replace hg3 := hg3.below hb5
        replace hm3 := hm3.below hb5
        replace X1 := X1.below hb5
        replace Y3 := Y3.below hb5
        replace hbW : Below w.heap.size w t5 := hbW.trans (hb5.mono hbW.size)
        clear hb5
        obtain ⟨p00, p01, _⟩ := X1.cells
        obtain ⟨p10, p11, _⟩ := Y3.cells
        obtain ⟨QY1, hU, Y1, hb9⟩ : ∃ U, U = t5.alloc (.cells #[.slice a1 t.rg.length c1, .slice b1 t.rw.length e1] 25) ∧ BxS U t5.heap.size (.slice a1 t.rg.length c1) (.slice b1 t.rw.length e1) ∧ Below t5.heap.size t5 U := ⟨_, rfl, BxS.new _ _ _, bl1 _⟩
        clear p00 p01 p10 p11
        replace hg := hg.below hb9
        replace hm := hm.below hb9
        replace hb := hb.below hb9
        replace hr1 := hr1.below hb9
        replace hg3 := hg3.below hb9
        replace hm3 := hm3.below hb9
        replace hg1 := hg1.below hb9
        replace hm1 := hm1.below hb9
        replace X1 := X1.below hb9
        replace Y3 := Y3.below hb9
        replace hbW : Below w.heap.size w QY1 := hbW.trans (hb9.mono hbW.size)
        clear hb9
        go_upto_region 8 with fail
        rw [← hU]
        clear hU
        generalize t5.heap.size = gu at Y1 ⊢
        obtain ⟨p00, p01, _⟩ := X1.cells
        obtain ⟨p10, p11, _⟩ := Y3.cells
        obtain ⟨p20, p21, _⟩ := Y1.cells
        go_wp2_with fail
        refine (hcw2 a1 c1 b1 e1 _ hg1 hm1).mono ?_
        rintro e t6 ⟨p3, d3, rfl, hr3, hb6⟩
        clear p00 p01 p10 p11 p20 p21
        replace hg := hg.below hb6
        replace hm := hm.below hb6
        replace hb := hb.below hb6
        replace hr1 := hr1.below hb6
        replace hg3 := hg3.below hb6
        replace hm3 := hm3.below hb6
        replace hg1 := hg1.below hb6
        replace hm1 := hm1.below hb6
        replace X1 := X1.below hb6
        replace Y3 := Y3.below hb6
        replace Y1 := Y1.below hb6
        replace hbW : Below w.heap.size w t6 := hbW.trans (hb6.mono hbW.size)
        clear hb6
        obtain ⟨p00, p01, _⟩ := X1.cells
        obtain ⟨p10, p11, _⟩ := Y3.cells
        obtain ⟨p20, p21, _⟩ := Y1.cells
        go_wp2_with fail
        refine (same8g_any pa p3 pc d3 xs xs _ hb hr3).mono ?_
        rintro e t7 ⟨rfl, hb7⟩
        clear p00 p01 p10 p11 p20 p21
        replace hg := hg.below hb7
        replace hm := hm.below hb7
        replace hb := hb.below hb7
        replace hr1 := hr1.below hb7
        replace hg3 := hg3.below hb7
        replace hm3 := hm3.below hb7
        replace hg1 := hg1.below hb7
        replace hm1 := hm1.below hb7
        replace hr3 := hr3.below hb7
        replace X1 := X1.below hb7
        replace Y3 := Y3.below hb7
        replace Y1 := Y1.below hb7
        replace hbW : Below w.heap.size w t7 := hbW.trans (hb7.mono hbW.size)
        clear hb7
        obtain ⟨p00, p01, _⟩ := X1.cells
        obtain ⟨p10, p11, _⟩ := Y3.cells
        obtain ⟨p20, p21, _⟩ := Y1.cells
        rw [decide_eq_true rfl]
        go_wp2
        go_ret
        exact ⟨rt_bool (by first | rfl | simp), hbW⟩
    | true =>
      obtain ⟨h1, h2, h3⟩ := rd_back hst
      have hle := stE_le hst
      simp only [wrSB, wrSE, hst, if_true] at hcw
      obtain ⟨fb, hfb⟩ : ∃ fb, stE s n = fb := ⟨_, rfl⟩
      rw [hfb] at h1 h2 h3 hle
      simp only [hfb] at hcw
      have hcr1 := fun p d U h1 => creadS_any p d fb U h1 (by omega)
      simp only [h1, h2, h3] at hcr1
      have q1 : (n != n) = false := by simp
      clear hst h1 h2 h3 hfb
      go_wp2_with fail
      refine (hcw _ hg hm).mono ?_
      rintro e t3 ⟨p1, d1, rfl, hr1, hb3⟩
      clear p00 p01
      replace hg := hg.below hb3
      replace hm := hm.below hb3
      replace hb := hb.below hb3
      replace X1 := X1.below hb3
      replace hbW : Below w.heap.size w t3 := hbW.trans (hb3.mono hbW.size)
      clear hb3 g1
      obtain ⟨p00, p01, _⟩ := X1.cells
      go_wp2_with fail
      refine (hcr1 p1 d1 _ hr1).mono ?_
      rintro e t4 ⟨a3, c3, b3, e3, rfl, hg3, hm3, hb4⟩
      clear p00 p01
      replace hg := hg.below hb4
      replace hm := hm.below hb4
      replace hb := hb.below hb4
      replace hr1 := hr1.below hb4
      replace X1 := X1.below hb4
      replace hbW : Below w.heap.size w t4 := hbW.trans (hb4.mono hbW.size)
      clear hb4
      obtain ⟨p00, p01, _⟩ := X1.cells
      obtain ⟨QY3, hU, Y3, hb9⟩ : ∃ U, U = t4.alloc (.cells #[.slice a3 s.rg.length c3, .slice b3 s.rw.length e3] 25) ∧ BxS U t4.heap.size (.slice a3 s.rg.length c3) (.slice b3 s.rw.length e3) ∧ Below t4.heap.size t4 U := ⟨_, rfl, BxS.new _ _ _, bl1 _⟩
      clear p00 p01
      replace hg := hg.below hb9
      replace hm := hm.below hb9
      replace hb := hb.below hb9
      replace hr1 := hr1.below hb9
      replace hg3 := hg3.below hb9
      replace hm3 := hm3.below hb9
      replace X1 := X1.below hb9
      replace hbW : Below w.heap.size w QY3 := hbW.trans (hb9.mono hbW.size)
      clear hb9
      go_upto_region 5 with fail
      rw [← hU]
      clear hU
      generalize t4.heap.size = gt at Y3 ⊢
      obtain ⟨p00, p01, _⟩ := X1.cells
      obtain ⟨p10, p11, _⟩ := Y3.cells
      go_wp2_with fail
      refine (ssameS_any a ca b cb a3 c3 b3 e3 s _ hg hm hg3 hm3).mono ?_
      rintro e t5 ⟨rfl, hb5⟩
      clear p00 p01 p10 p11
      replace hg := hg.below hb5
      replace hm := hm.below hb5
      replace hb := hb.below hb5
      replace hr1 := hr1.below hb5
      replace hg3 := hg3.below hb5
      replace hm3 := hm3.below hb5
      replace X1 := X1.below hb5
      replace Y3 := Y3.below hb5
      replace hbW : Below w.heap.size w t5 := hbW.trans (hb5.mono hbW.size)
      clear hb5
      obtain ⟨p00, p01, _⟩ := X1.cells
      obtain ⟨p10, p11, _⟩ := Y3.cells
      clear hcw hcr1
      cases hrd : rdSB xs with
      | false =>
        have hbd := rdS_bad hrd
        obtain ⟨t, ht⟩ : ∃ t, rdSL xs = t := ⟨_, rfl⟩
        simp only [ht] at hcr
        rw [ht] at hbd
        simp only [hbd.1, hbd.2.1] at hcr
        have ht2 : t.rw.length = 0 := by rw [hbd.2.2.2]; rfl
        simp only [ht2] at hcr
        clear hrd hbd ht
        go_wp2_with fail
        refine (hcr _ hb).mono ?_
        rintro e t6 ⟨a1, c1, b1, e1, rfl, hg1, hm1, hb6⟩
        clear p00 p01 p10 p11
        replace hg := hg.below hb6
        replace hm := hm.below hb6
        replace hb := hb.below hb6
        replace hr1 := hr1.below hb6
        replace hg3 := hg3.below hb6
        replace hm3 := hm3.below hb6
        replace X1 := X1.below hb6
        replace Y3 := Y3.below hb6
        replace hbW : Below w.heap.size w t6 := hbW.trans (hb6.mono hbW.size)
        clear hb6
        obtain ⟨p00, p01, _⟩ := X1.cells
        obtain ⟨p10, p11, _⟩ := Y3.cells
        obtain ⟨QY1, hU, Y1, hb9⟩ : ∃ U, U = t6.alloc (.cells #[.slice a1 t.rg.length c1, .slice b1 0 e1] 25) ∧ BxS U t6.heap.size (.slice a1 t.rg.length c1) (.slice b1 0 e1) ∧ Below t6.heap.size t6 U := ⟨_, rfl, BxS.new _ _ _, bl1 _⟩
        clear p00 p01 p10 p11
        replace hg := hg.below hb9
        replace hm := hm.below hb9
        replace hb := hb.below hb9
        replace hr1 := hr1.below hb9
        replace hg3 := hg3.below hb9
        replace hm3 := hm3.below hb9
        replace hg1 := hg1.below hb9
        replace hm1 := hm1.below hb9
        replace X1 := X1.below hb9
        replace Y3 := Y3.below hb9
        replace hbW : Below w.heap.size w QY1 := hbW.trans (hb9.mono hbW.size)
        clear hb9
        go_upto_region 8 with fail
        rw [← hU]
        clear hU
        generalize t6.heap.size = gu at Y1 ⊢
        obtain ⟨p00, p01, _⟩ := X1.cells
        obtain ⟨p10, p11, _⟩ := Y3.cells
        obtain ⟨p20, p21, _⟩ := Y1.cells
        go_wp2
        go_ret
        exact ⟨rt_bool (by first | rfl | simp), hbW⟩
      | true =>
        obtain ⟨h1, h2, h3, h5⟩ := wr_back hrd
        obtain ⟨t, ht⟩ : ∃ t, rdSL xs = t := ⟨_, rfl⟩
        obtain ⟨rn, hrn⟩ : ∃ t, rdSN xs = t := ⟨_, rfl⟩
        rw [ht, hrn] at h1 h2
        rw [hrn] at h5
        simp only [ht, hrn, h3] at hcr
        have hcw2 := fun a1 c1 b1 e1 U g1 g2 => cwriteS_any a1 c1 b1 e1 t rn U g1 g2 h5
        simp only [h1, h2] at hcw2
        clear hrd h1 h2 h3 h5 ht hrn
        go_wp2_with fail
        refine (hcr _ hb).mono ?_
        rintro e t6 ⟨a1, c1, b1, e1, rfl, hg1, hm1, hb6⟩
        clear p00 p01 p10 p11
        replace hg := hg.below hb6
        replace hm := hm.below hb6
        replace hb := hb.below hb6
        replace hr1 := hr1.below hb6
        replace hg3 := hg3.below hb6
        replace hm3 := hm3.below hb6
        replace X1 := X1.below hb6
        replace Y3 := Y3.below hb6
        replace hbW : Below w.heap.size w t6 := hbW.trans (hb6.mono hbW.size)
        clear hb6
        obtain ⟨p00, p01, _⟩ := X1.cells
        obtain ⟨p10, p11, _⟩ := Y3.cells
        obtain ⟨QY1, hU, Y1, hb9⟩ : ∃ U, U = t6.alloc (.cells #[.slice a1 t.rg.length c1, .slice b1 t.rw.length e1] 25) ∧ BxS U t6.heap.size (.slice a1 t.rg.length c1) (.slice b1 t.rw.length e1) ∧ Below t6.heap.size t6 U := ⟨_, rfl, BxS.new _ _ _, bl1 _⟩
        clear p00 p01 p10 p11
        replace hg := hg.below hb9
        replace hm := hm.below hb9
        replace hb := hb.below hb9
        replace hr1 := hr1.below hb9
        replace hg3 := hg3.below hb9
        replace hm3 := hm3.below hb9
        replace hg1 := hg1.below hb9
        replace hm1 := hm1.below hb9
        replace X1 := X1.below hb9
        replace Y3 := Y3.below hb9
        replace hbW : Below w.heap.size w QY1 := hbW.trans (hb9.mono hbW.size)
        clear hb9
        go_upto_region 8 with fail
        rw [← hU]
        clear hU
        generalize t6.heap.size = gu at Y1 ⊢
        obtain ⟨p00, p01, _⟩ := X1.cells
        obtain ⟨p10, p11, _⟩ := Y3.cells
        obtain ⟨p20, p21, _⟩ := Y1.cells
        go_wp2_with fail
        refine (hcw2 a1 c1 b1 e1 _ hg1 hm1).mono ?_
        rintro e t7 ⟨p3, d3, rfl, hr3, hb7⟩
        clear p00 p01 p10 p11 p20 p21
        replace hg := hg.below hb7
        replace hm := hm.below hb7
        replace hb := hb.below hb7
        replace hr1 := hr1.below hb7
        replace hg3 := hg3.below hb7
        replace hm3 := hm3.below hb7
        replace hg1 := hg1.below hb7
        replace hm1 := hm1.below hb7
        replace X1 := X1.below hb7
        replace Y3 := Y3.below hb7
        replace Y1 := Y1.below hb7
        replace hbW : Below w.heap.size w t7 := hbW.trans (hb7.mono hbW.size)
        clear hb7
        obtain ⟨p00, p01, _⟩ := X1.cells
        obtain ⟨p10, p11, _⟩ := Y3.cells
        obtain ⟨p20, p21, _⟩ := Y1.cells
        go_wp2_with fail
        refine (same8g_any pa p3 pc d3 xs xs _ hb hr3).mono ?_
        rintro e t8 ⟨rfl, hb8⟩
        clear p00 p01 p10 p11 p20 p21
        replace hg := hg.below hb8
        replace hm := hm.below hb8
        replace hb := hb.below hb8
        replace hr1 := hr1.below hb8
        replace hg3 := hg3.below hb8
        replace hm3 := hm3.below hb8
        replace hg1 := hg1.below hb8
        replace hm1 := hm1.below hb8
        replace hr3 := hr3.below hb8
        replace X1 := X1.below hb8
        replace Y3 := Y3.below hb8
        replace Y1 := Y1.below hb8
        replace hbW : Below w.heap.size w t8 := hbW.trans (hb8.mono hbW.size)
        clear hb8
        obtain ⟨p00, p01, _⟩ := X1.cells
        obtain ⟨p10, p11, _⟩ := Y3.cells
        obtain ⟨p20, p21, _⟩ := Y1.cells
        rw [decide_eq_true rfl]
        go_wp2
        go_ret
        exact ⟨rt_bool (by first | rfl | simp), hbW⟩

end Go.Proofs.Ytjefaccpmoignaa
