/-
  foundrylaw12.OutlineOnly: the walk.
-/
import Derived.Test.YtokcdkckomoajaaZ12
import Derived.Test.YtokcdkckomoajaaZ15
import Derived.Test.YtokcdkckomoajaaZ16
namespace Go.Proofs.Ytokcdkckomoajaa
open Go.RowKit Go.Maps
set_option linter.unusedSimpArgs false
set_option linter.unusedVariables false

set_option maxHeartbeats 4000000 in
set_option maxRecDepth 100000 in
theorem outlineOnly_any (pa : Option Addr) (pc : Nat) (xs : List Nat) (w : World) (hb : Rb w pa pc xs) :
    Calls Try.prog 6 #[.slice pa xs.length pc] w fun e w' => e = .returned (.bool true) ∧ Below w.heap.size w w' := by
  have k3 := hb.le
  have k4 := hb.cap
  unfold maxLen at k4
  have hbW : Below w.heap.size w w := Below.refl _ _
  go_enter Try.func6, Try.ntmps6
  go_wp2_with fail
  refine (awake12_any _).mono ?_
  rintro e t1 ⟨rfl, hb1⟩
  replace hb := hb.below hb1
  replace hbW : Below w.heap.size w t1 := hbW.trans (hb1.mono hbW.size)
  clear hb1 
  by_cases h1 : 4000 < xs.length
  · have g1 : decide ((4000 : Int) < (xs.length : Int)) = true := decide_eq_true (by omega)
    go_wp2_with fail
    refine (awake12_any _).mono ?_
    rintro e v9 ⟨rfl, hb9⟩
    replace hbW := hbW.trans (hb9.mono hbW.size)
    clear hb9
    go_wp2
    go_ret
    exact ⟨rfl, hbW⟩
  have g1 : decide ((4000 : Int) < (xs.length : Int)) = false := decide_eq_false (by omega)
  have hrd := fun U h => creadO_any pa pc xs U h
  cases hk : rdOk xs with
  | false =>
    have r1 : rdOE xs = 2 := by rw [rdOE, if_neg (by rw [hk]; decide)]
    have r2 : rdOL xs = Ol.none := by rw [rdOL, if_neg (by rw [hk]; decide)]
    simp only [r1, r2] at hrd
    clear r1 r2 hk
    have z1 : Ol.none.cs.length = 0 := rfl
    have z2 : Ol.none.ps.length = 0 := rfl
    simp only [z1, z2] at hrd
    have hsm := fun a ca b cb U h1 h2 => ssameO_any (fun _ => True) (fun _ => True) a ca b cb none 0 none 0 Ol.none U h1 h2 (Gr.nil _ _ _ _ _ (Nat.zero_le _) (fun _ => rfl)) (Gr.nil _ _ _ _ _ (Nat.zero_le _) (fun _ => rfl))
    simp only [z1, z2] at hsm
    go_wp2_with fail
    refine (hrd _ hb).mono ?_
    rintro e t2 ⟨a2, c2, b2, d2, rfl, hg2, hm2, hb2⟩
    replace hb := hb.below hb2
    replace hbW : Below w.heap.size w t2 := hbW.trans (hb2.mono hbW.size)
    clear hb2 
    obtain ⟨V, hV, Y1, hbV⟩ : ∃ V, V = t2.alloc (.cells #[.slice a2 0 c2, .slice b2 0 d2] 25) ∧ Bk 25 V t2.heap.size [.slice a2 0 c2, .slice b2 0 d2] ∧ Below t2.heap.size t2 V := ⟨_, rfl, Bk.new _ _ _, bl1 _⟩
    replace hb := hb.below hbV
    replace hg2 := hg2.below hbV
    replace hm2 := hm2.below hbV
    replace hbW : Below w.heap.size w V := hbW.trans (hbV.mono hbW.size)
    clear hbV
    obtain ⟨y0, y1, _⟩ := Y1.two
    go_upto_region 5 with fail
    rw [← hV]
    clear hV
    go_wp2_with fail
    refine (hsm a2 c2 b2 d2 _ hg2 hm2).mono ?_
    rintro e t3 ⟨rfl, hb3⟩
    replace hb := hb.below hb3
    replace hg2 := hg2.below hb3
    replace hm2 := hm2.below hb3
    replace hbW : Below w.heap.size w t3 := hbW.trans (hb3.mono hbW.size)
    clear hb3 
    go_wp2
    go_ret
    exact ⟨rfl, hbW⟩
  | true =>
    obtain ⟨h2, h3⟩ := rdOk_iff.1 hk
    have r1 : rdOE xs = 0 := by rw [rdOE, if_pos hk]
    have r2 : rdOL xs = candO xs := by rw [rdOL, if_pos hk]
    have hf : foB (candO xs) = true := by
      rcases wrOE_cases (candO xs) with h | h | h
      · exact h.2
      · rw [h2] at h; exact absurd h.1 (by decide)
      · exact h.2.1
    simp only [r1, r2] at hrd
    have hwr := fun a ca b cb U h1 h2 => cwriteO_any (fun _ => True) a ca b cb (candO xs) U h1 h2
    have hfo := fun a ca b cb U h1 h2 => cformO_any (fun _ => True) a ca b cb (candO xs) U h1 h2
    simp only [h2, h3] at hwr
    simp only [hf] at hfo
    have hs8 := fun a b ca cb U h1 h2 => same8g_any a b ca cb xs xs U h1 h2
    simp only [decide_true] at hs8
    clear r1 r2 hk h2 h3 hf
    generalize candO xs = o at *
    go_wp2_with fail
    refine (hrd _ hb).mono ?_
    rintro e t2 ⟨a2, c2, b2, d2, rfl, hg2, hm2, hb2⟩
    replace hb := hb.below hb2
    replace hbW : Below w.heap.size w t2 := hbW.trans (hb2.mono hbW.size)
    clear hb2 
    have k5 := hg2.lenB
    have k6 := hm2.lenB
    obtain ⟨V, hV, Y1, hbV⟩ : ∃ V, V = t2.alloc (.cells #[.slice a2 o.cs.length c2, .slice b2 o.ps.length d2] 25) ∧ Bk 25 V t2.heap.size [.slice a2 o.cs.length c2, .slice b2 o.ps.length d2] ∧ Below t2.heap.size t2 V := ⟨_, rfl, Bk.new _ _ _, bl1 _⟩
    replace hb := hb.below hbV
    replace hg2 := hg2.below hbV
    replace hm2 := hm2.below hbV
    replace hbW : Below w.heap.size w V := hbW.trans (hbV.mono hbW.size)
    clear hbV
    obtain ⟨y0, y1, _⟩ := Y1.two
    generalize hgt : t2.heap.size = gt at *
    go_upto_region 6 with fail
    rw [← hV]
    clear hV hgt
    go_wp2_with fail
    refine (hwr _ _ _ _ _ hg2 hm2).mono ?_
    rintro e t3 ⟨a3, c3, rfl, hr3, hb3⟩
    replace hb := hb.below hb3
    replace hg2 := hg2.below hb3
    replace hm2 := hm2.below hb3
    replace Y1 := Y1.below hb3
    replace hbW : Below w.heap.size w t3 := hbW.trans (hb3.mono hbW.size)
    clear hb3 y0 y1
    obtain ⟨y0, y1, _⟩ := Y1.two
    go_wp2_with fail
    refine (hfo _ _ _ _ _ hg2 hm2).mono ?_
    rintro e t4 ⟨rfl, hb4⟩
    replace hb := hb.below hb4
    replace hg2 := hg2.below hb4
    replace hm2 := hm2.below hb4
    replace Y1 := Y1.below hb4
    replace hr3 := hr3.below hb4
    replace hbW : Below w.heap.size w t4 := hbW.trans (hb4.mono hbW.size)
    clear hb4 y0 y1
    go_wp2_with fail
    refine (hs8 _ _ _ _ _ hb hr3).mono ?_
    rintro e t5 ⟨rfl, hb5⟩
    replace hb := hb.below hb5
    replace hg2 := hg2.below hb5
    replace hm2 := hm2.below hb5
    replace Y1 := Y1.below hb5
    replace hr3 := hr3.below hb5
    replace hbW : Below w.heap.size w t5 := hbW.trans (hb5.mono hbW.size)
    clear hb5 
    go_wp2
    go_ret
    exact ⟨rfl, hbW⟩

end Go.Proofs.Ytokcdkckomoajaa
