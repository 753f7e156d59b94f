/-
  sfnt.Unpack: the walk; the contracts of sfnt's functions, all five.
-/
import Derived.Test.YtijehnfadpoapaaSC1
import Derived.Test.YtijehnfadpoapaaSC8
import Derived.Test.YtijehnfadpoapaaLawS0
namespace Go.Proofs.Ytijehnfadpoapaa
open Go.RowKit Go.Maps
set_option linter.unusedSimpArgs false
set_option linter.unusedVariables false

theorem unp_fil {xs : List Nat} {l : List Tb} (hx : xs.length ≤ 1048576) (hF : Fil xs → l = dirB xs) :
    (pckE l = 0 ∧ pckB l = xs ∧ unpE xs = 0 ∧ unpL xs = l) ∨ (unpE xs = 2 ∧ unpL xs = [] ∧ ¬ (pckE l = 0 ∧ pckB l = xs)) := by
  have hn : ¬ 1048576 < xs.length := by omega
  by_cases hf : Fil xs
  · have hb := filB_iff.2 hf
    have hl := hF hf
    have h1 := frB_iff.2 hf.1
    refine .inl ⟨?_, ?_, by simp [unpE, hn, hb], by simp [unpL, hn, hb, hl]⟩
    · rw [hl, pckE, h1, hf.2]; simp [hn]
    · rw [hl, pckB, h1, hf.2]; simp [hn]
  · have hb : filB xs = false := by
      rw [Bool.eq_false_iff]
      exact fun e => hf (filB_iff.1 e)
    refine .inr ⟨by simp [unpE, hn, hb], by simp [unpL, hn, hb], ?_⟩
    rintro ⟨e1, e2⟩
    apply hf
    by_cases h1 : frB l = true
    · have hfr := frB_iff.1 h1
      by_cases h2 : 1048576 < (fileS l).length
      · simp [pckE, h1, h2] at e1
      · have e3 : fileS l = xs := by rw [← e2, pckB, h1]; simp [h2]
        have := (fil_of hfr (by omega)).2
        rw [e3] at this
        exact this
    · have h1 : frB l = false := by simpa using h1
      simp [pckE, h1] at e1
theorem pckE_cases (l : List Tb) : pckE l = 0 ∨ pckE l = 1 ∨ pckE l = 3 := by
  unfold pckE
  repeat' split
  all_goals simp

set_option maxHeartbeats 2000000 in
set_option maxRecDepth 100000 in
theorem unpack_any (a : Option Addr) (cap : Nat) (xs : List Nat) (w : World) (h : Rb w a cap xs) :
    Calls Try.prog 21 #[.slice a xs.length cap] w fun e w' => ∃ a' cap', e = .returned (.tuple #[.slice a' (unpL xs).length cap', .int .i64 (unpE xs)]) ∧ Ts w' a' cap' (unpL xs) ∧ Below w.heap.size w w' := by
  have k1 := h.le
  have k2 := h.cap
  unfold maxLen at k2
  by_cases hlong : 1048576 < xs.length
  · have e1 : Hid (unpE xs = 3) := by show unpE xs = 3; simp [unpE, hlong]
    have e2 : Hid (unpL xs = []) := by show unpL xs = []; simp [unpL, hlong]
    have g1 : (1048576 : Int) < (xs.length : Int) := by omega
    go_enter Try.func21, Try.ntmps21
    go_wp2
    go_ret2
    exact ⟨none, 0, by rw [e1.out, e2.out]; rfl, by rw [e2.out]; exact Ts.nil _ _ _ (Nat.zero_le _), Below.refl _ _⟩
  have g1 : ¬ (1048576 : Int) < (xs.length : Int) := by omega
  have hlx : xs.length ≤ 1048576 := by omega
  have HH : Hid (Rb w a cap xs) := h
  have HBAD : Hid (¬ Fil xs → unpE xs = 2 ∧ unpL xs = []) := by
    show ¬ Fil xs → _
    intro hf
    have hb : filB xs = false := by
      rw [Bool.eq_false_iff]
      exact fun e => hf (filB_iff.1 e)
    exact ⟨by simp [unpE, hlong, hb], by simp [unpL, hlong, hb]⟩
  have HUF : Hid (∀ l, (Fil xs → l = dirB xs) → (pckE l = 0 ∧ pckB l = xs ∧ unpE xs = 0 ∧ unpL xs = l) ∨ (unpE xs = 2 ∧ unpL xs = [] ∧ ¬ (pckE l = 0 ∧ pckB l = xs))) := fun l hl => unp_fil hlx hl
  go_enter Try.func21, Try.ntmps21
  go_wp2_with fail
  refine (tables_any a cap xs _ h hlx).mono ?_
  rintro e u ⟨hb, (⟨a2, c2, l, rfl, hT, hF⟩ | ⟨rfl, hN⟩)⟩
  rotate_left
  · obtain ⟨e1, e2⟩ := HBAD.out hN
    have E1 : Hid (unpE xs = 2) := e1
    have E2 : Hid (unpL xs = []) := e2
    clear e1 e2 hN h hlong
    go_wp2
    go_ret2
    exact ⟨none, 0, by rw [E1.out, E2.out]; rfl, by rw [E2.out]; exact Ts.nil _ _ _ (Nat.zero_le _), hb⟩
  have hcs := HUF.out l hF
  have HCS : Hid ((pckE l = 0 ∧ pckB l = xs ∧ unpE xs = 0 ∧ unpL xs = l) ∨ (unpE xs = 2 ∧ unpL xs = [] ∧ ¬ (pckE l = 0 ∧ pckB l = xs))) := hcs
  have HT : Hid (Ts u a2 c2 l) := hT
  have hpe := pckE_cases l
  have hl1 := hT.1
  have hl2 := hT.2.1
  unfold maxLen at hl2
  clear hcs hF h hlong
  go_wp2_with fail
  refine (pack_any a2 c2 l _ hT).mono ?_
  rintro e u2 ⟨a3, c3, rfl, hr3, hb3⟩
  have hBZ : Below w.heap.size w u2 := hb.trans (hb3.mono hb.size)
  have hrx := HH.out.below hBZ
  clear hT
  rcases hpe with hpe | hpe | hpe
  · rw [hpe]
    have HPE : Hid (pckE l = 0) := hpe
    generalize pckB l = fs at *
    clear hpe
    go_wp2_with fail
    refine (equal_any a3 a c3 cap fs xs _ hr3 hrx).mono ?_
    rintro e u3 ⟨rfl, rfl⟩
    by_cases hsm : fs = xs
    · rcases HCS.out with ⟨_, _, e1, e2⟩ | ⟨_, _, hno⟩
      · have hd := decide_eq_true hsm
        have E1 : Hid (unpE xs = 0) := e1
        have E2 : Hid (unpL xs = l) := e2
        rw [hd]
        clear hd hsm e1 e2 hr3
        go_wp2
        go_ret2
        refine ⟨a2, c2, ?_, ?_, hBZ⟩
        · rw [E1.out, E2.out]; rfl
        · rw [E2.out]; exact HT.out.below hb3
      · exact absurd ⟨HPE.out, hsm⟩ hno
    · rcases HCS.out with ⟨_, hy, _, _⟩ | ⟨e1, e2, _⟩
      · exact absurd hy hsm
      · have hd := decide_eq_false hsm
        have E1 : Hid (unpE xs = 2) := e1
        have E2 : Hid (unpL xs = []) := e2
        rw [hd]
        clear hd hsm e1 e2 hr3
        go_wp2
        go_ret2
        exact ⟨none, 0, by rw [E1.out, E2.out]; rfl, by rw [E2.out]; exact Ts.nil _ _ _ (Nat.zero_le _), hBZ⟩
  all_goals
    rcases HCS.out with ⟨hy, _⟩ | ⟨e1, e2, _⟩
    · rw [hpe] at hy
      cases hy
    · have E1 : Hid (unpE xs = 2) := e1
      have E2 : Hid (unpL xs = []) := e2
      rw [hpe]
      generalize pckB l = fs at *
      clear hpe e1 e2 hr3
      go_wp2
      go_ret2
      exact ⟨none, 0, by rw [E1.out, E2.out]; rfl, by rw [E2.out]; exact Ts.nil _ _ _ (Nat.zero_le _), hBZ⟩

theorem cod : Cod where
  formed a cap l w h := formed_any a cap l w h
  sum a cap xs w h _ := (sum_any a cap xs w h).mono (fun _ _ ⟨e, hw⟩ => ⟨e, hw ▸ Below.refl _ _⟩)
  pack a cap l w h := pack_any a cap l w h
  unpack a cap xs w h := unpack_any a cap xs w h
  find a cap l t w h hs _ := find_any a cap l t w h hs

end Go.Proofs.Ytijehnfadpoapaa
