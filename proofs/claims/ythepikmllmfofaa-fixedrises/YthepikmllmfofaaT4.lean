/-
  foundrylaw03.awake, plain, few; foundryref02.Same of formed fractions: the walks.
-/
import Derived.Test.YthepikmllmfofaaT2
namespace Go.Proofs.Ythepikmllmfofaa
open Go.RowKit
set_option linter.unusedSimpArgs false
set_option linter.unusedVariables false

set_option maxHeartbeats 1000000 in
/-- foundrylaw03.plain: the same value. -/
theorem plain3_any (k : Nat) (q : Rat) (v : Value) (w : World) (h : Ct w v k q) :
    Calls Try.prog 12 #[v] w fun e w' => e = .returned v ∧ Below w.heap.size w w' := by
  obtain ⟨n, xs, ys, ⟨a, c, a', c', rfl, _, _⟩, _⟩ := h
  go_enter Try.func12, Try.ntmps12
  go_wp2
  exact bodyPost_ret (v := .agg #[.bool n, .slice a xs.length c, .slice a' ys.length c']) (by simp [results, Try.results12, go_sem]) rfl ⟨rfl, al2 _ _⟩

/-- foundryref02.Same, of formed fractions of one number. -/
theorem same3_any (k l : Nat) (q r : Rat) (v v' : Value) (w : World) (h : Fr w v k q) (h' : Fr w v' l r) (hqr : q = r) :
    Calls Try.prog 17 #[v, v'] w fun e w' => e = .returned (.bool true) ∧ Below w.heap.size w w' := by
  obtain ⟨n, xs, ys, ⟨a, c, a', c', rfl, hx, hy⟩, f1, _, _, e1⟩ := h
  obtain ⟨m, ps, qs, ⟨b, d, b', d', rfl, hp, hq⟩, f2, _, _, e2⟩ := h'
  obtain ⟨rfl, rfl, rfl⟩ := f1.uniq f2 hx.lim hy.lim hp.lim hq.lim (by rw [e1, e2, hqr])
  refine (alike2_any _ _ _ _ _ _ _ _ _ _ _ _ _ _ _ hx hy hp hq).mono ?_
  rintro e u ⟨rfl, hb⟩
  exact ⟨ret_bool (by simp), hb⟩

set_option maxHeartbeats 1000000 in
/-- foundrylaw03.few. -/
theorem few3_any (n : Bool) (a a' : Option Addr) (c c' i j : Nat) (w : World) (hi : i ≤ 9223372036854775807) (hj : j ≤ 9223372036854775807) :
    Calls Try.prog 9 #[.agg #[.bool n, .slice a i c, .slice a' j c']] w fun e w' => e = .returned (.bool (decide (i ≤ 6 ∧ j ≤ 6))) ∧ Below w.heap.size w w' := by
  by_cases h1 : i ≤ 6
  · have g1 : (i : Int) ≤ 6 := by omega
    go_enter Try.func9, Try.ntmps9
    go_wp2
    go_ret
    exact ⟨ret_bool (by simp [h1]; try omega), al1 _⟩
  · have g1 : ¬ (i : Int) ≤ 6 := by omega
    go_enter Try.func9, Try.ntmps9
    go_wp2
    go_ret
    exact ⟨ret_bool (by simp [h1]; try omega), al1 _⟩

theorem awake3_third : to14 (((1 : Int) : Rat) / ((3 : Int) : Rat)) = 5461 := by decide +kernel

set_option maxHeartbeats 1000000 in
/-- foundrylaw03.awake. -/
theorem awake3_any (w : World) :
    Calls Try.prog 8 #[] w fun e w' => e = .returned (.bool true) ∧ Below w.heap.size w w' := by
  go_enter Try.func8, Try.ntmps8
  go_wp2_with fail
  refine (make_any 1 3 _ (by decide) (by decide) (by decide) (by decide)).mono ?_
  rintro e u1 ⟨v1, rfl, hF1, hb1⟩
  go_wp2_with fail
  refine (to14_any 2 _ _ _ hF1.ct (by decide) (by decide)).mono ?_
  rintro e u2 ⟨rfl, hb2⟩
  have hbW : Below w.heap.size w u2 := hb1.trans (hb2.mono hb1.size)
  rw [awake3_third]
  clear hb1 hb2 hF1
  go_wp2_with fail
  refine (coord_any (-16384) _).mono ?_
  rintro e u3 ⟨rfl, rfl⟩
  rw [show crd (-16384) = true from rfl]
  go_wp2_with fail
  refine (coord_any 16385 _).mono ?_
  rintro e u4 ⟨rfl, rfl⟩
  rw [show crd 16385 = false from rfl]
  go_wp2
  go_ret
  exact ⟨rfl, hbW⟩

end Go.Proofs.Ythepikmllmfofaa
