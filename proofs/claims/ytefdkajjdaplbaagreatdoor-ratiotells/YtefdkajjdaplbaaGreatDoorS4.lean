/-
  foundryref02.Sign, Cmp: the walks.
-/
import Derived.Test.YtefdkajjdaplbaaGreatDoorSA
namespace Go.Proofs.YtefdkajjdaplbaaGreatDoor
open Go.RowKit Classical
set_option linter.unusedSimpArgs false
set_option linter.unusedVariables false

set_option maxHeartbeats 1000000 in
theorem ssign_any (k : Nat) (q : Rat) (v : Value) (w : World) (h : Ct w v k q) (hk : k ≤ 1000000) (hk2 : 2 ≤ k) :
    Calls Tryz.prog 26 #[v] w fun e w' => e = .returned (.int .i64 (sgnQ q)) ∧ Below w.heap.size w w' := by
  have hX := h
  obtain ⟨n, xs, ys, ⟨a, c, a', c', rfl, _, _⟩, _⟩ := h
  go_enter Tryz.func26, Tryz.ntmps26
  go_wp2_with fail
  refine (sfair_any k q _ _ (hX.below (al1 _)) (by omega) hk2).mono ?_
  rintro e u1 ⟨v1, rfl, hF1, hb1⟩
  obtain ⟨B1, hbW⟩ := after1 hb1
  clear hb1 hX
  obtain ⟨p1, p2, p3, p4, p5, p6⟩ := B1.cells
  have hs1 := B1.lt
  obtain ⟨n1, x1, y1, ⟨a1, c1, b1, d1, rfl, hx1, hy1⟩, f1, l1, l1', e1⟩ := hF1
  have e := sgn_lo (n := n1) f1.1 f1.den
  rw [e1] at e
  have k1 : x1.length ≤ 1000000 := by omega
  have hbF := below_set3 hbW (Nat.le_refl _) (.bool n1) (.slice a1 x1.length c1) (.slice b1 y1.length d1)
  by_cases h0 : x1.length = 0
  · rw [if_pos h0] at e
    rw [h0] at hbF ⊢
    go_wp2
    go_ret
    exact ⟨ret_i64 e.symm, hbF⟩
  · rw [if_neg h0] at e
    have g1 : ((x1.length : Int) == 0) = false := beq_eq_false_iff_ne.2 (by omega)
    cases n1 with
    | true =>
      simp at e
      go_wp2
      go_ret
      exact ⟨ret_i64 e.symm, hbF⟩
    | false =>
      simp at e
      go_wp2
      go_ret
      exact ⟨ret_i64 e.symm, hbF⟩

set_option maxHeartbeats 1000000 in
theorem scmp_any (k l : Nat) (q r : Rat) (v v' : Value) (w : World) (h : Ct w v k q) (h' : Ct w v' l r) (hk : k ≤ 100000) (hl : l ≤ 100000) (hk2 : 2 ≤ k) (hl2 : 2 ≤ l) :
    Calls Tryz.prog 18 #[v, v'] w fun e w' => e = .returned (.int .i64 (sgnQ (q - r))) ∧ Below w.heap.size w w' := by
  have hX := h
  have hY := h'
  obtain ⟨n, xs, ys, ⟨a, c, a', c', rfl, _, _⟩, hz1⟩ := h
  obtain ⟨m, ps, qs, ⟨b, d, b', d', rfl, _, _⟩, hz2⟩ := h'
  clear hz1 hz2
  go_enter Tryz.func18, Tryz.ntmps18
  go_wp2_with fail
  refine (ssub_any k l q r _ _ _ (hX.below (al2 _ _)) (hY.below (al2 _ _)) (by omega) (by omega) hk2 hl2).mono ?_
  rintro e u1 ⟨v1, rfl, hF1, hb1⟩
  obtain ⟨B1, B2, hbW⟩ := after2 hb1
  clear hb1
  go_wp2_with fail
  refine (ssign_any (k + l + 1) _ _ _ hF1.ct (by omega) (by omega)).mono ?_
  rintro e u2 ⟨rfl, hb2⟩
  replace hbW : Below w.heap.size w u2 := hbW.trans (hb2.mono hbW.size)
  go_wp2
  go_ret
  exact ⟨rfl, hbW⟩

/-- Two formed fractions of one number are told to be the same. -/
theorem sameF_any (k l : Nat) (q : Rat) (v v' : Value) (w : World) (h : Fr w v k q) (h' : Fr w v' l q) :
    Calls Tryz.prog 10 #[v, v'] w fun e w' => e = .returned (.bool true) ∧ Below w.heap.size w w' := by
  obtain ⟨n, xs, ys, ⟨a, c, a', c', rfl, hx, hy⟩, f1, _, _, e1⟩ := h
  obtain ⟨m, ps, qs, ⟨b, d, b', d', rfl, hp, hq⟩, f2, _, _, e2⟩ := h'
  refine (same2_any _ _ _ _ _ _ _ _ _ _ _ _ _ _ _ hx hy hp hq).mono ?_
  rintro e u ⟨rfl, hb⟩
  exact ⟨ret_bool (decide_eq_true (Fmd.uniq f1 f2 hx.lim hy.lim hp.lim hq.lim (e1.trans e2.symm))), hb⟩

end Go.Proofs.YtefdkajjdaplbaaGreatDoor
