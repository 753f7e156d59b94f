/-
  ratio.minus, sign, Add, Sub, Mul, Quo, Cmp, Sign: the walks.
-/
import Derived.Test.YtefdkajjdaplbabDoorQ3
namespace Go.Proofs.YtefdkajjdaplbabDoor
open Go.RowKit
set_option linter.unusedSimpArgs false
set_option linter.unusedVariables false

/-- -1, 0, 1. -/
def sgnQ (q : Rat) : Int := if q = 0 then 0 else if q < 0 then -1 else 1

theorem sgn_lo {n : Bool} {xs ys : List Nat} (tx : Tr xs) (hy : V ys ≠ 0) : sgnQ (qv n xs ys) = if xs.length = 0 then 0 else if n = true then -1 else 1 := by
  have h0 : qv n xs ys = 0 ↔ xs.length = 0 := by
    unfold qv
    rw [Rat.mkRat_eq_zero hy]
    refine ⟨fun h => ?_, fun h => ?_⟩
    · have := congrArg Int.natAbs h
      rw [sg_natAbs] at this
      rw [eq_nil_of_V tx this]; rfl
    · rw [List.length_eq_zero_iff.1 h]; exact sg_zero n
  have h1 : xs.length ≠ 0 → (qv n xs ys < 0 ↔ n = true) := by
    intro hx
    have hv : V xs ≠ 0 := V_ne_of tx fun h => hx (by rw [h]; rfl)
    have key : 0 ≤ qv n xs ys ↔ 0 ≤ sg n (V xs) := by
      unfold qv
      rw [← Rat.divInt_ofNat]
      exact Rat.divInt_nonneg_iff_of_pos_right (by omega)
    rw [← Rat.not_le, key]
    cases n <;> simp [sg] <;> omega
  unfold sgnQ
  by_cases hx : xs.length = 0
  · rw [if_pos (h0.2 hx), if_pos hx]
  · rw [if_neg (fun h => hx (h0.1 h)), if_neg hx]
    by_cases hn : n = true
    · rw [if_pos ((h1 hx).2 hn), if_pos hn]
    · rw [if_neg (fun h => hn ((h1 hx).1 h)), if_neg hn]

set_option maxHeartbeats 1000000 in
theorem sign_any (k : Nat) (q : Rat) (v : Value) (w : World) (h : Lo w v k q) (hk : k ≤ 400000000) :
    Calls Tryd.prog 13 #[v] w fun e w' => e = .returned (.int .i64 (sgnQ q)) ∧ Below w.heap.size w w' := by
  obtain ⟨n, xs, ys, ⟨a, c, a', c', rfl, hx, hy⟩, tx, ty, y0, lx, ly, rfl⟩ := h
  have e := sgn_lo (n := n) tx y0
  have k1 : xs.length ≤ 400000000 := by omega
  generalize sgnQ (qv n xs ys) = sq at e
  by_cases h0 : xs.length = 0
  · rw [if_pos h0] at e
    subst e
    rw [h0]
    go_enter Tryd.func13, Tryd.ntmps13
    go_wp2
    go_ret
    exact ⟨rfl, al1 _⟩
  · rw [if_neg h0] at e
    have g1 : ((xs.length : Int) == 0) = false := beq_eq_false_iff_ne.2 (by omega)
    cases n with
    | true =>
      simp at e
      subst e
      go_enter Tryd.func13, Tryd.ntmps13
      go_wp2
      go_ret
      exact ⟨rfl, al1 _⟩
    | false =>
      simp at e
      subst e
      go_enter Tryd.func13, Tryd.ntmps13
      go_wp2
      go_ret
      exact ⟨rfl, al1 _⟩

theorem qv_neg (n : Bool) (xs ys : List Nat) : qv (!n) xs ys = - qv n xs ys := by
  unfold qv
  rw [Rat.neg_mkRat]
  congr 1
  cases n <;> simp [sg]
theorem Lo.neg {w : World} {n : Bool} {xs ys : List Nat} {a a' : Option Addr} {c c' k : Nat} {q : Rat} (hx : Rd w a c xs) (hy : Rd w a' c' ys) (tx : Tr xs) (ty : Tr ys) (y0 : V ys ≠ 0) (lx : xs.length ≤ k) (ly : ys.length ≤ k) (e : qv n xs ys = q) :
    Lo w (.agg #[.bool (!n), .slice a xs.length c, .slice a' ys.length c']) k (-q) := ⟨_, _, _, ⟨_, _, _, _, rfl, hx, hy⟩, tx, ty, y0, lx, ly, by rw [qv_neg, e]⟩

set_option maxHeartbeats 1000000 in
theorem minus_any (k l : Nat) (q r : Rat) (v v' : Value) (w : World) (h : Lo w v k q) (h' : Lo w v' l r) (hk : k ≤ 100000000) (hl : l ≤ 100000000) :
    Calls Tryd.prog 14 #[v, v'] w fun e w' => ∃ v', e = .returned v' ∧ Lo w' v' (k + l + 1) (q - r) ∧ Below w.heap.size w w' := by
  obtain ⟨n, xs, ys, ⟨a, c, a', c', rfl, hx, hy⟩, tx, ty, y0, lx, ly, rfl⟩ := h
  obtain ⟨m, ps, qs, ⟨b, d, b', d', rfl, hp, hq⟩, tp, tq, q0, lp, lq, rfl⟩ := h'
  go_enter Tryd.func14, Tryd.ntmps14
  go_wp2_with fail
  refine (plus_any k l _ _ _ _ _ (Lo.below ⟨_, _, _, ⟨_, _, _, _, rfl, hx, hy⟩, tx, ty, y0, lx, ly, rfl⟩ (al3 _ _ _)) ((Lo.neg hp hq tp tq q0 lp lq rfl).below (al3 _ _ _)) hk hl).mono ?_
  rintro e u1 ⟨v1, rfl, hL, hb1⟩
  obtain ⟨B1, B2, B3, hbW⟩ := after3 hb1
  obtain ⟨q1, q2, q3, q4, q5, q6⟩ := B3.cells
  have hs := B3.lt
  obtain ⟨n1, x1, y1, ⟨b1, d1, b2, d2, rfl, hx', hy'⟩, hL⟩ := hL
  clear hb1
  go_wp2
  refine ret3 (v := .agg #[.bool n1, .slice b1 x1.length d1, .slice b2 y1.length d2]) B3 rfl (fun U hU => by obtain ⟨r1, r2, r3, _⟩ := hU.cells; simp [results, Tryd.results14, go_sem, r1, r2, r3]) (fun U hU hK => ⟨_, rfl, ⟨_, _, _, ⟨_, _, _, _, rfl, hK _ _ _ hx', hK _ _ _ hy'⟩, ?_⟩, hU _ _ hbW (by omega)⟩)
  rw [Rat.sub_eq_add_neg]
  exact hL

end Go.Proofs.YtefdkajjdaplbabDoor
