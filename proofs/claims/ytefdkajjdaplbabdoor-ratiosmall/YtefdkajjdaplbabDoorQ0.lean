/-
  ratio.trimmed, isOne, Formed: the walks.
-/
import Derived.Test.YtefdkajjdaplbabDoorGcd
namespace Go.Proofs.YtefdkajjdaplbabDoor
open Go.RowKit Classical
set_option linter.unusedSimpArgs false
set_option linter.unusedVariables false


/-- A fraction that is formed. -/
def Fmd (n : Bool) (xs ys : List Nat) : Prop := Tr xs ∧ Tr ys ∧ ys ≠ [] ∧ ¬ (n = true ∧ xs = []) ∧ Nat.gcd (V xs) (V ys) = 1

theorem tr_iff {xs : List Nat} (h : xs ≠ []) : Tr xs ↔ xs.getD (xs.length - 1) 0 ≠ 0 := by
  refine ⟨fun t => t.last h, fun h0 => ?_⟩
  have hl : 0 < xs.length := List.length_pos_iff.2 h
  have e := strip_take_some xs (xs.length - 1) (by omega) h0
  rw [show xs.length - 1 + 1 = xs.length by omega, List.take_length] at e
  exact e

theorem V_eq_one {xs : List Nat} (l : Lim xs) (t : Tr xs) : V xs = 1 ↔ xs = [1] := by
  refine ⟨fun h => uniq l (by intro x hx; simp at hx; omega) t (by unfold Tr; rfl) (by rw [h]; rfl), fun h => by rw [h]; rfl⟩

set_option maxHeartbeats 400000 in
theorem trimmed_any (a : Option Addr) (cap : Nat) (xs : List Nat) (w : World) (h : Rd w a cap xs) :
    Calls Tryd.prog 41 #[.slice a xs.length cap] w fun e w' => e = .returned (.bool (decide (Tr xs))) ∧ w = w' := by
  have k1 := h.le
  have k2 := h.cap
  unfold maxLen at k2
  by_cases h0 : xs = []
  · subst h0
    go_enter Tryd.func41, Tryd.ntmps41
    go_wp2
    go_ret
    exact ⟨ret_bool (by simp [tr_nil]), rfl⟩
  · have hl : 0 < xs.length := List.length_pos_iff.2 h0
    obtain ⟨b, off, rfl, hb, hc⟩ := h.fm.at (Below.refl _ _) (xs.length - 1) (by omega)
    obtain ⟨m, hm⟩ : ∃ m, xs.length = m + 1 := ⟨xs.length - 1, by omega⟩
    have ht := tr_iff h0
    rw [hm] at ht hc k1 ⊢
    simp only [Nat.add_sub_cancel] at ht hc
    generalize xs.getD m 0 = z at ht hc
    clear h hl hm
    have g1 : ((m : Int) + 1 == 0) = false := beq_eq_false_iff_ne.2 (by omega)
    have g2 : ((z : Int) != 0) = decide (Tr xs) := by
      by_cases hz : z = 0
      · subst hz; simp [ht]
      · simp [ht, hz]
    go_enter Tryd.func41, Tryd.ntmps41
    go_wp2
    go_ret
    exact ⟨ret_bool (by simp [g1, ht]; try omega), rfl⟩

set_option maxHeartbeats 400000 in
theorem isOne_any (a : Option Addr) (cap : Nat) (xs : List Nat) (w : World) (h : Rd w a cap xs) :
    Calls Tryd.prog 26 #[.slice a xs.length cap] w fun e w' => e = .returned (.bool (decide (xs = [1]))) ∧ w = w' := by
  have k1 := h.le
  have k2 := h.cap
  unfold maxLen at k2
  by_cases h0 : xs.length = 1
  · match xs, h0 with
    | [z], _ =>
      obtain ⟨b, off, rfl, hb, hc⟩ := h.fm.at (Below.refl _ _) 0 (by simp)
      simp at hc
      clear h h0
      simp only [List.length_cons, List.length_nil]
      go_enter Tryd.func26, Tryd.ntmps26
      go_wp2
      go_ret
      exact ⟨ret_bool (by by_cases hz : z = 1 <;> simp [hz]; omega), rfl⟩
  · have hx : xs ≠ [1] := by intro e; rw [e] at h0; simp at h0
    have g1 : ((xs.length : Int) == 1) = false := beq_eq_false_iff_ne.2 (by omega)
    generalize xs.length = m at *
    go_enter Tryd.func26, Tryd.ntmps26
    go_wp2
    go_ret
    exact ⟨ret_bool (by simp [hx, h0]; try omega), rfl⟩

set_option maxHeartbeats 1000000 in
theorem formed_any (n : Bool) (a : Option Addr) (c : Nat) (xs : List Nat) (a' : Option Addr) (c' : Nat) (ys : List Nat) (w : World) (hx : Rd w a c xs) (hy : Rd w a' c' ys) (lx : xs.length ≤ 400000000) (ly : ys.length ≤ 400000000) :
    Calls Tryd.prog 27 #[.agg #[.bool n, .slice a xs.length c, .slice a' ys.length c']] w fun e w' => e = .returned (.bool (decide (Fmd n xs ys))) ∧ Below w.heap.size w w' := by
  go_enter Tryd.func27, Tryd.ntmps27
  go_wp2_with fail
  refine (trimmed_any _ _ _ _ (hx.below ((Below.refl _ _).alloc (Nat.le_refl _) _))).mono ?_
  rintro e u ⟨rfl, rfl⟩
  by_cases tx : Tr xs
  · have e1 : decide (Tr xs) = true := decide_eq_true tx
    rw [e1]
    clear e1
    go_wp2_with fail
    refine (trimmed_any _ _ _ _ (hy.below ((Below.refl _ _).alloc (Nat.le_refl _) _))).mono ?_
    rintro e u ⟨rfl, rfl⟩
    by_cases ty : Tr ys
    · have e1 : decide (Tr ys) = true := decide_eq_true ty
      rw [e1]
      clear e1
      by_cases hy0 : ys = []
      · subst hy0
        go_wp2
        go_ret
        exact ⟨ret_bool (by simp [Fmd]), (Below.refl _ _).alloc (Nat.le_refl _) _⟩
      · have hyl : 0 < ys.length := List.length_pos_iff.2 hy0
        have g1 : ((ys.length : Int) == 0) = false := beq_eq_false_iff_ne.2 (by omega)
        have key : (n = true ∧ xs = []) ∨ ((n = true → xs.length ≠ 0)) := by
          by_cases h1 : n = true ∧ xs = []
          · exact .inl h1
          · exact .inr fun hn h2 => h1 ⟨hn, List.length_eq_zero_iff.1 h2⟩
        rcases key with ⟨rfl, rfl⟩ | h1
        · go_wp2
          go_ret
          exact ⟨ret_bool (by simp [Fmd]), (Below.refl _ _).alloc (Nat.le_refl _) _⟩
        · have fin : ∀ (W : World), Below w.heap.size w W → ∀ a1 c1 (zs : List Nat), Rd W a1 c1 zs → V zs = Nat.gcd (V xs) (V ys) → Tr zs →
              Calls Tryd.prog 26 #[.slice a1 zs.length c1] W fun e w' => e = .returned (.bool (decide (Fmd n xs ys))) ∧ Below w.heap.size w w' := by
            intro W hb a1 c1 zs hr hv ht
            refine (isOne_any _ _ _ _ hr).mono ?_
            rintro e u ⟨rfl, rfl⟩
            refine ⟨ret_bool ?_, hb⟩
            have hiff : zs = [1] ↔ Fmd n xs ys := by
              rw [← V_eq_one hr.lim ht, hv]
              refine ⟨fun h => ⟨tx, ty, hy0, fun ⟨hn, hx0⟩ => h1 hn (by rw [hx0]; rfl), h⟩, fun h => h.2.2.2.2⟩
            by_cases hz : zs = [1] <;> simp [hz, ← hiff]
          cases n with
          | false =>
            go_wp2_with fail
            refine (gcd_any _ _ _ _ _ _ _ (hx.below ((Below.refl _ _).alloc (Nat.le_refl _) _)) (hy.below ((Below.refl _ _).alloc (Nat.le_refl _) _)) lx ly).mono ?_
            rintro e u ⟨a1, c1, zs, rfl, hv, ht, hr, hb⟩
            have hb' : Below w.heap.size w u := ((Below.refl _ _).alloc (Nat.le_refl _) _).trans (hb.mono (by simp))
            go_wp2_with fail
            refine (fin _ hb' _ _ _ hr.rd hv ht).mono ?_
            rintro e u2 ⟨rfl, hb2⟩
            go_wp2
            go_ret
            exact ⟨rfl, hb2⟩
          | true =>
            have g2 : ((xs.length : Int) == 0) = false := beq_eq_false_iff_ne.2 (by have := h1 rfl; omega)
            go_wp2_with fail
            refine (gcd_any _ _ _ _ _ _ _ (hx.below ((Below.refl _ _).alloc (Nat.le_refl _) _)) (hy.below ((Below.refl _ _).alloc (Nat.le_refl _) _)) lx ly).mono ?_
            rintro e u ⟨a1, c1, zs, rfl, hv, ht, hr, hb⟩
            have hb' : Below w.heap.size w u := ((Below.refl _ _).alloc (Nat.le_refl _) _).trans (hb.mono (by simp))
            go_wp2_with fail
            refine (fin _ hb' _ _ _ hr.rd hv ht).mono ?_
            rintro e u2 ⟨rfl, hb2⟩
            go_wp2
            go_ret
            exact ⟨rfl, hb2⟩
    · have e1 : decide (Tr ys) = false := decide_eq_false ty
      rw [e1]
      go_wp2
      go_ret
      exact ⟨ret_bool (by simp [Fmd, ty]), (Below.refl _ _).alloc (Nat.le_refl _) _⟩
  · have e1 : decide (Tr xs) = false := decide_eq_false tx
    rw [e1]
    go_wp2
    go_ret
    exact ⟨ret_bool (by simp [Fmd, tx]), (Below.refl _ _).alloc (Nat.le_refl _) _⟩

end Go.Proofs.YtefdkajjdaplbabDoor
