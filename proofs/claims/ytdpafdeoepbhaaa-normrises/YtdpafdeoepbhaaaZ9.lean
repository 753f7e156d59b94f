/-
  Bends: whether they are formed, what comes of a fraction, that it rises (plain mathematics).
  What is known of a slice of bytes in a world: where it is read (Rb), and where it is a row of the call's own (Rw). Two laws on append. Worlds that are as they were but for some blocks (Keep).
-/
import Derived.Test.YtdpafdeoepbhaaaZ8
import Derived.Test.YtdpafdeoepbhaaaProg
import Derived.WalkKit
import Derived.ProofKit
import Derived.Below
import Derived.Laws.AppendOwnNone
import Derived.Maps.AppendAt
import Derived.Maps.OwnSet
namespace Go.Proofs.Ytdpafdeoepbhaaa
set_option linter.unusedSimpArgs false
set_option linter.unusedVariables false

/-- A pair: its From, its To. -/
abbrev Pr := Int × Int

theorem getP {l : List Pr} {k : Nat} (hk : k < l.length) : l.getD k (0, 0) = l[k] := by simp [List.getD, hk]
theorem getP_mem {l : List Pr} {k : Nat} (hk : k < l.length) : l.getD k (0, 0) ∈ l := by rw [getP hk]; exact List.getElem_mem hk
theorem takeP_succ {l : List Pr} {k : Nat} (hk : k < l.length) : l.take (k + 1) = l.take k ++ [l.getD k (0, 0)] := by rw [List.take_succ_eq_append_getElem hk, getP hk]
theorem memP {l : List Pr} {p : Pr} (h : p ∈ l) : ∃ j, j < l.length ∧ l.getD j (0, 0) = p := by
  obtain ⟨j, hj, e⟩ := List.getElem_of_mem h
  exact ⟨j, hj, by rw [getP hj, e]⟩

/-- Each pair above the one ahead. -/
def RiP (l : List Pr) : Prop := ∀ j, j + 1 < l.length → (l.getD j (0, 0)).1 < (l.getD (j + 1) (0, 0)).1 ∧ (l.getD j (0, 0)).2 ≤ (l.getD (j + 1) (0, 0)).2
theorem RiP.lt {l : List Pr} (h : RiP l) {i j : Nat} (hij : i < j) (hj : j < l.length) : (l.getD i (0, 0)).1 < (l.getD j (0, 0)).1 ∧ (l.getD i (0, 0)).2 ≤ (l.getD j (0, 0)).2 := by
  induction j with
  | zero => omega
  | succ j ih =>
    have h1 := h j hj
    rcases Nat.lt_or_ge i j with h2 | h2
    · have := ih h2 (by omega)
      omega
    · obtain rfl : i = j := by omega
      exact h1
theorem RiP.le {l : List Pr} (h : RiP l) {i j : Nat} (hij : i ≤ j) (hj : j < l.length) : (l.getD i (0, 0)).1 ≤ (l.getD j (0, 0)).1 ∧ (l.getD i (0, 0)).2 ≤ (l.getD j (0, 0)).2 := by
  rcases Nat.lt_or_ge i j with h2 | h2
  · have := h.lt h2 hj
    omega
  · obtain rfl : i = j := by omega
    omega

/-- A bend that has pairs and is formed: from end to end, by 0. -/
def FpP (l : List Pr) : Prop := 0 < l.length ∧ l.length ≤ 16 ∧ l.getD 0 (0, 0) = (-16384, -16384) ∧ l.getD (l.length - 1) (0, 0) = (16384, 16384) ∧ (0, 0) ∈ l ∧ RiP l
/-- A formed bend. -/
def FrP (l : List Pr) : Prop := l.length = 0 ∨ FpP l
def fpP (l : List Pr) : Bool := decide (0 < l.length) && (decide (l.length ≤ 16) && (decide (l.getD 0 (0, 0) = (-16384, -16384)) && (decide (l.getD (l.length - 1) (0, 0) = (16384, 16384)) && (decide ((0, 0) ∈ l) && (List.range (l.length - 1)).all (fun j => decide ((l.getD j (0, 0)).1 < (l.getD (j + 1) (0, 0)).1) && decide ((l.getD j (0, 0)).2 ≤ (l.getD (j + 1) (0, 0)).2))))))
def frP (l : List Pr) : Bool := decide (l.length = 0) || fpP l
theorem fpP_iff {l : List Pr} : fpP l = true ↔ FpP l := by
  unfold fpP FpP RiP
  simp only [Bool.and_eq_true, decide_eq_true_iff, List.all_eq_true, List.mem_range]
  constructor
  · rintro ⟨h1, h2, h3, h4, h5, h6⟩
    exact ⟨h1, h2, h3, h4, h5, fun j hj => h6 j (by omega)⟩
  · rintro ⟨h1, h2, h3, h4, h5, h6⟩
    exact ⟨h1, h2, h3, h4, h5, fun j hj => h6 j (by omega)⟩
theorem frP_iff {l : List Pr} : frP l = true ↔ FrP l := by
  unfold frP FrP
  rw [Bool.or_eq_true, decide_eq_true_iff, fpP_iff]
theorem frP_no {l : List Pr} (h : ¬ FrP l) : frP l = false := by
  rw [Bool.eq_false_iff]
  exact fun e => h (frP_iff.1 e)
theorem frP_len {l : List Pr} (h : frP l = true) : l.length ≤ 16 := by
  rcases frP_iff.1 h with h0 | h0
  · omega
  · exact h0.2.1
theorem FpP.in {l : List Pr} (h : FpP l) {j : Nat} (hj : j < l.length) : -16384 ≤ (l.getD j (0, 0)).1 ∧ (l.getD j (0, 0)).1 ≤ 16384 ∧ -16384 ≤ (l.getD j (0, 0)).2 ∧ (l.getD j (0, 0)).2 ≤ 16384 := by
  obtain ⟨h1, h2, h3, h4, h5, h6⟩ := h
  have a := h6.le (Nat.zero_le j) hj
  have b := h6.le (show j ≤ l.length - 1 by omega) (by omega)
  rw [h3] at a
  rw [h4] at b
  dsimp only at a b
  omega
theorem frP_in {l : List Pr} (h : frP l = true) {j : Nat} (hj : j < l.length) : -16384 ≤ (l.getD j (0, 0)).1 ∧ (l.getD j (0, 0)).1 ≤ 16384 ∧ -16384 ≤ (l.getD j (0, 0)).2 ∧ (l.getD j (0, 0)).2 ≤ 16384 := by
  rcases frP_iff.1 h with h0 | h0
  · omega
  · exact h0.in hj
theorem crd_yes {z : Int} : crd z = true ↔ -16384 ≤ z ∧ z ≤ 16384 := by simp [crd]
/-- As the document says it. -/
def DocP (l : List Pr) : Prop := 3 ≤ l.length ∧ l.length ≤ 16 ∧ (∀ j, j < l.length → crd (l.getD j (0, 0)).1 = true ∧ crd (l.getD j (0, 0)).2 = true) ∧ RiP l ∧ (-16384, -16384) ∈ l ∧ (0, 0) ∈ l ∧ (16384, 16384) ∈ l
theorem FpP.doc {l : List Pr} : FpP l ↔ DocP l := by
  constructor
  · intro h
    have hh := h
    obtain ⟨h1, h2, h3, h4, h5, h6⟩ := h
    refine ⟨?_, h2, fun j hj => ?_, h6, ?_, h5, ?_⟩
    · obtain ⟨j, hj, e⟩ := memP h5
      apply Classical.byContradiction
      intro hc
      have : j = 0 ∨ j = l.length - 1 := by omega
      rcases this with rfl | rfl
      · rw [h3] at e; cases e
      · rw [h4] at e; cases e
    · have := hh.in hj
      exact ⟨crd_yes.2 (by omega), crd_yes.2 (by omega)⟩
    · rw [← h3]; exact getP_mem h1
    · rw [← h4]; exact getP_mem (by omega)
  · rintro ⟨h1, h2, h3, h4, h5, h6, h7⟩
    refine ⟨by omega, h2, ?_, ?_, h6, h4⟩
    · obtain ⟨j, hj, e⟩ := memP h5
      rcases Nat.eq_zero_or_pos j with rfl | h0
      · exact e
      · have a := h4.lt h0 hj
        have b := crd_yes.1 (h3 0 (by omega)).1
        rw [e] at a
        dsimp only at a
        omega
    · obtain ⟨j, hj, e⟩ := memP h7
      by_cases h0 : j = l.length - 1
      · rw [← h0]; exact e
      · have a := h4.lt (show j < l.length - 1 by omega) (by omega)
        have b := crd_yes.1 (h3 (l.length - 1) (by omega)).1
        rw [e] at a
        dsimp only at a
        omega

/-- Between two pairs. -/
def sgP (a b : Pr) (q : Rat) : Rat := ((a.2 : Int) : Rat) / ((16384 : Int) : Rat) + (q - ((a.1 : Int) : Rat) / ((16384 : Int) : Rat)) * (((b.2 - a.2 : Int) : Rat) / ((b.1 - a.1 : Int) : Rat))
def bnP : List Pr → Rat → Rat
  | a :: b :: l, q => if q ≤ ((b.1 : Int) : Rat) / ((16384 : Int) : Rat) then sgP a b q else bnP (b :: l) q
  | _, q => q
/-- What comes of a fraction. -/
def beQ (l : List Pr) (q : Rat) : Rat := if frP l then bnP l (clQ q) else 0

theorem sgP_lo (a b : Pr) : sgP a b (((a.1 : Int) : Rat) / ((16384 : Int) : Rat)) = ((a.2 : Int) : Rat) / ((16384 : Int) : Rat) := by
  unfold sgP
  rw [Rat.sub_self, Rat.zero_mul, Rat.add_zero]
theorem r14_sub (x y : Int) : ((y : Int) : Rat) / ((16384 : Int) : Rat) - ((x : Int) : Rat) / ((16384 : Int) : Rat) = ((y - x : Int) : Rat) / ((16384 : Int) : Rat) := by
  rw [Rat.intCast_sub, Rat.div_def, Rat.div_def, Rat.div_def]
  grind
theorem sgP_hi (a b : Pr) (h : a.1 < b.1) : sgP a b (((b.1 : Int) : Rat) / ((16384 : Int) : Rat)) = ((b.2 : Int) : Rat) / ((16384 : Int) : Rat) := by
  have hp := ri_pos (b := b.1 - a.1) (by omega)
  unfold sgP
  rw [r14_sub]
  have e : ((b.1 - a.1 : Int) : Rat) / ((16384 : Int) : Rat) * (((b.2 - a.2 : Int) : Rat) / ((b.1 - a.1 : Int) : Rat)) = ((b.2 - a.2 : Int) : Rat) / ((16384 : Int) : Rat) := by
    generalize ((b.1 - a.1 : Int) : Rat) = d at *
    have h0 : d ≠ 0 := by grind
    rw [Rat.div_def, Rat.div_def, Rat.div_def]
    have : d * d⁻¹ = 1 := Rat.mul_inv_cancel d h0
    grind
  rw [e, ← r14_sub]
  grind
theorem r14_le {x y : Int} : ((x : Int) : Rat) / ((16384 : Int) : Rat) ≤ ((y : Int) : Rat) / ((16384 : Int) : Rat) ↔ x ≤ y := by
  have hp : (0 : Rat) < ((16384 : Int) : Rat) := ri_pos (by decide)
  rw [← Rat.not_lt, Rat.lt_div_iff hp, Rat.not_lt, Rat.div_mul_cancel (by grind)]
  exact Rat.intCast_le_intCast
theorem r14_lt {x y : Int} : ((x : Int) : Rat) / ((16384 : Int) : Rat) < ((y : Int) : Rat) / ((16384 : Int) : Rat) ↔ x < y := by
  rw [← Rat.not_le, r14_le]; omega
theorem RiP.tail {a : Pr} {l : List Pr} (h : RiP (a :: l)) : RiP l := by
  intro j hj
  have := h (j + 1) (by simp; omega)
  simpa using this
/-- What comes of a fraction, by any two pairs that it lies between. -/
theorem bnP_at : ∀ {l : List Pr} {i : Nat} {q : Rat}, RiP l → i + 1 < l.length → (((l.getD i (0, 0)).1 : Int) : Rat) / ((16384 : Int) : Rat) ≤ q → q ≤ (((l.getD (i + 1) (0, 0)).1 : Int) : Rat) / ((16384 : Int) : Rat) → bnP l q = sgP (l.getD i (0, 0)) (l.getD (i + 1) (0, 0)) q := by
  intro l
  induction l with
  | nil => intro i q _ hi; simp at hi
  | cons a l ih =>
    intro i q hr hi h1 h2
    cases l with
    | nil => simp at hi
    | cons b l =>
      cases i with
      | zero =>
        have h2' : q ≤ ((b.1 : Int) : Rat) / ((16384 : Int) : Rat) := by simpa using h2
        rw [bnP, if_pos h2']
        simp
      | succ i =>
        have h1' : ((((b :: l).getD i (0, 0)).1 : Int) : Rat) / ((16384 : Int) : Rat) ≤ q := by simpa using h1
        have h2' : q ≤ ((((b :: l).getD (i + 1) (0, 0)).1 : Int) : Rat) / ((16384 : Int) : Rat) := by simpa using h2
        have hi' : i + 1 < (b :: l).length := by simp at hi ⊢; omega
        have e := ih hr.tail hi' h1' h2'
        rw [bnP]
        by_cases hq : q ≤ ((b.1 : Int) : Rat) / ((16384 : Int) : Rat)
        · rw [if_pos hq]
          have h3 := Rat.le_trans h1' hq
          rw [r14_le] at h3
          have hi0 : i = 0 := by
            apply Classical.byContradiction
            intro hc
            have := (hr.tail.lt (show 0 < i by omega) (by omega)).1
            simp at this h3
            omega
          subst hi0
          have hqe : q = ((b.1 : Int) : Rat) / ((16384 : Int) : Rat) := Rat.le_antisymm hq (by simpa using h1')
          have hab : a.1 < b.1 := by simpa using (hr 0 (by simp)).1
          subst hqe
          rw [sgP_hi a b hab]
          have := sgP_lo b ((b :: l).getD 1 (0, 0))
          simpa using this.symm
        · rw [if_neg hq, e]
          simp
/-- A fraction from -1 to 1 lies between two pairs. -/
theorem FpP.two {l : List Pr} (h : FpP l) {q : Rat} (h1 : ((-1 : Int) : Rat) ≤ q) (h2 : q ≤ ((1 : Int) : Rat)) : ∃ i, i + 1 < l.length ∧ (((l.getD i (0, 0)).1 : Int) : Rat) / ((16384 : Int) : Rat) ≤ q ∧ q ≤ (((l.getD (i + 1) (0, 0)).1 : Int) : Rat) / ((16384 : Int) : Rat) := by
  obtain ⟨k1, k2, k3, k4, k5, k6⟩ := h
  have hl : 1 < l.length := by
    apply Classical.byContradiction
    intro hc
    have : l.length - 1 = 0 := by omega
    rw [this, k3] at k4
    cases k4
  have hlo : (((l.getD 0 (0, 0)).1 : Int) : Rat) / ((16384 : Int) : Rat) ≤ q := by
    rw [k3]
    exact Rat.le_trans (by decide +kernel) h1
  have hhi : q ≤ (((l.getD (l.length - 1) (0, 0)).1 : Int) : Rat) / ((16384 : Int) : Rat) := by
    rw [k4]
    exact Rat.le_trans h2 (by decide +kernel)
  have : ∀ n, n + 1 < l.length → (∃ i, i + 1 < l.length ∧ (((l.getD i (0, 0)).1 : Int) : Rat) / ((16384 : Int) : Rat) ≤ q ∧ q ≤ (((l.getD (i + 1) (0, 0)).1 : Int) : Rat) / ((16384 : Int) : Rat)) ∨ (((l.getD (n + 1) (0, 0)).1 : Int) : Rat) / ((16384 : Int) : Rat) < q := by
    intro n
    induction n with
    | zero =>
      intro hn
      by_cases hq : q ≤ (((l.getD 1 (0, 0)).1 : Int) : Rat) / ((16384 : Int) : Rat)
      · exact .inl ⟨0, hl, hlo, hq⟩
      · exact .inr (Rat.not_le.1 hq)
    | succ n ih =>
      intro hn
      rcases ih (by omega) with hh | hh
      · exact .inl hh
      · by_cases hq : q ≤ (((l.getD (n + 1 + 1) (0, 0)).1 : Int) : Rat) / ((16384 : Int) : Rat)
        · exact .inl ⟨n + 1, hn, Rat.le_of_lt hh, hq⟩
        · exact .inr (Rat.not_le.1 hq)
  rcases this (l.length - 2) (by omega) with hh | hh
  · exact hh
  · rw [show l.length - 2 + 1 = l.length - 1 by omega] at hh
    exact absurd hhi (Rat.not_le.2 hh)
theorem sgP_mono {a b : Pr} (h1 : a.1 < b.1) (h2 : a.2 ≤ b.2) {q r : Rat} (h : q ≤ r) : sgP a b q ≤ sgP a b r := by
  have hp := ri_pos (b := b.1 - a.1) (by omega)
  have hq := ri_le (a := 0) (b := b.2 - a.2) (by omega)
  have hs : (0 : Rat) ≤ ((b.2 - a.2 : Int) : Rat) / ((b.1 - a.1 : Int) : Rat) := by
    rw [← Rat.not_lt, Rat.div_lt_iff hp, Rat.not_lt, Rat.zero_mul]
    simpa using hq
  unfold sgP
  generalize ((b.2 - a.2 : Int) : Rat) / ((b.1 - a.1 : Int) : Rat) = s at *
  have := Rat.mul_le_mul_of_nonneg_right (a := q - ((a.1 : Int) : Rat) / ((16384 : Int) : Rat)) (b := r - ((a.1 : Int) : Rat) / ((16384 : Int) : Rat)) (by grind) hs
  grind
theorem clQ_bd (q : Rat) : ((-1 : Int) : Rat) ≤ clQ q ∧ clQ q ≤ ((1 : Int) : Rat) := by
  have h : ((-1 : Int) : Rat) ≤ ((1 : Int) : Rat) := ri_le (by decide)
  unfold clQ
  split
  · exact ⟨Rat.le_refl, h⟩
  · split
    · exact ⟨h, Rat.le_refl⟩
    · rename_i h1 h2
      exact ⟨Rat.not_lt.1 h1, Rat.not_lt.1 h2⟩
theorem clQ_mono {q r : Rat} (h : q ≤ r) : clQ q ≤ clQ r := by
  have h0 : ((-1 : Int) : Rat) ≤ ((1 : Int) : Rat) := ri_le (by decide)
  unfold clQ
  repeat' split
  all_goals grind
/-- What comes of a greater fraction isn't less. -/
theorem FpP.mono {l : List Pr} (h : FpP l) {q r : Rat} (h1 : ((-1 : Int) : Rat) ≤ q) (h2 : r ≤ ((1 : Int) : Rat)) (hqr : q ≤ r) : bnP l q ≤ bnP l r := by
  obtain ⟨i, hi, a1, a2⟩ := h.two h1 (Rat.le_trans hqr h2)
  obtain ⟨j, hj, b1, b2⟩ := h.two (Rat.le_trans h1 hqr) h2
  have hr : RiP l := h.2.2.2.2.2
  have ri := hr i hi
  have rj := hr j hj
  rw [bnP_at hr hi a1 a2, bnP_at hr hj b1 b2]
  rcases Nat.lt_trichotomy i j with h3 | rfl | h3
  · have c1 := sgP_mono ri.1 ri.2 a2
    rw [sgP_hi _ _ ri.1] at c1
    have c2 := sgP_mono rj.1 rj.2 b1
    rw [sgP_lo] at c2
    have c3 := (hr.le (show i + 1 ≤ j by omega) (by omega)).2
    exact Rat.le_trans c1 (Rat.le_trans (r14_le.2 c3) c2)
  · exact sgP_mono ri.1 ri.2 hqr
  · have c3 := (hr.le (show j + 1 ≤ i by omega) (by omega)).1
    have e1 := Rat.le_trans b2 (Rat.le_trans (r14_le.2 c3) a1)
    have e : q = r := Rat.le_antisymm hqr e1
    subst e
    rw [← bnP_at hr hi a1 a2, ← bnP_at hr hj b1 b2]
    exact Rat.le_refl
/-- At each From it is the To. -/
theorem FpP.at {l : List Pr} (h : FpP l) {j : Nat} (hj : j < l.length) : bnP l ((((l.getD j (0, 0)).1 : Int) : Rat) / ((16384 : Int) : Rat)) = (((l.getD j (0, 0)).2 : Int) : Rat) / ((16384 : Int) : Rat) := by
  have hr : RiP l := h.2.2.2.2.2
  have h3 := (FpP.doc.1 h).1
  rcases Nat.eq_zero_or_pos j with rfl | h0
  · rw [bnP_at (i := 0) hr (by omega) Rat.le_refl (r14_le.2 (by have := (hr 0 (by omega)).1; omega)), sgP_lo]
  · obtain ⟨i, rfl⟩ : ∃ i, j = i + 1 := ⟨j - 1, by omega⟩
    rw [bnP_at (i := i) hr hj (r14_le.2 (by have := (hr i hj).1; omega)) Rat.le_refl, sgP_hi _ _ (hr i hj).1]
theorem FpP.ends {l : List Pr} (h : FpP l) : bnP l ((-1 : Int) : Rat) = ((-1 : Int) : Rat) ∧ bnP l ((1 : Int) : Rat) = ((1 : Int) : Rat) := by
  have e1 := h.at h.1
  have e2 := h.at (j := l.length - 1) (by have := h.1; omega)
  rw [h.2.2.1] at e1
  rw [h.2.2.2.1] at e2
  have n1 : ((-16384 : Int) : Rat) / ((16384 : Int) : Rat) = ((-1 : Int) : Rat) := by decide +kernel
  have n2 : ((16384 : Int) : Rat) / ((16384 : Int) : Rat) = ((1 : Int) : Rat) := by decide +kernel
  dsimp only at e1 e2
  rw [n1] at e1
  rw [n2] at e2
  exact ⟨e1, e2⟩
theorem bnP_nil (q : Rat) : bnP [] q = q := rfl
/-- The whole of it: monotone, from -1 to 1, the ends and 0 stay. -/
theorem beQ_mono {l : List Pr} (h : frP l = true) {q r : Rat} (hqr : q ≤ r) : beQ l q ≤ beQ l r := by
  rw [beQ, beQ, if_pos h, if_pos h]
  have c := clQ_mono hqr
  rcases frP_iff.1 h with h0 | h0
  · obtain rfl := List.length_eq_zero_iff.1 h0
    exact c
  · exact h0.mono (clQ_bd q).1 (clQ_bd r).2 c
theorem beQ_in {l : List Pr} (h : frP l = true) (q : Rat) : ((-1 : Int) : Rat) ≤ beQ l q ∧ beQ l q ≤ ((1 : Int) : Rat) := by
  rw [beQ, if_pos h]
  have c := clQ_bd q
  rcases frP_iff.1 h with h0 | h0
  · obtain rfl := List.length_eq_zero_iff.1 h0
    exact c
  · have e := h0.ends
    have hh : ((-1 : Int) : Rat) ≤ ((1 : Int) : Rat) := ri_le (by decide)
    constructor
    · have := h0.mono Rat.le_refl c.2 c.1
      rwa [e.1] at this
    · have := h0.mono c.1 Rat.le_refl c.2
      rwa [e.2] at this
theorem beQ_one {l : List Pr} (h : frP l = true) : beQ l ((1 : Int) : Rat) = ((1 : Int) : Rat) := by
  rw [beQ, if_pos h, clQ_in (ri_le (by decide)) Rat.le_refl]
  rcases frP_iff.1 h with h0 | h0
  · obtain rfl := List.length_eq_zero_iff.1 h0
    rfl
  · exact h0.ends.2
theorem beQ_zero {l : List Pr} (h : frP l = true) : beQ l ((0 : Int) : Rat) = 0 := by
  rw [beQ, if_pos h, clQ_in (ri_le (by decide)) (ri_le (by decide))]
  rcases frP_iff.1 h with h0 | h0
  · obtain rfl := List.length_eq_zero_iff.1 h0
    rfl
  · obtain ⟨j, hj, e⟩ := memP h0.2.2.2.2.1
    have := h0.at hj
    rw [e] at this
    have n1 : ((0 : Int) : Rat) / ((16384 : Int) : Rat) = ((0 : Int) : Rat) := by decide +kernel
    dsimp only at this
    rw [n1] at this
    exact this
theorem r14_in {z : Int} (h1 : -16384 ≤ z) (h2 : z ≤ 16384) : ((-1 : Int) : Rat) ≤ ((z : Int) : Rat) / ((16384 : Int) : Rat) ∧ ((z : Int) : Rat) / ((16384 : Int) : Rat) ≤ ((1 : Int) : Rat) := by
  have n1 : ((-16384 : Int) : Rat) / ((16384 : Int) : Rat) = ((-1 : Int) : Rat) := by decide +kernel
  have n2 : ((16384 : Int) : Rat) / ((16384 : Int) : Rat) = ((1 : Int) : Rat) := by decide +kernel
  rw [← n1, ← n2]
  exact ⟨r14_le.2 h1, r14_le.2 h2⟩
theorem beQ_at {l : List Pr} (h : frP l = true) {j : Nat} (hj : j < l.length) : beQ l ((((l.getD j (0, 0)).1 : Int) : Rat) / ((16384 : Int) : Rat)) = (((l.getD j (0, 0)).2 : Int) : Rat) / ((16384 : Int) : Rat) := by
  rcases frP_iff.1 h with h0 | h0
  · omega
  · have := h0.in hj
    have c := r14_in (z := (l.getD j (0, 0)).1) (by omega) (by omega)
    rw [beQ, if_pos h, clQ_in c.1 c.2]
    exact h0.at hj
/-- Half way. -/
theorem sgP_mid (a b : Pr) (h : a.1 < b.1) : sgP a b (((a.1 + b.1 : Int) : Rat) / ((32768 : Int) : Rat)) = ((a.2 + b.2 : Int) : Rat) / ((32768 : Int) : Rat) := by
  have hp := ri_pos (b := b.1 - a.1) (by omega)
  unfold sgP
  have e0 : ∀ x y : Int, ((x + y : Int) : Rat) / ((32768 : Int) : Rat) - ((x : Int) : Rat) / ((16384 : Int) : Rat) = ((y - x : Int) : Rat) / ((32768 : Int) : Rat) := by
    intro x y
    have n1 : ((16384 : Int) : Rat)⁻¹ = 2 * ((32768 : Int) : Rat)⁻¹ := by decide +kernel
    rw [Rat.div_def, Rat.div_def, Rat.div_def, n1, Rat.intCast_add, Rat.intCast_sub]
    grind
  rw [e0]
  have e : ((b.1 - a.1 : Int) : Rat) / ((32768 : Int) : Rat) * (((b.2 - a.2 : Int) : Rat) / ((b.1 - a.1 : Int) : Rat)) = ((b.2 - a.2 : Int) : Rat) / ((32768 : Int) : Rat) := by
    generalize ((b.1 - a.1 : Int) : Rat) = d at *
    have h0 : d ≠ 0 := by grind
    rw [Rat.div_def, Rat.div_def, Rat.div_def]
    have : d * d⁻¹ = 1 := Rat.mul_inv_cancel d h0
    grind
  rw [e, ← e0]
  grind
theorem r15_le {x y : Int} : ((x : Int) : Rat) / ((16384 : Int) : Rat) ≤ ((y : Int) : Rat) / ((32768 : Int) : Rat) ↔ 2 * x ≤ y := by
  have hp : (0 : Rat) < ((32768 : Int) : Rat) := ri_pos (by decide)
  have n1 : ((16384 : Int) : Rat)⁻¹ = 2 * ((32768 : Int) : Rat)⁻¹ := by decide +kernel
  have e : ((x : Int) : Rat) / ((16384 : Int) : Rat) = ((2 * x : Int) : Rat) / ((32768 : Int) : Rat) := by
    rw [Rat.div_def, Rat.div_def, n1, Rat.intCast_mul]
    have : ((2 : Int) : Rat) = 2 := rfl
    rw [this]
    grind
  rw [e, ← Rat.not_lt, Rat.lt_div_iff hp, Rat.not_lt, Rat.div_mul_cancel (by grind)]
  exact Rat.intCast_le_intCast
theorem r15_ge {x y : Int} : ((y : Int) : Rat) / ((32768 : Int) : Rat) ≤ ((x : Int) : Rat) / ((16384 : Int) : Rat) ↔ y ≤ 2 * x := by
  have hp : (0 : Rat) < ((32768 : Int) : Rat) := ri_pos (by decide)
  have n1 : ((16384 : Int) : Rat)⁻¹ = 2 * ((32768 : Int) : Rat)⁻¹ := by decide +kernel
  have e : ((x : Int) : Rat) / ((16384 : Int) : Rat) = ((2 * x : Int) : Rat) / ((32768 : Int) : Rat) := by
    rw [Rat.div_def, Rat.div_def, n1, Rat.intCast_mul]
    have : ((2 : Int) : Rat) = 2 := rfl
    rw [this]
    grind
  rw [e, ← Rat.not_lt, Rat.lt_div_iff hp, Rat.not_lt, Rat.div_mul_cancel (by grind)]
  exact Rat.intCast_le_intCast
theorem beQ_mid {l : List Pr} (h : frP l = true) {j : Nat} (hj : j + 1 < l.length) : beQ l (((((l.getD j (0, 0)).1 + (l.getD (j + 1) (0, 0)).1 : Int)) : Rat) / ((32768 : Int) : Rat)) = ((((l.getD j (0, 0)).2 + (l.getD (j + 1) (0, 0)).2 : Int)) : Rat) / ((32768 : Int) : Rat) := by
  rcases frP_iff.1 h with h0 | h0
  · omega
  · have a := h0.in (j := j) (by omega)
    have b := h0.in hj
    have hr : RiP l := h0.2.2.2.2.2
    have r := hr j hj
    have c1 : (((l.getD j (0, 0)).1 : Int) : Rat) / ((16384 : Int) : Rat) ≤ (((l.getD j (0, 0)).1 + (l.getD (j + 1) (0, 0)).1 : Int) : Rat) / ((32768 : Int) : Rat) := r15_le.2 (by omega)
    have c2 : (((l.getD j (0, 0)).1 + (l.getD (j + 1) (0, 0)).1 : Int) : Rat) / ((32768 : Int) : Rat) ≤ (((l.getD (j + 1) (0, 0)).1 : Int) : Rat) / ((16384 : Int) : Rat) := r15_ge.2 (by omega)
    rw [beQ, if_pos h, clQ_in (Rat.le_trans (r14_in a.1 a.2.1).1 c1) (Rat.le_trans c2 (r14_in b.1 b.2.1).2), bnP_at hr hj c1 c2, sgP_mid _ _ r.1]
/-- A plain bend. -/
def plB (l : List Pr) : Bool := frP l && l.all (fun p => decide (p.1 = p.2))
theorem plB_at {l : List Pr} (h : plB l = true) {j : Nat} (hj : j < l.length) : (l.getD j (0, 0)).1 = (l.getD j (0, 0)).2 := by
  rw [plB, Bool.and_eq_true, List.all_eq_true] at h
  simpa using h.2 _ (getP_mem hj)
theorem sgP_same {a b : Pr} (h : a.1 < b.1) (ha : a.1 = a.2) (hb : b.1 = b.2) (q : Rat) : sgP a b q = q := by
  have hp := ri_pos (b := b.1 - a.1) (by omega)
  unfold sgP
  rw [← ha, ← hb]
  generalize ((b.1 - a.1 : Int) : Rat) = d at *
  have h0 : d ≠ 0 := by grind
  have : d / d = 1 := by rw [Rat.div_def]; exact Rat.mul_inv_cancel d h0
  rw [this]
  grind
theorem beQ_plain {l : List Pr} (h : plB l = true) {q : Rat} (h1 : ((-1 : Int) : Rat) ≤ q) (h2 : q ≤ ((1 : Int) : Rat)) : beQ l q = q := by
  have hf : frP l = true := by rw [plB, Bool.and_eq_true] at h; exact h.1
  rw [beQ, if_pos hf, clQ_in h1 h2]
  rcases frP_iff.1 hf with h0 | h0
  · obtain rfl := List.length_eq_zero_iff.1 h0
    rfl
  · obtain ⟨i, hi, a1, a2⟩ := h0.two h1 h2
    have hr : RiP l := h0.2.2.2.2.2
    rw [bnP_at hr hi a1 a2, sgP_same (hr i hi).1 (plB_at h (by omega)) (plB_at h hi)]
theorem beQ_nil {q : Rat} (h1 : ((-1 : Int) : Rat) ≤ q) (h2 : q ≤ ((1 : Int) : Rat)) : beQ [] q = q := beQ_plain (l := []) rfl h1 h2

end Go.Proofs.Ytdpafdeoepbhaaa

namespace Go.Proofs.Ytdpafdeoepbhaaa
open Go.RowKit
set_option linter.unusedSimpArgs false
set_option linter.unusedVariables false


/-- Every number is a byte. -/
def Byt (xs : List Nat) : Prop := ∀ x ∈ xs, x < 256
theorem Byt.cons {x : Nat} {xs : List Nat} (h : Byt (x :: xs)) : x < 256 ∧ Byt xs := ⟨h x (by simp), fun y hy => h y (by simp [hy])⟩
theorem Byt.mk {x : Nat} {xs : List Nat} (hx : x < 256) (h : Byt xs) : Byt (x :: xs) := by
  intro y hy; rcases List.mem_cons.1 hy with rfl | hy
  · exact hx
  · exact h y hy
theorem Byt.nil : Byt [] := by intro x hx; cases hx
theorem Byt.append {xs ys : List Nat} (h : Byt xs) (k : Byt ys) : Byt (xs ++ ys) := by
  intro x hx; rcases List.mem_append.1 hx with hx | hx
  · exact h x hx
  · exact k x hx
theorem Byt.take {xs : List Nat} (h : Byt xs) (n : Nat) : Byt (xs.take n) := fun x hx => h x (List.mem_of_mem_take hx)
theorem Byt.drop {xs : List Nat} (h : Byt xs) (n : Nat) : Byt (xs.drop n) := fun x hx => h x (List.mem_of_mem_drop hx)
theorem Byt.getD {xs : List Nat} (h : Byt xs) (i : Nat) : xs.getD i 0 < 256 := by
  rw [List.getD_eq_getElem?_getD]
  by_cases hi : i < xs.length
  · rw [List.getElem?_eq_getElem hi]; exact h _ (List.getElem_mem hi)
  · rw [List.getElem?_eq_none (by omega)]; decide

/-- A byte as a value. -/
def Y (n : Nat) : Value := .int .u8 (n : Int)

/-- A slice of bytes: its address and capacity, and the bytes that are read there. -/
def Rb (w : World) (a : Option Addr) (cap : Nat) (xs : List Nat) : Prop :=
  Byt xs ∧ xs.length ≤ cap ∧ cap ≤ maxLen ∧ (a = none → cap = 0) ∧
  (xs = [] ∨ ∃ b off, a = some ⟨b, off, none⟩ ∧ b < w.heap.size ∧ ∀ i, i < xs.length → w.cell? ⟨b, off + i, none⟩ = some (.int .u8 (xs.getD i 0 : Nat)))

theorem Rb.lim {w : World} {a : Option Addr} {cap : Nat} {xs : List Nat} (h : Rb w a cap xs) : Byt xs := h.1
theorem Rb.le {w : World} {a : Option Addr} {cap : Nat} {xs : List Nat} (h : Rb w a cap xs) : xs.length ≤ cap := h.2.1
theorem Rb.cap {w : World} {a : Option Addr} {cap : Nat} {xs : List Nat} (h : Rb w a cap xs) : cap ≤ maxLen := h.2.2.1

/-- Where the bytes lie (a plain name, which no walk looks behind). -/
def Fb (w : World) (a : Option Addr) (xs : List Nat) : Prop :=
  xs = [] ∨ ∃ b off, a = some ⟨b, off, none⟩ ∧ b < w.heap.size ∧ ∀ i, i < xs.length → w.cell? ⟨b, off + i, none⟩ = some (.int .u8 (xs.getD i 0 : Nat))

theorem Rb.fm {w : World} {a : Option Addr} {cap : Nat} {xs : List Nat} (h : Rb w a cap xs) : Fb w a xs := h.2.2.2.2

theorem Fb.at {w wr : World} {a : Option Addr} {xs : List Nat} (h : Fb w a xs) (hb : Below w.heap.size w wr) (k : Nat) (hk : k < xs.length) :
    ∃ b off, a = some ⟨b, off, none⟩ ∧ b < w.heap.size ∧ wr.cell? ⟨b, off + k, none⟩ = some (.int .u8 (xs.getD k 0 : Nat)) := by
  rcases h with rfl | ⟨b, off, h1, h2, h3⟩
  · simp at hk
  · exact ⟨b, off, h1, h2, (hb.cell (p := ⟨b, off + k, none⟩) h2).trans (h3 k hk)⟩

theorem Rb.keep {w w' : World} {a : Option Addr} {cap : Nat} {xs : List Nat} (h : Rb w a cap xs) (hs : w.heap.size ≤ w'.heap.size)
    (hb : ∀ b, b < w.heap.size → (∃ o, a = some ⟨b, o, none⟩) → w'.heap[b]? = w.heap[b]?) : Rb w' a cap xs := by
  obtain ⟨h1, h2, h3, h5, h4⟩ := h
  refine ⟨h1, h2, h3, h5, ?_⟩
  rcases h4 with h4 | ⟨b, off, e, hb1, hc⟩
  · exact .inl h4
  · exact .inr ⟨b, off, e, Nat.lt_of_lt_of_le hb1 hs, fun i hi => (World.cell?_of_block (w := w) (a := ⟨b, off + i, none⟩) (hb b hb1 ⟨off, e⟩)).trans (hc i hi)⟩

theorem Rb.below {w w' : World} {a : Option Addr} {cap : Nat} {xs : List Nat} (h : Rb w a cap xs) (hb : Below w.heap.size w w') : Rb w' a cap xs :=
  h.keep hb.size fun b hb1 _ => hb.block b hb1

theorem Rb.take {w : World} {a : Option Addr} {cap : Nat} {xs : List Nat} (h : Rb w a cap xs) (n : Nat) : Rb w a cap (xs.take n) := by
  obtain ⟨h1, h2, h3, h5, h4⟩ := h
  refine ⟨h1.take n, by simp; omega, h3, h5, ?_⟩
  rcases h4 with rfl | ⟨b, off, e, hb1, hc⟩
  · exact .inl (by simp)
  · refine .inr ⟨b, off, e, hb1, fun i hi => ?_⟩
    simp at hi
    rw [hc i (by omega)]
    simp [List.getD, show i < n by omega]

theorem Rb.nil (w : World) (a : Option Addr) (cap : Nat) (h : cap ≤ maxLen) (h0 : a = none → cap = 0) : Rb w a cap [] := ⟨Byt.nil, Nat.zero_le _, h, h0, .inl rfl⟩

/-- A row of the call's own. -/
def Rw (e : TypeId) (base : Nat) (w : World) (a : Option Addr) (cap : Nat) (xs : List Nat) : Prop :=
  Byt xs ∧ w.ownsRow base e 1 (.slice a xs.length cap) xs.length (xs.map Y)

theorem Rw.lim {e : TypeId} {base : Nat} {w : World} {a : Option Addr} {cap : Nat} {xs : List Nat} (h : Rw e base w a cap xs) : Byt xs := h.1

theorem Rw.rd {e : TypeId} {base : Nat} {w : World} {a : Option Addr} {cap : Nat} {xs : List Nat} (h : Rw e base w a cap xs) : Rb w a cap xs := by
  obtain ⟨hl, h⟩ := h
  rcases h.2 with ⟨hv, h0⟩ | ⟨g, cap', cur, hv, hb, hg, hc1, hc2, hc3, ht⟩
  · have : xs = [] := List.length_eq_zero_iff.1 h0
    subst this
    simp at hv
    exact Rb.nil _ _ _ (by rw [hv.2]; exact Nat.zero_le _) (fun _ => hv.2)
  · simp at hv
    obtain ⟨rfl, rfl⟩ := hv
    refine ⟨hl, hc1, hc2, (by simp), .inr ⟨g, 0, rfl, (Array.getElem?_eq_some_iff.1 hg).1, fun i hi => ?_⟩⟩
    have := h.cells (g := g) rfl i (Y (xs.getD i 0)) (by simp [List.getD, hi])
    have hadd : (⟨g, 0, none⟩ : Addr).add i = ⟨g, 0 + i, none⟩ := by unfold Addr.add; split <;> simp_all
    rw [hadd] at this; exact this

theorem ownsRow_monoB {w : World} {base base' : Nat} {e : TypeId} {size : Nat} {v : Value} {n : Nat} {xs : List Value} (h : w.ownsRow base e size v n xs) (hb : base' ≤ base) : w.ownsRow base' e size v n xs := by
  refine ⟨h.1, ?_⟩
  rcases h.2 with h0 | ⟨g, cap, cur, h1, h2, h3⟩
  · exact .inl h0
  · exact .inr ⟨g, cap, cur, h1, Nat.le_trans hb h2, h3⟩

theorem Rw.mono {e : TypeId} {base base' : Nat} {w : World} {a : Option Addr} {cap : Nat} {xs : List Nat} (h : Rw e base w a cap xs) (hb : base' ≤ base) : Rw e base' w a cap xs := ⟨h.1, ownsRow_monoB h.2 hb⟩

theorem Rw.below {e : TypeId} {base : Nat} {w w' : World} {a : Option Addr} {cap : Nat} {xs : List Nat} (h : Rw e base w a cap xs) (hb : Below w.heap.size w w') : Rw e base w' a cap xs := by
  refine ⟨h.1, h.2.1, ?_⟩
  rcases h.2.2 with h0 | ⟨g, cap', cur, h1, h2, h3, h4⟩
  · exact .inl h0
  · exact .inr ⟨g, cap', cur, h1, h2, (hb.block g (Array.getElem?_eq_some_iff.1 h3).1).trans h3, h4⟩

/-- Out of what append leaves. -/
theorem Rw.of {e : TypeId} {base : Nat} {w : World} {v : Value} {n : Nat} {xs : List Nat} (hl : Byt xs) (h : w.ownsRow base e 1 v n (xs.map Y)) : ∃ a cap, v = .slice a xs.length cap ∧ Rw e base w a cap xs := by
  have hn : n = xs.length := by have := h.1; simp at this; omega
  subst hn
  rcases h.2 with ⟨hv, h0⟩ | ⟨g, cap, cur, hv, _⟩
  · exact ⟨none, 0, by rw [hv, h0], hl, by rw [h0] at h ⊢; rw [hv] at h; exact h⟩
  · subst hv; exact ⟨_, cap, rfl, hl, h⟩

/-- A view of a block that is known whole. -/
theorem rb_block {w : World} {g : Nat} {zs : List Nat} {e : TypeId} (h : w.heap[g]? = some (.cells (zs.map Y).toArray e (0, 0))) (hl : Byt zs) (off n cap : Nat) (h1 : off + n ≤ zs.length) (h2 : n ≤ cap) (h3 : cap ≤ maxLen) :
    Rb w (some ⟨g, off, none⟩) cap ((zs.drop off).take n) := by
  refine ⟨(hl.drop off).take n, by simp; omega, h3, (by simp), .inr ⟨g, off, rfl, (Array.getElem?_eq_some_iff.1 h).1, fun i hi => ?_⟩⟩
  simp at hi
  rw [cell_of_row w g (off + i) _ e (0, 0) h]
  simp [List.getD, Y, show off + i < zs.length by omega, show i < n by omega]

theorem rb_new (w : World) (e : TypeId) (zs : List Nat) (cs : Array Value) (hc : cs = (zs.map Y).toArray) (hl : Byt zs) (hm : zs.length ≤ maxLen) : Rb (w.alloc (.cells cs e)) (some ⟨w.heap.size, 0, none⟩) zs.length zs := by
  subst hc
  have := rb_block (heap_alloc_new w (.cells (zs.map Y).toArray e)) hl 0 zs.length zs.length (by omega) (Nat.le_refl _) hm
  simpa using this

/-- What append leaves, in the walk's own spelling. -/
theorem own_snocB {w : World} {base : Nat} {e : TypeId} {v : Value} {n z : Nat} {zs : List Nat} (h : w.ownsRow base e 1 v n (List.map Y zs ++ [Y z])) : w.ownsRow base e 1 v n ((zs ++ [z]).map Y) := by
  rw [List.map_append]; exact h

theorem oneCell_Y (xs : List Nat) : ∀ u ∈ xs.map Y, u.oneCell' = true := by
  intro u hu
  obtain ⟨x, _, rfl⟩ := List.mem_map.1 hu
  rfl

section
variable {P : Program} {w : World} {ops : Array Oper} {rest : List Oper} {o : Oper} {a : Act} {Q : Exit → Act → World → Prop}

/-- 'append(out, src...)': src is read, out is the call's own. -/
theorem wpList_append_rb (hgd : o.guard = none) (s x : Operand) (t : TypeId) (ho : o.op = .call { callee := .builtin .append, args := #[s, x], argTypes := #[t, t] })
    (base : Nat) (e : TypeId) (i : TypeInfo) (ht : P.underlying t = some (.slice e)) (hi : P.info? e = some i) (hz : i.zero = some (.int .u8 0)) (hsize : i.size = 1) (hby : i.bytes = 1)
    (v : Value) (n : Nat) (ys : List Nat) (hs : a.eval s = v) (hown : w.ownsRow base e 1 v n (ys.map Y))
    (ad : Option Addr) (c m : Nat) (zs : List Nat) (hx : a.eval x = .slice ad m c) (hm : m = zs.length) (hrd : Rb w ad c zs) (hlen : n + zs.length ≤ 2000000000) (hbase : base ≤ w.heap.size)
    (h : ∀ v' w', w'.ownsRow base e 1 v' (n + zs.length) ((ys ++ zs).map Y) → w.grownBy w' v.ownBlock → (v'.ownBlock = v.ownBlock ∨ v'.ownBlock = some w.heap.size) → wpList P ops Q rest (a.put o.dst v') w') : wpList P ops Q (o :: rest) a w := by
  subst hm
  cases ad with
  | none =>
    have hc : c = 0 := hrd.2.2.2.1 rfl
    have hzs : zs = [] := by
      rcases hrd.2.2.2.2 with h0 | ⟨b, off, e', _⟩
      · exact h0
      · cases e'
    subst hzs; subst hc
    refine wpList_append_own_none hgd s x t ho base e i 1 ht hi v n (ys.map Y) hs hown hx (h v w (by simpa using hown) (World.grownBy.refl w _) (.inl rfl))
  | some ad =>
    refine wpList_append_own_at w hgd s x t ho base e i (.int .u8 0) 1 1 ht hi hz hsize hby rfl (by decide) v n (ys.map Y) hs hown ad zs.length c (zs.map Y) hx (by simp) ?_ (oneCell_Y zs) (by unfold maxLen; omega) (by omega) hbase ?_
    · intro j u hj
      rcases hrd.2.2.2.2 with rfl | ⟨b, off, e', hb, hc⟩
      · simp at hj
      · simp at e'; subst e'
        have hjl : j < zs.length := by
          rcases Nat.lt_or_ge j zs.length with h1 | h1
          · exact h1
          · rw [List.getElem?_eq_none (by simpa using h1)] at hj; cases hj
        have hadd : (⟨b, off, none⟩ : Addr).add j = ⟨b, off + j, none⟩ := by unfold Addr.add; split <;> simp_all
        rw [hadd, hc j hjl]
        rw [List.getElem?_map, List.getElem?_eq_getElem hjl] at hj
        simp at hj; rw [← hj]; simp [List.getD, hjl, Y]
    · intro v' w' h1 h2 _ h3
      exact h v' w' (by rw [List.map_append]; exact h1) h2 h3

/-- 'append(out, x)': x is laid in a block of its own first. -/
theorem wpList_append_oneB (hgd : o.guard = none) (s x : Operand) (t : TypeId) (ho : o.op = .call { callee := .builtin .append, args := #[s, x], argTypes := #[t, t] })
    (base : Nat) (e : TypeId) (i : TypeInfo) (ht : P.underlying t = some (.slice e)) (hi : P.info? e = some i) (hz : i.zero = some (.int .u8 0)) (hsize : i.size = 1) (hby : i.bytes = 1)
    (v : Value) (n : Nat) (ys : List Nat) (hs : a.eval s = v) (hown : w.ownsRow base e 1 v n (ys.map Y))
    (g z : Nat) (hx : a.eval x = .slice (some ⟨g, 0, none⟩) 1 1) (hc : w.cell? ⟨g, 0, none⟩ = some (.int .u8 (z : Int))) (hlen : n + 1 ≤ 2000000000) (hbase : base ≤ w.heap.size)
    (h : ∀ v' w', w'.ownsRow base e 1 v' (n + 1) ((ys ++ [z]).map Y) → w.grownBy w' v.ownBlock → (v'.ownBlock = v.ownBlock ∨ v'.ownBlock = some w.heap.size) → wpList P ops Q rest (a.put o.dst v') w') : wpList P ops Q (o :: rest) a w := by
  refine wpList_append_own_at w hgd s x t ho base e i (.int .u8 0) 1 1 ht hi hz hsize hby rfl (by decide) v n (ys.map Y) hs hown ⟨g, 0, none⟩ 1 1 [Y z] hx rfl ?_ (oneCell_Y [z]) (by unfold maxLen; omega) (by omega) hbase ?_
  · intro j u hj
    match j, hj with
    | 0, hj => simp at hj; subst hj; simpa [Addr.add, Y] using hc
  · intro v' w' h1 h2 _ h3
    exact h v' w' (by rw [List.map_append]; exact h1) h2 h3
end

/-- The blocks of G are as they were, and so are the streams; no block has gone. -/
structure Keep (G : Nat → Prop) (w w' : World) : Prop where
  os : w'.os = w.os
  tape : w'.tape = w.tape
  output : w'.output = w.output
  size : w.heap.size ≤ w'.heap.size
  block : ∀ k, G k → w'.heap[k]? = w.heap[k]?

theorem Keep.refl (G : Nat → Prop) (w : World) : Keep G w w := ⟨rfl, rfl, rfl, Nat.le_refl _, fun _ _ => rfl⟩
theorem Keep.trans {G : Nat → Prop} {a b c : World} (h : Keep G a b) (k : Keep G b c) : Keep G a c :=
  ⟨k.os.trans h.os, k.tape.trans h.tape, k.output.trans h.output, Nat.le_trans h.size k.size, fun i hi => (k.block i hi).trans (h.block i hi)⟩
theorem Keep.mono {G G' : Nat → Prop} {w w' : World} (h : Keep G w w') (hG : ∀ k, G' k → G k) : Keep G' w w' := ⟨h.os, h.tape, h.output, h.size, fun k hk => h.block k (hG k hk)⟩
theorem Keep.of_below {G : Nat → Prop} {w w' : World} {B : Nat} (h : Below B w w') (hG : ∀ k, G k → k < B) : Keep G w w' := ⟨h.os, h.tape, h.output, h.size, fun k hk => h.block k (hG k hk)⟩
theorem Keep.below {G : Nat → Prop} {w w' : World} {B : Nat} (h : Keep G w w') (hG : ∀ k, k < B → G k) : Below B w w' := ⟨h.os, h.tape, h.output, h.size, fun k hk => h.block k (hG k hk)⟩
theorem Keep.alloc {G : Nat → Prop} {a w : World} (h : Keep G a w) (hG : ∀ k, G k → k < w.heap.size) (o : Obj) : Keep G a (w.alloc o) :=
  h.trans (Keep.of_below ((Below.refl w.heap.size w).alloc (Nat.le_refl _) o) hG)
theorem Keep.setCell {G : Nat → Prop} {a w : World} (h : Keep G a w) {p : Addr} (hp : ¬ G p.block) (u : Value) : Keep G a (w.setCell p u) :=
  h.trans ⟨rfl, rfl, rfl, by simp [World.setCell], fun k hk => Below.heap_setCell _ _ _ _ (fun e => hp (e ▸ hk))⟩
theorem Keep.grown {G : Nat → Prop} {a w w' : World} {row : Option Nat} (h : Keep G a w) (hg : w.grownBy w' row) (hG : ∀ k, G k → k < w.heap.size) (hr : ∀ k, row = some k → ¬ G k) : Keep G a w' :=
  h.trans ⟨hg.os, hg.tape, hg.output, hg.size, fun k hk => hg.block k (hG k hk) (fun e => hr k e.symm hk)⟩
theorem Keep.turned {G : Nat → Prop} {a w w' : World} {b : Nat} (h : Keep G a w) (ht : w.mapTurned w' b) (hG : ∀ k, G k → k < w.heap.size) (hb : ¬ G b) : Keep G a w' :=
  h.grown ht.grown hG (fun k hk => by cases hk; exact hb)
theorem Keep.cell {G : Nat → Prop} {w w' : World} (h : Keep G w w') {p : Addr} (hp : G p.block) : w'.cell? p = w.cell? p := World.cell?_of_block (w := w) (h.block p.block hp)
theorem Rb.kept {G : Nat → Prop} {w w' : World} {a : Option Addr} {cap : Nat} {xs : List Nat} (h : Rb w a cap xs) (hk : Keep G w w') (hG : ∀ b o, a = some ⟨b, o, none⟩ → G b) : Rb w' a cap xs :=
  h.keep hk.size fun b _ ⟨o, e⟩ => hk.block b (hG b o e)

/-- A number of 64 bits with a sign. -/
def I64 (n : Int) : Prop := -9223372036854775808 ≤ n ∧ n ≤ 9223372036854775807
theorem rt_bool {a b : Bool} (h : a = b) : Ending.returned (.bool a) = .returned (.bool b) := by rw [h]
theorem rt_int {a b : Int} {k : IntKind} (h : a = b) : Ending.returned (.int k a) = .returned (.int k b) := by rw [h]
theorem rt_slice {a a' : Option Addr} {n n' c c' : Nat} (h1 : a = a') (h2 : n = n') (h3 : c = c') : Ending.returned (.slice a n c) = .returned (.slice a' n' c') := by rw [h1, h2, h3]
theorem bl1 {w : World} (o : Obj) : Below w.heap.size w (w.alloc o) := (Below.refl _ _).alloc (Nat.le_refl _) o
theorem bl2 {w : World} (o o' : Obj) : Below w.heap.size w ((w.alloc o).alloc o') := (bl1 o).alloc (by simp) o'
theorem bl3 {w : World} (o o' o'' : Obj) : Below w.heap.size w (((w.alloc o).alloc o').alloc o'') := (bl2 o o').alloc (by simp; omega) o''

end Go.Proofs.Ytdpafdeoepbhaaa
