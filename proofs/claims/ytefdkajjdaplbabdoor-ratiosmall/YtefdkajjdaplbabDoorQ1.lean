/-
  Fractions: what a value of type Ratio is in a world, and which rational number it stands for. Nothing here is a walk.
-/
import Derived.Test.YtefdkajjdaplbabDoorQ0
import Derived.Test.YtefdkajjdaplbabDoorLens
namespace Go.Proofs.YtefdkajjdaplbabDoor
open Go.RowKit Classical
set_option linter.unusedSimpArgs false
set_option linter.unusedVariables false

/-- A size with a sign. -/
def sg (n : Bool) (k : Nat) : Int := if n = true then -(k : Int) else (k : Int)

/-- The number that a sign, a numerator and a denominator stand for. -/
def qv (n : Bool) (xs ys : List Nat) : Rat := mkRat (sg n (V xs)) (V ys)

/-- A value of type Ratio, read in a world. -/
def Rt (w : World) (v : Value) (n : Bool) (xs ys : List Nat) : Prop :=
  ∃ a c a' c', v = .agg #[.bool n, .slice a xs.length c, .slice a' ys.length c'] ∧ Rd w a c xs ∧ Rd w a' c' ys

/-- Formed; lists of at most k limbs; it stands for q. -/
def Fr (w : World) (v : Value) (k : Nat) (q : Rat) : Prop := ∃ n xs ys, Rt w v n xs ys ∧ Fmd n xs ys ∧ xs.length ≤ k ∧ ys.length ≤ k ∧ qv n xs ys = q

/-- Whatever came in: it counts as q. -/
def Ct (w : World) (v : Value) (k : Nat) (q : Rat) : Prop := ∃ n xs ys, Rt w v n xs ys ∧ xs.length ≤ k ∧ ys.length ≤ k ∧ q = if Fmd n xs ys then qv n xs ys else 0

/-- Not reduced yet. -/
def Lo (w : World) (v : Value) (k : Nat) (q : Rat) : Prop := ∃ n xs ys, Rt w v n xs ys ∧ Tr xs ∧ Tr ys ∧ V ys ≠ 0 ∧ xs.length ≤ k ∧ ys.length ≤ k ∧ qv n xs ys = q

theorem Rt.below {w w' : World} {v : Value} {n : Bool} {xs ys : List Nat} (h : Rt w v n xs ys) (hb : Below w.heap.size w w') : Rt w' v n xs ys := by
  obtain ⟨a, c, a', c', rfl, h1, h2⟩ := h
  exact ⟨a, c, a', c', rfl, h1.below hb, h2.below hb⟩
theorem Fr.below {w w' : World} {v : Value} {k : Nat} {q : Rat} (h : Fr w v k q) (hb : Below w.heap.size w w') : Fr w' v k q := by
  obtain ⟨n, xs, ys, h1, h2⟩ := h
  exact ⟨n, xs, ys, h1.below hb, h2⟩
theorem Ct.below {w w' : World} {v : Value} {k : Nat} {q : Rat} (h : Ct w v k q) (hb : Below w.heap.size w w') : Ct w' v k q := by
  obtain ⟨n, xs, ys, h1, h2⟩ := h
  exact ⟨n, xs, ys, h1.below hb, h2⟩
theorem Lo.below {w w' : World} {v : Value} {k : Nat} {q : Rat} (h : Lo w v k q) (hb : Below w.heap.size w w') : Lo w' v k q := by
  obtain ⟨n, xs, ys, h1, h2⟩ := h
  exact ⟨n, xs, ys, h1.below hb, h2⟩

theorem V_ne_of {ys : List Nat} (t : Tr ys) (h : ys ≠ []) : V ys ≠ 0 := fun h0 => h (eq_nil_of_V t h0)
theorem Fmd.den {n : Bool} {xs ys : List Nat} (h : Fmd n xs ys) : V ys ≠ 0 := V_ne_of h.2.1 h.2.2.1
theorem Fmd.neg {n : Bool} {xs ys : List Nat} (h : Fmd n xs ys) (hn : n = true) : V xs ≠ 0 := V_ne_of h.1 fun h0 => h.2.2.2.1 ⟨hn, h0⟩

theorem Fr.lo {w : World} {v : Value} {k : Nat} {q : Rat} (h : Fr w v k q) : Lo w v k q := by
  obtain ⟨n, xs, ys, h1, h2, h3⟩ := h
  exact ⟨n, xs, ys, h1, h2.1, h2.2.1, h2.den, h3⟩
theorem Fr.ct {w : World} {v : Value} {k : Nat} {q : Rat} (h : Fr w v k q) : Ct w v k q := by
  obtain ⟨n, xs, ys, h1, h2, h3, h4, h5⟩ := h
  exact ⟨n, xs, ys, h1, h3, h4, by rw [if_pos h2, h5]⟩
theorem Fr.le {w : World} {v : Value} {k k' : Nat} {q : Rat} (h : Fr w v k q) (hk : k ≤ k') : Fr w v k' q := by
  obtain ⟨n, xs, ys, h1, h2, h3, h4, h5⟩ := h
  exact ⟨n, xs, ys, h1, h2, by omega, by omega, h5⟩
theorem Fr.eq {w : World} {v : Value} {k : Nat} {q r : Rat} (h : Fr w v k q) (e : q = r) : Fr w v k r := e ▸ h
theorem Lo.eq {w : World} {v : Value} {k : Nat} {q r : Rat} (h : Lo w v k q) (e : q = r) : Lo w v k r := e ▸ h

theorem sg_natAbs (n : Bool) (k : Nat) : (sg n k).natAbs = k := by unfold sg; split <;> simp
theorem sg_zero (n : Bool) : sg n 0 = 0 := by unfold sg; split <;> rfl

/-- A formed fraction's parts are the number's own. -/
theorem Fmd.parts {n : Bool} {xs ys : List Nat} (h : Fmd n xs ys) : (qv n xs ys).num = sg n (V xs) ∧ (qv n xs ys).den = V ys := by
  have hc : (sg n (V xs)).natAbs.Coprime (V ys) := by rw [sg_natAbs]; exact h.2.2.2.2
  have e := Rat.mk_eq_mkRat (sg n (V xs)) (V ys) h.den hc
  unfold qv
  rw [← e]
  exact ⟨rfl, rfl⟩

theorem sg_inj {n m : Bool} {a b : Nat} (hn : n = true → a ≠ 0) (hm : m = true → b ≠ 0) (h : sg n a = sg m b) : n = m ∧ a = b := by
  have e : a = b := by have := congrArg Int.natAbs h; rwa [sg_natAbs, sg_natAbs] at this
  subst e
  refine ⟨?_, rfl⟩
  cases n <;> cases m <;> simp [sg] at h hn hm ⊢ <;> omega

/-- A formed fraction is told by its number. -/
theorem Fmd.uniq {n m : Bool} {xs ys xs' ys' : List Nat} (h : Fmd n xs ys) (k : Fmd m xs' ys') (lx : Lim xs) (ly : Lim ys) (lx' : Lim xs') (ly' : Lim ys') (e : qv n xs ys = qv m xs' ys') : n = m ∧ xs = xs' ∧ ys = ys' := by
  have e1 : sg n (V xs) = sg m (V xs') := by rw [← h.parts.1, ← k.parts.1, e]
  have e2 : V ys = V ys' := by rw [← h.parts.2, ← k.parts.2, e]
  obtain ⟨e3, e4⟩ := sg_inj h.neg k.neg e1
  exact ⟨e3, Go.Proofs.YtefdkajjdaplbabDoor.uniq lx lx' h.1 k.1 e4, Go.Proofs.YtefdkajjdaplbabDoor.uniq ly ly' h.2.1 k.2.1 e2⟩

/-- In lowest terms. -/
theorem fmd_reduced {n : Bool} {xs ys ps qs : List Nat} (hy : V ys ≠ 0) (tp : Tr ps) (tq : Tr qs) (hp : V ps = V xs / Nat.gcd (V xs) (V ys)) (hq : V qs = V ys / Nat.gcd (V xs) (V ys)) :
    Fmd (n && decide (0 < ps.length)) ps qs ∧ qv (n && decide (0 < ps.length)) ps qs = qv n xs ys := by
  have g0 : 0 < Nat.gcd (V xs) (V ys) := Nat.gcd_pos_of_pos_right _ (by omega)
  generalize hg : Nat.gcd (V xs) (V ys) = g at *
  have d1 : g ∣ V xs := hg ▸ Nat.gcd_dvd_left _ _
  have d2 : g ∣ V ys := hg ▸ Nat.gcd_dvd_right _ _
  obtain ⟨x, hx⟩ := d1
  obtain ⟨y, hyy⟩ := d2
  rw [hx, Nat.mul_div_cancel_left _ g0] at hp
  rw [hyy, Nat.mul_div_cancel_left _ g0] at hq
  have hy0 : y ≠ 0 := by rintro rfl; simp at hyy; exact hy hyy
  have hco : Nat.gcd x y = 1 := by
    have h1 := hg
    rw [hx, hyy, Nat.gcd_mul_left] at h1
    exact Nat.eq_of_mul_eq_mul_left g0 (by omega)
  have hq0 : qs ≠ [] := by rintro rfl; simp [V] at hq; omega
  have hpl : decide (0 < ps.length) = decide (x ≠ 0) := by
    by_cases h0 : x = 0
    · have : ps = [] := eq_nil_of_V tp (by omega)
      simp [this, h0]
    · have : ps ≠ [] := by rintro rfl; simp [V] at hp; omega
      simp [h0, List.length_pos_iff, this]
  refine ⟨⟨tp, tq, hq0, ?_, by rw [hp, hq]; exact hco⟩, ?_⟩
  · rintro ⟨h1, rfl⟩
    simp at h1
  · rw [hpl]
    unfold qv
    rw [hp, hq, hx, hyy, Rat.mkRat_eq_iff hy0 (by have := Nat.mul_pos g0 (show 0 < y by omega); omega)]
    by_cases h0 : x = 0
    · subst h0; simp [sg_zero]
    · cases n <;> simp [sg, h0] <;> grind

end Go.Proofs.YtefdkajjdaplbabDoor
