/-
  ratio.trimmed, isOne, Formed: the walks.
  How long sums, differences and products are.
  Fractions: what a value of type Ratio is in a world, and which rational number it stands for. Nothing here is a walk.
  ratio.magnitude, Whole, counted, reduced, Make: the walks.
-/
import Derived.Test.YtchdoakoelfenaaGreatZX10
import Derived.Test.YtchdoakoelfenaaGreatZX7
namespace Go.Proofs.YtchdoakoelfenaaGreat
open Go.RowKit Classical
set_option linter.unusedSimpArgs false
set_option linter.unusedVariables false


/-- A fraction that is formed. -/
def Fmd (n : Bool) (xs ys : List Nat) : Prop := Tr xs ∧ Tr ys ∧ ys ≠ [] ∧ ¬ (n = true ∧ xs = []) ∧ Nat.gcd (V xs) (V ys) = 1

theorem tr_iff {xs : List Nat} (h : xs ≠ []) : Tr xs ↔ xs.getD (xs.length - 1) 0 ≠ 0 := by
  refine ⟨fun t => t.last h, fun h0 => ?_⟩
  have hl : 0 < xs.length := List.length_pos_iff.2 h
  have e := strip_take_some xs (xs.length - 1) (by omega) h0
  rw [show xs.length - 1 + 1 = xs.length by omega, List.take_length] at e
  exact e

theorem V_eq_one {xs : List Nat} (l : Lim xs) (t : Tr xs) : V xs = 1 ↔ xs = [1] := by
  refine ⟨fun h => uniq l (by intro x hx; simp at hx; omega) t (by unfold Tr; rfl) (by rw [h]; rfl), fun h => by rw [h]; rfl⟩

set_option maxHeartbeats 400000 in
set_option maxRecDepth 100000 in
theorem trimmed_any (a : Option Addr) (cap : Nat) (xs : List Nat) (w : World) (h : Rd w a cap xs) :
    Calls Tryz.prog 121 #[.slice a xs.length cap] w fun e w' => e = .returned (.bool (decide (Tr xs))) ∧ w = w' := by
  have k1 := h.le
  have k2 := h.cap
  unfold maxLen at k2
  by_cases h0 : xs = []
  · subst h0
    go_enter Tryz.func121, Tryz.ntmps121
    go_wp2
    go_ret
    exact ⟨ret_bool (by simp [tr_nil]), rfl⟩
  · have hl : 0 < xs.length := List.length_pos_iff.2 h0
    obtain ⟨b, off, rfl, hb, hc⟩ := h.fm.at (Below.refl _ _) (xs.length - 1) (by omega)
    obtain ⟨m, hm⟩ : ∃ m, xs.length = m + 1 := ⟨xs.length - 1, by omega⟩
    have ht := tr_iff h0
    rw [hm] at ht hc k1 ⊢
    simp only [Nat.add_sub_cancel] at ht hc
    generalize xs.getD m 0 = z at ht hc
    clear h hl hm
    have g1 : ((m : Int) + 1 == 0) = false := beq_eq_false_iff_ne.2 (by omega)
    have g2 : ((z : Int) != 0) = decide (Tr xs) := by
      by_cases hz : z = 0
      · subst hz; simp [ht]
      · simp [ht, hz]
    go_enter Tryz.func121, Tryz.ntmps121
    go_wp2
    go_ret
    exact ⟨ret_bool (by simp [g1, ht]; try omega), rfl⟩

set_option maxHeartbeats 400000 in
set_option maxRecDepth 100000 in
theorem isOne_any (a : Option Addr) (cap : Nat) (xs : List Nat) (w : World) (h : Rd w a cap xs) :
    Calls Tryz.prog 122 #[.slice a xs.length cap] w fun e w' => e = .returned (.bool (decide (xs = [1]))) ∧ w = w' := by
  have k1 := h.le
  have k2 := h.cap
  unfold maxLen at k2
  by_cases h0 : xs.length = 1
  · match xs, h0 with
    | [z], _ =>
      obtain ⟨b, off, rfl, hb, hc⟩ := h.fm.at (Below.refl _ _) 0 (by simp)
      simp at hc
      clear h h0
      simp only [List.length_cons, List.length_nil]
      go_enter Tryz.func122, Tryz.ntmps122
      go_wp2
      go_ret
      exact ⟨ret_bool (by by_cases hz : z = 1 <;> simp [hz]; omega), rfl⟩
  · have hx : xs ≠ [1] := by intro e; rw [e] at h0; simp at h0
    have g1 : ((xs.length : Int) == 1) = false := beq_eq_false_iff_ne.2 (by omega)
    generalize xs.length = m at *
    go_enter Tryz.func122, Tryz.ntmps122
    go_wp2
    go_ret
    exact ⟨ret_bool (by simp [hx, h0]; try omega), rfl⟩

set_option maxHeartbeats 1000000 in
set_option maxRecDepth 100000 in
theorem formed_any (n : Bool) (a : Option Addr) (c : Nat) (xs : List Nat) (a' : Option Addr) (c' : Nat) (ys : List Nat) (w : World) (hx : Rd w a c xs) (hy : Rd w a' c' ys) (lx : xs.length ≤ 400000000) (ly : ys.length ≤ 400000000) :
    Calls Tryz.prog 109 #[.agg #[.bool n, .slice a xs.length c, .slice a' ys.length c']] w fun e w' => e = .returned (.bool (decide (Fmd n xs ys))) ∧ Below w.heap.size w w' := by
  go_enter Tryz.func109, Tryz.ntmps109
  go_wp2_with fail
  refine (trimmed_any _ _ _ _ (hx.below ((Below.refl _ _).alloc (Nat.le_refl _) _))).mono ?_
  rintro e u ⟨rfl, rfl⟩
  by_cases tx : Tr xs
  · have e1 : decide (Tr xs) = true := decide_eq_true tx
    rw [e1]
    clear e1
    go_wp2_with fail
    refine (trimmed_any _ _ _ _ (hy.below ((Below.refl _ _).alloc (Nat.le_refl _) _))).mono ?_
    rintro e u ⟨rfl, rfl⟩
    by_cases ty : Tr ys
    · have e1 : decide (Tr ys) = true := decide_eq_true ty
      rw [e1]
      clear e1
      by_cases hy0 : ys = []
      · subst hy0
        go_wp2
        go_ret
        exact ⟨ret_bool (by simp [Fmd]), (Below.refl _ _).alloc (Nat.le_refl _) _⟩
      · have hyl : 0 < ys.length := List.length_pos_iff.2 hy0
        have g1 : ((ys.length : Int) == 0) = false := beq_eq_false_iff_ne.2 (by omega)
        have key : (n = true ∧ xs = []) ∨ ((n = true → xs.length ≠ 0)) := by
          by_cases h1 : n = true ∧ xs = []
          · exact .inl h1
          · exact .inr fun hn h2 => h1 ⟨hn, List.length_eq_zero_iff.1 h2⟩
        rcases key with ⟨rfl, rfl⟩ | h1
        · go_wp2
          go_ret
          exact ⟨ret_bool (by simp [Fmd]), (Below.refl _ _).alloc (Nat.le_refl _) _⟩
        · have fin : ∀ (W : World), Below w.heap.size w W → ∀ a1 c1 (zs : List Nat), Rd W a1 c1 zs → V zs = Nat.gcd (V xs) (V ys) → Tr zs →
              Calls Tryz.prog 122 #[.slice a1 zs.length c1] W fun e w' => e = .returned (.bool (decide (Fmd n xs ys))) ∧ Below w.heap.size w w' := by
            intro W hb a1 c1 zs hr hv ht
            refine (isOne_any _ _ _ _ hr).mono ?_
            rintro e u ⟨rfl, rfl⟩
            refine ⟨ret_bool ?_, hb⟩
            have hiff : zs = [1] ↔ Fmd n xs ys := by
              rw [← V_eq_one hr.lim ht, hv]
              refine ⟨fun h => ⟨tx, ty, hy0, fun ⟨hn, hx0⟩ => h1 hn (by rw [hx0]; rfl), h⟩, fun h => h.2.2.2.2⟩
            by_cases hz : zs = [1] <;> simp [hz, ← hiff]
          cases n with
          | false =>
            go_wp2_with fail
            refine (gcd_any _ _ _ _ _ _ _ (hx.below ((Below.refl _ _).alloc (Nat.le_refl _) _)) (hy.below ((Below.refl _ _).alloc (Nat.le_refl _) _)) lx ly).mono ?_
            rintro e u ⟨a1, c1, zs, rfl, hv, ht, hr, hb⟩
            have hb' : Below w.heap.size w u := ((Below.refl _ _).alloc (Nat.le_refl _) _).trans (hb.mono (by simp))
            go_wp2_with fail
            refine (fin _ hb' _ _ _ hr.rd hv ht).mono ?_
            rintro e u2 ⟨rfl, hb2⟩
            go_wp2
            go_ret
            exact ⟨rfl, hb2⟩
          | true =>
            have g2 : ((xs.length : Int) == 0) = false := beq_eq_false_iff_ne.2 (by have := h1 rfl; omega)
            go_wp2_with fail
            refine (gcd_any _ _ _ _ _ _ _ (hx.below ((Below.refl _ _).alloc (Nat.le_refl _) _)) (hy.below ((Below.refl _ _).alloc (Nat.le_refl _) _)) lx ly).mono ?_
            rintro e u ⟨a1, c1, zs, rfl, hv, ht, hr, hb⟩
            have hb' : Below w.heap.size w u := ((Below.refl _ _).alloc (Nat.le_refl _) _).trans (hb.mono (by simp))
            go_wp2_with fail
            refine (fin _ hb' _ _ _ hr.rd hv ht).mono ?_
            rintro e u2 ⟨rfl, hb2⟩
            go_wp2
            go_ret
            exact ⟨rfl, hb2⟩
    · have e1 : decide (Tr ys) = false := decide_eq_false ty
      rw [e1]
      go_wp2
      go_ret
      exact ⟨ret_bool (by simp [Fmd, ty]), (Below.refl _ _).alloc (Nat.le_refl _) _⟩
  · have e1 : decide (Tr xs) = false := decide_eq_false tx
    rw [e1]
    go_wp2
    go_ret
    exact ⟨ret_bool (by simp [Fmd, tx]), (Below.refl _ _).alloc (Nat.le_refl _) _⟩

end Go.Proofs.YtchdoakoelfenaaGreat

namespace Go.Proofs.YtchdoakoelfenaaGreat
set_option linter.unusedSimpArgs false
set_option linter.unusedVariables false

theorem V_bd {xs : List Nat} {n : Nat} (l : Lim xs) (h : xs.length ≤ n) : V xs < 4294967296 ^ n :=
  Nat.lt_of_lt_of_le (V_lt l) (Nat.pow_le_pow_right (by decide) h)

theorem add_len {zs xs ys : List Nat} {n : Nat} (ht : Tr zs) (hv : V zs = V xs + V ys) (lx : Lim xs) (ly : Lim ys) (hx : xs.length ≤ n) (hy : ys.length ≤ n) : zs.length ≤ n + 1 := by
  refine len_le_of_V ht ?_
  have h1 := V_bd lx hx
  have h2 := V_bd ly hy
  rw [Nat.pow_succ]; omega

theorem mul_len {zs xs ys : List Nat} {n m : Nat} (ht : Tr zs) (hv : V zs = V xs * V ys) (lx : Lim xs) (ly : Lim ys) (hx : xs.length ≤ n) (hy : ys.length ≤ m) : zs.length ≤ n + m := by
  refine len_le_of_V ht ?_
  rw [hv, Nat.pow_add]
  exact Nat.mul_lt_mul'' (V_bd lx hx) (V_bd ly hy)

theorem sub_len {zs xs ys : List Nat} {n : Nat} (ht : Tr zs) (hv : V zs = V xs - V ys) (lx : Lim xs) (hx : xs.length ≤ n) : zs.length ≤ n := by
  refine len_le_of_V ht ?_
  have h1 := V_bd lx hx
  omega

theorem cmpN_eq {x y : Nat} (h : x = y) : cmpN x y = 0 := by subst h; simp [cmpN]

end Go.Proofs.YtchdoakoelfenaaGreat

namespace Go.Proofs.YtchdoakoelfenaaGreat
open Go.RowKit Classical
set_option linter.unusedSimpArgs false
set_option linter.unusedVariables false

/-- A size with a sign. -/
def sg (n : Bool) (k : Nat) : Int := if n = true then -(k : Int) else (k : Int)

/-- The number that a sign, a numerator and a denominator stand for. -/
def qv (n : Bool) (xs ys : List Nat) : Rat := mkRat (sg n (V xs)) (V ys)

/-- A value of type Ratio, read in a world. -/
def Rt (w : World) (v : Value) (n : Bool) (xs ys : List Nat) : Prop :=
  ∃ a c a' c', v = .agg #[.bool n, .slice a xs.length c, .slice a' ys.length c'] ∧ Rd w a c xs ∧ Rd w a' c' ys

/-- Formed; lists of at most k limbs; it stands for q. -/
def Fr (w : World) (v : Value) (k : Nat) (q : Rat) : Prop := ∃ n xs ys, Rt w v n xs ys ∧ Fmd n xs ys ∧ xs.length ≤ k ∧ ys.length ≤ k ∧ qv n xs ys = q

/-- Whatever came in: it counts as q. -/
def Ct (w : World) (v : Value) (k : Nat) (q : Rat) : Prop := ∃ n xs ys, Rt w v n xs ys ∧ xs.length ≤ k ∧ ys.length ≤ k ∧ q = if Fmd n xs ys then qv n xs ys else 0

/-- Not reduced yet. -/
def Lo (w : World) (v : Value) (k : Nat) (q : Rat) : Prop := ∃ n xs ys, Rt w v n xs ys ∧ Tr xs ∧ Tr ys ∧ V ys ≠ 0 ∧ xs.length ≤ k ∧ ys.length ≤ k ∧ qv n xs ys = q

theorem Rt.below {w w' : World} {v : Value} {n : Bool} {xs ys : List Nat} (h : Rt w v n xs ys) (hb : Below w.heap.size w w') : Rt w' v n xs ys := by
  obtain ⟨a, c, a', c', rfl, h1, h2⟩ := h
  exact ⟨a, c, a', c', rfl, h1.below hb, h2.below hb⟩
theorem Fr.below {w w' : World} {v : Value} {k : Nat} {q : Rat} (h : Fr w v k q) (hb : Below w.heap.size w w') : Fr w' v k q := by
  obtain ⟨n, xs, ys, h1, h2⟩ := h
  exact ⟨n, xs, ys, h1.below hb, h2⟩
theorem Ct.below {w w' : World} {v : Value} {k : Nat} {q : Rat} (h : Ct w v k q) (hb : Below w.heap.size w w') : Ct w' v k q := by
  obtain ⟨n, xs, ys, h1, h2⟩ := h
  exact ⟨n, xs, ys, h1.below hb, h2⟩
theorem Lo.below {w w' : World} {v : Value} {k : Nat} {q : Rat} (h : Lo w v k q) (hb : Below w.heap.size w w') : Lo w' v k q := by
  obtain ⟨n, xs, ys, h1, h2⟩ := h
  exact ⟨n, xs, ys, h1.below hb, h2⟩

theorem V_ne_of {ys : List Nat} (t : Tr ys) (h : ys ≠ []) : V ys ≠ 0 := fun h0 => h (eq_nil_of_V t h0)
theorem Fmd.den {n : Bool} {xs ys : List Nat} (h : Fmd n xs ys) : V ys ≠ 0 := V_ne_of h.2.1 h.2.2.1
theorem Fmd.neg {n : Bool} {xs ys : List Nat} (h : Fmd n xs ys) (hn : n = true) : V xs ≠ 0 := V_ne_of h.1 fun h0 => h.2.2.2.1 ⟨hn, h0⟩

theorem Fr.lo {w : World} {v : Value} {k : Nat} {q : Rat} (h : Fr w v k q) : Lo w v k q := by
  obtain ⟨n, xs, ys, h1, h2, h3⟩ := h
  exact ⟨n, xs, ys, h1, h2.1, h2.2.1, h2.den, h3⟩
theorem Fr.ct {w : World} {v : Value} {k : Nat} {q : Rat} (h : Fr w v k q) : Ct w v k q := by
  obtain ⟨n, xs, ys, h1, h2, h3, h4, h5⟩ := h
  exact ⟨n, xs, ys, h1, h3, h4, by rw [if_pos h2, h5]⟩
theorem Fr.le {w : World} {v : Value} {k k' : Nat} {q : Rat} (h : Fr w v k q) (hk : k ≤ k') : Fr w v k' q := by
  obtain ⟨n, xs, ys, h1, h2, h3, h4, h5⟩ := h
  exact ⟨n, xs, ys, h1, h2, by omega, by omega, h5⟩
theorem Fr.eq {w : World} {v : Value} {k : Nat} {q r : Rat} (h : Fr w v k q) (e : q = r) : Fr w v k r := e ▸ h
theorem Lo.eq {w : World} {v : Value} {k : Nat} {q r : Rat} (h : Lo w v k q) (e : q = r) : Lo w v k r := e ▸ h

theorem sg_natAbs (n : Bool) (k : Nat) : (sg n k).natAbs = k := by unfold sg; split <;> simp
theorem sg_zero (n : Bool) : sg n 0 = 0 := by unfold sg; split <;> rfl

/-- A formed fraction's parts are the number's own. -/
theorem Fmd.parts {n : Bool} {xs ys : List Nat} (h : Fmd n xs ys) : (qv n xs ys).num = sg n (V xs) ∧ (qv n xs ys).den = V ys := by
  have hc : (sg n (V xs)).natAbs.Coprime (V ys) := by rw [sg_natAbs]; exact h.2.2.2.2
  have e := Rat.mk_eq_mkRat (sg n (V xs)) (V ys) h.den hc
  unfold qv
  rw [← e]
  exact ⟨rfl, rfl⟩

theorem sg_inj {n m : Bool} {a b : Nat} (hn : n = true → a ≠ 0) (hm : m = true → b ≠ 0) (h : sg n a = sg m b) : n = m ∧ a = b := by
  have e : a = b := by have := congrArg Int.natAbs h; rwa [sg_natAbs, sg_natAbs] at this
  subst e
  refine ⟨?_, rfl⟩
  cases n <;> cases m <;> simp [sg] at h hn hm ⊢ <;> omega

/-- A formed fraction is told by its number. -/
theorem Fmd.uniq {n m : Bool} {xs ys xs' ys' : List Nat} (h : Fmd n xs ys) (k : Fmd m xs' ys') (lx : Lim xs) (ly : Lim ys) (lx' : Lim xs') (ly' : Lim ys') (e : qv n xs ys = qv m xs' ys') : n = m ∧ xs = xs' ∧ ys = ys' := by
  have e1 : sg n (V xs) = sg m (V xs') := by rw [← h.parts.1, ← k.parts.1, e]
  have e2 : V ys = V ys' := by rw [← h.parts.2, ← k.parts.2, e]
  obtain ⟨e3, e4⟩ := sg_inj h.neg k.neg e1
  exact ⟨e3, Go.Proofs.YtchdoakoelfenaaGreat.uniq lx lx' h.1 k.1 e4, Go.Proofs.YtchdoakoelfenaaGreat.uniq ly ly' h.2.1 k.2.1 e2⟩

/-- In lowest terms. -/
theorem fmd_reduced {n : Bool} {xs ys ps qs : List Nat} (hy : V ys ≠ 0) (tp : Tr ps) (tq : Tr qs) (hp : V ps = V xs / Nat.gcd (V xs) (V ys)) (hq : V qs = V ys / Nat.gcd (V xs) (V ys)) :
    Fmd (n && decide (0 < ps.length)) ps qs ∧ qv (n && decide (0 < ps.length)) ps qs = qv n xs ys := by
  have g0 : 0 < Nat.gcd (V xs) (V ys) := Nat.gcd_pos_of_pos_right _ (by omega)
  generalize hg : Nat.gcd (V xs) (V ys) = g at *
  have d1 : g ∣ V xs := hg ▸ Nat.gcd_dvd_left _ _
  have d2 : g ∣ V ys := hg ▸ Nat.gcd_dvd_right _ _
  obtain ⟨x, hx⟩ := d1
  obtain ⟨y, hyy⟩ := d2
  rw [hx, Nat.mul_div_cancel_left _ g0] at hp
  rw [hyy, Nat.mul_div_cancel_left _ g0] at hq
  have hy0 : y ≠ 0 := by rintro rfl; simp at hyy; exact hy hyy
  have hco : Nat.gcd x y = 1 := by
    have h1 := hg
    rw [hx, hyy, Nat.gcd_mul_left] at h1
    exact Nat.eq_of_mul_eq_mul_left g0 (by omega)
  have hq0 : qs ≠ [] := by rintro rfl; simp [V] at hq; omega
  have hpl : decide (0 < ps.length) = decide (x ≠ 0) := by
    by_cases h0 : x = 0
    · have : ps = [] := eq_nil_of_V tp (by omega)
      simp [this, h0]
    · have : ps ≠ [] := by rintro rfl; simp [V] at hp; omega
      simp [h0, List.length_pos_iff, this]
  refine ⟨⟨tp, tq, hq0, ?_, by rw [hp, hq]; exact hco⟩, ?_⟩
  · rintro ⟨h1, rfl⟩
    simp at h1
  · rw [hpl]
    unfold qv
    rw [hp, hq, hx, hyy, Rat.mkRat_eq_iff hy0 (by have := Nat.mul_pos g0 (show 0 < y by omega); omega)]
    by_cases h0 : x = 0
    · subst h0; simp [sg_zero]
    · cases n <;> simp [sg, h0] <;> grind

end Go.Proofs.YtchdoakoelfenaaGreat

namespace Go.Proofs.YtchdoakoelfenaaGreat
open Go.RowKit Classical
set_option linter.unusedSimpArgs false
set_option linter.unusedVariables false

theorem wf_i64_bounds {n : Int} (h : (Lit.int .i64 n).wf = true) : -9223372036854775808 ≤ n ∧ n < 9223372036854775808 := by
  simp [Lit.wf, IntKind.min, IntKind.max, IntKind.bits, IntKind.signed] at h
  omega

/-- Block b holds three cells, and may be written. -/
def Box (t : TypeId) (w : World) (b : Nat) (x y z : Value) : Prop := w.heap[b]? = some (.cells #[x, y, z] t (0, 0))
theorem Box.lt {t : TypeId} {w : World} {b : Nat} {x y z : Value} (h : Box t w b x y z) : b < w.heap.size := (Array.getElem?_eq_some_iff.1 h).1
theorem Box.below {t : TypeId} {w w' : World} {b : Nat} {x y z : Value} (h : Box t w b x y z) (hb : Below w.heap.size w w') : Box t w' b x y z := (hb.block b h.lt).trans h
theorem Box.cells {t : TypeId} {w : World} {b : Nat} {x y z : Value} (h : Box t w b x y z) :
    w.cell? ⟨b, 0, none⟩ = some x ∧ w.cell? ⟨b, 1, none⟩ = some y ∧ w.cell? ⟨b, 2, none⟩ = some z ∧ w.frozen? ⟨b, 0, none⟩ = false ∧ w.frozen? ⟨b, 1, none⟩ = false ∧ w.frozen? ⟨b, 2, none⟩ = false := by
  refine ⟨cell_of_row w b 0 _ t (0, 0) h, cell_of_row w b 1 _ t (0, 0) h, cell_of_row w b 2 _ t (0, 0) h, frozen_of_row w b 0 _ t h, frozen_of_row w b 1 _ t h, frozen_of_row w b 2 _ t h⟩
theorem Box.new (t : TypeId) (w : World) (x y z : Value) : Box t (w.alloc (.cells #[x, y, z] t)) w.heap.size x y z := heap_alloc_new w (.cells #[x, y, z] t)
theorem Box.alloc {t : TypeId} {w : World} {b : Nat} {x y z : Value} (h : Box t w b x y z) (o : Obj) : Box t (w.alloc o) b x y z := h.below ((Below.refl _ _).alloc (Nat.le_refl _) o)

theorem al1 {w : World} (o : Obj) : Below w.heap.size w (w.alloc o) := (Below.refl _ _).alloc (Nat.le_refl _) o
theorem al2 {w : World} (o o' : Obj) : Below w.heap.size w ((w.alloc o).alloc o') := (al1 o).alloc (by simp) o'
theorem al3 {w : World} (o o' o'' : Obj) : Below w.heap.size w (((w.alloc o).alloc o').alloc o'') := (al2 o o').alloc (by simp; omega) o''
theorem Box.new1 (t : TypeId) (w : World) (o : Obj) (x y z : Value) : Box t ((w.alloc o).alloc (.cells #[x, y, z] t)) (w.heap.size + 1) x y z := by
  have h := Box.new t (w.alloc o) x y z
  simpa using h
theorem Box.new2 (t : TypeId) (w : World) (o o' : Obj) (x y z : Value) : Box t (((w.alloc o).alloc o').alloc (.cells #[x, y, z] t)) (w.heap.size + 1 + 1) x y z := by
  have h := Box.new t ((w.alloc o).alloc o') x y z
  simpa using h

/-- Behind the first call of a function with one parameter in a block. -/
theorem after1 {t : TypeId} {w u : World} {x y z : Value} (hb : Below (w.alloc (.cells #[x, y, z] t)).heap.size (w.alloc (.cells #[x, y, z] t)) u) :
    Box t u w.heap.size x y z ∧ Below w.heap.size w u :=
  ⟨(Box.new _ _ _ _ _).below hb, (al1 _).trans (hb.mono (by simp))⟩
/-- .. with two blocks. -/
theorem after2 {t s : TypeId} {w u : World} {x y z x' y' z' : Value} (hb : Below ((w.alloc (.cells #[x, y, z] t)).alloc (.cells #[x', y', z'] s)).heap.size ((w.alloc (.cells #[x, y, z] t)).alloc (.cells #[x', y', z'] s)) u) :
    Box t u w.heap.size x y z ∧ Box s u (w.heap.size + 1) x' y' z' ∧ Below w.heap.size w u :=
  ⟨((Box.new _ _ _ _ _).alloc _).below hb, (Box.new1 _ _ _ _ _ _).below hb, (al2 _ _).trans (hb.mono (by simp; omega))⟩
/-- .. with three. -/
theorem after3 {t s r : TypeId} {w u : World} {x y z x' y' z' x'' y'' z'' : Value} (hb : Below (((w.alloc (.cells #[x, y, z] t)).alloc (.cells #[x', y', z'] s)).alloc (.cells #[x'', y'', z''] r)).heap.size (((w.alloc (.cells #[x, y, z] t)).alloc (.cells #[x', y', z'] s)).alloc (.cells #[x'', y'', z''] r)) u) :
    Box t u w.heap.size x y z ∧ Box s u (w.heap.size + 1) x' y' z' ∧ Box r u (w.heap.size + 1 + 1) x'' y'' z'' ∧ Below w.heap.size w u :=
  ⟨(((Box.new _ _ _ _ _).alloc _).alloc _).below hb, ((Box.new1 _ _ _ _ _ _).alloc _).below hb, (Box.new2 _ _ _ _ _ _ _).below hb, (al3 _ _ _).trans (hb.mono (by simp; omega))⟩

/-- The world as it lies when three blocks are made. -/
theorem boxes3 (t s r : TypeId) (w : World) (x y z x' y' z' x'' y'' z'' : Value) :
    ∃ W, W = (((w.alloc (.cells #[x, y, z] t)).alloc (.cells #[x', y', z'] s)).alloc (.cells #[x'', y'', z''] r)) ∧ Box t W w.heap.size x y z ∧ Box s W (w.heap.size + 1) x' y' z' ∧ Box r W (w.heap.size + 1 + 1) x'' y'' z'' ∧ Below w.heap.size w W :=
  ⟨_, rfl, after3 (Below.refl _ _)⟩
theorem boxes2 (t s : TypeId) (w : World) (x y z x' y' z' : Value) :
    ∃ W, W = ((w.alloc (.cells #[x, y, z] t)).alloc (.cells #[x', y', z'] s)) ∧ Box t W w.heap.size x y z ∧ Box s W (w.heap.size + 1) x' y' z' ∧ Below w.heap.size w W :=
  ⟨_, rfl, after2 (Below.refl _ _)⟩

theorem Box.set3 {t : TypeId} {w : World} {b : Nat} {x y z : Value} (h : Box t w b x y z) (x' y' z' : Value) :
    Box t (((w.setCell ⟨b, 0, none⟩ x').setCell ⟨b, 1, none⟩ y').setCell ⟨b, 2, none⟩ z') b x' y' z' := by
  have h1 := heap_setCell_same w b 0 _ t x' h
  have h2 := heap_setCell_same _ b 1 _ t y' h1
  have h3 := heap_setCell_same _ b 2 _ t z' h2
  exact h3
theorem Box.set0 {t : TypeId} {w : World} {b : Nat} {x y z : Value} (h : Box t w b x y z) (x' : Value) : Box t (w.setCell ⟨b, 0, none⟩ x') b x' y z :=
  heap_setCell_same w b 0 _ t x' h
theorem below_set3 {B b : Nat} {w u : World} (h : Below B w u) (hb : B ≤ b) (x' y' z' : Value) : Below B w (((u.setCell ⟨b, 0, none⟩ x').setCell ⟨b, 1, none⟩ y').setCell ⟨b, 2, none⟩ z') :=
  ((h.setCell (p := ⟨b, 0, none⟩) hb x').setCell (p := ⟨b, 1, none⟩) hb y').setCell (p := ⟨b, 2, none⟩) hb z'

/-- No limb lies in a fraction's own block. -/
theorem Rd.apart {t : TypeId} {u U : World} {b : Nat} {n : Bool} {a a' : Option Addr} {l c l' c' : Nat} (B : Box t u b (.bool n) (.slice a l c) (.slice a' l' c')) (hs : u.heap.size ≤ U.heap.size)
    (hU : ∀ k, k ≠ b → U.heap[k]? = u.heap[k]?) {r : Option Addr} {cp : Nat} {xs : List Nat} (h : Rd u r cp xs) : Rd U r cp xs := by
  obtain ⟨h1, h2, h3, h5, h4⟩ := h
  refine ⟨h1, h2, h3, h5, ?_⟩
  rcases h4 with h4 | ⟨g, off, e, hg, hc⟩
  · exact .inl h4
  · by_cases hx : xs = []
    · exact .inl hx
    refine .inr ⟨g, off, e, Nat.lt_of_lt_of_le hg hs, fun i hi => ?_⟩
    have hne : g ≠ b := by
      rintro rfl
      have hc0 := hc 0 (List.length_pos_iff.2 hx)
      have hb := cell_of_row u g (off + 0) _ t (0, 0) B
      rw [hc0] at hb
      match off, hb with
      | 0, hb => simp at hb
      | 1, hb => simp at hb
      | 2, hb => simp at hb
      | (k + 3), hb => simp at hb
    exact (World.cell?_of_block (w := u) (a := ⟨g, off + i, none⟩) (hU g hne)).trans (hc i hi)

theorem set3_other (u : World) (b : Nat) (x y z : Value) (k : Nat) (hk : k ≠ b) : (((u.setCell ⟨b, 0, none⟩ x).setCell ⟨b, 1, none⟩ y).setCell ⟨b, 2, none⟩ z).heap[k]? = u.heap[k]? := by
  rw [Below.heap_setCell _ ⟨b, 2, none⟩ z k hk, Below.heap_setCell _ ⟨b, 1, none⟩ y k hk, Below.heap_setCell _ ⟨b, 0, none⟩ x k hk]

theorem cell_set3 {u : World} {b : Nat} {x y z : Value} {k i : Nat} (hk : k ≠ b) : (((u.setCell ⟨b, 0, none⟩ x).setCell ⟨b, 1, none⟩ y).setCell ⟨b, 2, none⟩ z).cell? ⟨k, i, none⟩ = u.cell? ⟨k, i, none⟩ :=
  World.cell?_of_block (w := u) (a := ⟨k, i, none⟩) (set3_other u b x y z k hk)

/-- A fraction is handed back out of its block. -/
theorem ret3 {P : Program} {fn : Func} {R : Ending → World → Prop} {ac : Act} {t : TypeId} {u : World} {b : Nat} {n : Bool} {a a' : Option Addr} {l c l' c' : Nat} {x' y' z' v : Value} (B : Box t u b (.bool n) (.slice a l c) (.slice a' l' c'))
    (hd : ac.defers = []) (hr : ∀ U, Box t U b x' y' z' → (results fn ac.tmps).run P U = .ok v U)
    (hR : ∀ U, (∀ B w, Below B w u → B ≤ b → Below B w U) → (∀ a c xs, Rd u a c xs → Rd U a c xs) → R (.returned v) U) :
    bodyPost P fn R .ret ac (((u.setCell ⟨b, 0, none⟩ x').setCell ⟨b, 1, none⟩ y').setCell ⟨b, 2, none⟩ z') :=
  bodyPost_ret (hr _ (B.set3 x' y' z')) hd (hR _ (fun _ _ h hb => below_set3 h hb x' y' z') fun _ _ _ h => Rd.apart B (by simp [World.setCell]) (set3_other u b x' y' z') h)

theorem wrap_u64 (z : Int) : IntKind.u64.wrap z = z % 18446744073709551616 := by
  unfold IntKind.wrap; simp [IntKind.bits, IntKind.signed]

set_option maxHeartbeats 400000 in
set_option maxRecDepth 100000 in
theorem mag_any (z : Int) (w : World) (h1 : -9223372036854775808 ≤ z) (h2 : z < 9223372036854775808) :
    Calls Tryz.prog 92 #[.int .i64 z] w fun e w' => e = .returned (.int .u64 (z.natAbs : Nat)) ∧ w = w' := by
  by_cases hz : z < 0
  · go_enter Tryz.func92, Tryz.ntmps92
    go_wp2
    go_ret
    exact ⟨by simp [wrap_u64]; omega, rfl⟩
  · go_enter Tryz.func92, Tryz.ntmps92
    go_wp2
    go_ret
    exact ⟨by simp [wrap_u64]; omega, rfl⟩

set_option maxHeartbeats 1000000 in
set_option maxRecDepth 100000 in
theorem reduced_any (k : Nat) (q : Rat) (v : Value) (w : World) (h : Lo w v k q) (hk : k ≤ 400000000) :
    Calls Tryz.prog 91 #[v] w fun e w' => ∃ v', e = .returned v' ∧ Fr w' v' k q ∧ Below w.heap.size w w' := by
  obtain ⟨n, xs, ys, ⟨a, c, a', c', rfl, hx, hy⟩, tx, ty, y0, lx, ly, rfl⟩ := h
  have hx0 := hx.lim
  have hy0 := hy.lim
  go_enter Tryz.func91, Tryz.ntmps91
  go_wp2_with fail
  refine (gcd_any _ _ _ _ _ _ _ (hx.below (al2 _ _)) (hy.below (al2 _ _)) (by omega) (by omega)).mono ?_
  rintro e u1 ⟨a1, c1, gs, rfl, hv1, ht1, hr1, hb1⟩
  replace hx := (hx.below (al2 _ _)).below hb1
  replace hy := (hy.below (al2 _ _)).below hb1
  obtain ⟨B1, B2, hbW⟩ := after2 hb1
  have rg := hr1.rd
  have g0 : V gs ≠ 0 := by rw [hv1]; exact fun h => y0 (Nat.gcd_eq_zero_iff.1 h).2
  have lg : gs.length ≤ k := by
    refine len_le_of_V ht1 ?_
    have h1 := V_lt hy.lim
    have h2 : V gs ≤ V ys := by rw [hv1]; exact Nat.gcd_le_right _ (by omega)
    have h3 : 4294967296 ^ ys.length ≤ 4294967296 ^ k := Nat.pow_le_pow_right (by decide) ly
    omega
  clear hr1 hb1
  obtain ⟨p1, p2, p3, _⟩ := B1.cells
  go_wp2_with fail
  refine (div_any _ _ _ _ _ _ _ hx rg (by omega) (by omega)).mono ?_
  rintro e u2 ⟨a2, c2, ps, a3, c3, rs, rfl, hv2, hv3, ht2, ht3, hr2, hr3, hb2⟩
  have rp := hr2.rd
  replace hy := hy.below hb2
  replace rg := rg.below hb2
  replace B1 := B1.below hb2
  replace B2 := B2.below hb2
  replace hbW : Below w.heap.size w u2 := hbW.trans (hb2.mono hbW.size)
  clear hb2 hr2 hr3 hv3 ht3 p1 p2 p3 hx
  obtain ⟨p1, p2, p3, _⟩ := B1.cells
  go_wp2_with fail
  refine (div_any _ _ _ _ _ _ _ hy rg (by omega) (by omega)).mono ?_
  rintro e u3 ⟨a4, c4, qs, a5, c5, rs', rfl, hv4, hv5, ht4, ht5, hr4, hr5, hb3⟩
  have rq := hr4.rd
  replace rp := rp.below hb3
  replace B1 := B1.below hb3
  replace B2 := B2.below hb3
  replace hbW : Below w.heap.size w u3 := hbW.trans (hb3.mono hbW.size)
  clear hb3 hr4 hr5 hv5 ht5 p1 p2 p3 hy rg
  obtain ⟨p1, p2, p3, _⟩ := B1.cells
  obtain ⟨q1, q2, q3, q4, q5, q6⟩ := B2.cells
  have hs := B2.lt
  have hF := fmd_reduced (n := n) (xs := xs) (ys := ys) y0 ht2 ht4 (by rw [hv2, hv1]) (by rw [hv4, hv1])
  have lp : ps.length ≤ k := by
    refine len_le_of_V ht2 ?_
    have h1 := V_lt hx0
    have h2 : V ps ≤ V xs := by rw [hv2]; exact Nat.div_le_self _ _
    have h3 : 4294967296 ^ xs.length ≤ 4294967296 ^ k := Nat.pow_le_pow_right (by decide) lx
    omega
  have lq : qs.length ≤ k := by
    refine len_le_of_V ht4 ?_
    have h1 := V_lt hy0
    have h2 : V qs ≤ V ys := by rw [hv4]; exact Nat.div_le_self _ _
    have h3 : 4294967296 ^ ys.length ≤ 4294967296 ^ k := Nat.pow_le_pow_right (by decide) ly
    omega
  have fin : ∀ (m : Bool), m = (n && decide (0 < ps.length)) → ∀ (U : World), (∀ a c xs, Rd u3 a c xs → Rd U a c xs) → Fr U (.agg #[.bool m, .slice a2 ps.length c2, .slice a4 qs.length c4]) k (qv n xs ys) := by
    rintro m rfl U hU
    exact ⟨_, ps, qs, ⟨_, _, _, _, rfl, hU _ _ _ rp, hU _ _ _ rq⟩, hF.1, lp, lq, hF.2⟩
  clear hF
  cases n with
  | false =>
    go_wp2
    refine ret3 (v := .agg #[.bool false, .slice a2 ps.length c2, .slice a4 qs.length c4]) B2 rfl (fun U hU => by obtain ⟨r1, r2, r3, _⟩ := hU.cells; simp [results, Tryz.results91, go_sem, r1, r2, r3]) (fun U hU hK => ⟨_, rfl, fin _ rfl U hK, hU _ _ hbW (by omega)⟩)
  | true =>
    go_wp2
    refine ret3 (v := .agg #[.bool (decide (0 < ps.length)), .slice a2 ps.length c2, .slice a4 qs.length c4]) B2 rfl (fun U hU => by obtain ⟨r1, r2, r3, _⟩ := hU.cells; simp [results, Tryz.results91, go_sem, r1, r2, r3]) (fun U hU hK => ⟨_, rfl, fin _ (by simp) U hK, hU _ _ hbW (by omega)⟩)

theorem sg_abs (z : Int) : sg (decide (z < 0)) z.natAbs = z := by
  unfold sg
  by_cases h : z < 0
  · rw [if_pos (by simpa using h)]; omega
  · rw [if_neg (by simpa using h)]; omega

theorem fmd_whole {z : Int} {xs ys : List Nat} (hx : V xs = z.natAbs) (hy : V ys = 1) (tx : Tr xs) (ty : Tr ys) : Fmd (decide (z < 0)) xs ys ∧ qv (decide (z < 0)) xs ys = (z : Rat) := by
  refine ⟨⟨tx, ty, ?_, ?_, by rw [hy]; simp⟩, ?_⟩
  · rintro rfl; simp [V] at hy
  · rintro ⟨h1, rfl⟩; simp [V] at h1 hx; omega
  · unfold qv; rw [hx, hy, sg_abs]; exact Rat.mkRat_one z

theorem len_two {xs : List Nat} (t : Tr xs) (h : V xs < 18446744073709551616) : xs.length ≤ 2 := len_le_of_V t h

set_option maxHeartbeats 1000000 in
set_option maxRecDepth 100000 in
theorem whole_any (z : Int) (w : World) (h1 : -9223372036854775808 ≤ z) (h2 : z < 9223372036854775808) :
    Calls Tryz.prog 73 #[.int .i64 z] w fun e w' => ∃ v', e = .returned v' ∧ Fr w' v' 2 (z : Rat) ∧ Below w.heap.size w w' := by
  go_enter Tryz.func73, Tryz.ntmps73
  go_wp2_with fail
  refine (mag_any z _ h1 h2).mono ?_
  rintro e u ⟨rfl, rfl⟩
  go_wp2_with fail
  refine (of_any z.natAbs _ (by omega)).mono ?_
  rintro e u1 ⟨a1, c1, xs, rfl, hv1, ht1, hr1, hb1⟩
  obtain ⟨B1, hbW⟩ := after1 hb1
  have rx := hr1.rd
  clear hr1 hb1
  go_wp2_with fail
  refine (of_any 1 _ (by omega)).mono ?_
  rintro e u2 ⟨a2, c2, ys, rfl, hv2, ht2, hr2, hb2⟩
  have ry := hr2.rd
  replace rx := rx.below hb2
  replace B1 := B1.below hb2
  replace hbW : Below w.heap.size w u2 := hbW.trans (hb2.mono hbW.size)
  clear hr2 hb2
  obtain ⟨q1, q2, q3, q4, q5, q6⟩ := B1.cells
  have hs := B1.lt
  go_wp2
  have hF := fmd_whole hv1 hv2 ht1 ht2
  refine ret3 (v := .agg #[.bool (decide (z < 0)), .slice a1 xs.length c1, .slice a2 ys.length c2]) B1 rfl (fun U hU => by obtain ⟨r1, r2, r3, _⟩ := hU.cells; simp [results, Tryz.results73, go_sem, r1, r2, r3]) (fun U hU hK => ⟨_, rfl, ⟨_, _, _, ⟨_, _, _, _, rfl, hK _ _ _ rx, hK _ _ _ ry⟩, hF.1, len_two ht1 (by omega), len_two ht2 (by omega), hF.2⟩, hU _ _ hbW (by omega)⟩)

set_option maxHeartbeats 1000000 in
set_option maxRecDepth 100000 in
theorem counted_any (k : Nat) (q : Rat) (v : Value) (w : World) (h : Ct w v k q) (hk : k ≤ 400000000) (hk2 : 2 ≤ k) :
    Calls Tryz.prog 90 #[v] w fun e w' => ∃ v', e = .returned v' ∧ Fr w' v' k q ∧ Below w.heap.size w w' := by
  obtain ⟨n, xs, ys, ⟨a, c, a', c', rfl, hx, hy⟩, lx, ly, hq⟩ := h
  have HQ : Hid (q = if Fmd n xs ys then qv n xs ys else 0) := hq
  clear hq
  go_enter Tryz.func90, Tryz.ntmps90
  go_wp2_with fail
  refine (formed_any _ _ _ _ _ _ _ _ (hx.below (al2 _ _)) (hy.below (al2 _ _)) (by omega) (by omega)).mono ?_
  rintro e u1 ⟨rfl, hb1⟩
  replace hx := (hx.below (al2 _ _)).below hb1
  replace hy := (hy.below (al2 _ _)).below hb1
  obtain ⟨B1, B2, hbW⟩ := after2 hb1
  obtain ⟨p1, p2, p3, _⟩ := B1.cells
  obtain ⟨q1, q2, q3, q4, q5, q6⟩ := B2.cells
  have hs := B2.lt
  clear hb1
  by_cases hf : Fmd n xs ys
  · have e1 : decide (Fmd n xs ys) = true := decide_eq_true hf
    rw [e1]
    clear e1
    go_wp2
    refine ret3 (v := .agg #[.bool n, .slice a xs.length c, .slice a' ys.length c']) B2 rfl (fun U hU => by obtain ⟨r1, r2, r3, _⟩ := hU.cells; simp [results, Tryz.results90, go_sem, r1, r2, r3]) (fun U hU hK => ⟨_, rfl, ⟨_, _, _, ⟨_, _, _, _, rfl, hK _ _ _ hx, hK _ _ _ hy⟩, hf, lx, ly, by rw [HQ.out, if_pos hf]⟩, hU _ _ hbW (by omega)⟩)
  · have e1 : decide (Fmd n xs ys) = false := decide_eq_false hf
    rw [e1]
    clear e1
    go_wp2_with fail
    refine (whole_any 0 _ (by decide) (by decide)).mono ?_
    rintro e u2 ⟨v2, rfl, hF, hb2⟩
    replace B2 := B2.below hb2
    replace hbW : Below w.heap.size w u2 := hbW.trans (hb2.mono hbW.size)
    clear q1 q2 q3 q4 q5 q6
    obtain ⟨q1, q2, q3, q4, q5, q6⟩ := B2.cells
    have hs' := B2.lt
    obtain ⟨n', xs', ys', ⟨b, d, b', d', rfl, hx', hy'⟩, hf', lx', ly', he⟩ := hF
    go_wp2
    refine ret3 (v := .agg #[.bool n', .slice b xs'.length d, .slice b' ys'.length d']) B2 rfl (fun U hU => by obtain ⟨r1, r2, r3, _⟩ := hU.cells; simp [results, Tryz.results90, go_sem, r1, r2, r3]) (fun U hU hK => ⟨_, rfl, ⟨_, _, _, ⟨_, _, _, _, rfl, hK _ _ _ hx', hK _ _ _ hy'⟩, hf', by omega, by omega, by rw [HQ.out, if_neg hf, he]; rfl⟩, hU _ _ hbW (by omega)⟩)

end Go.Proofs.YtchdoakoelfenaaGreat
