/-
  foundryref05.Find, foundrylaw05.few, plain: the walks.
-/
import Derived.Test.YtijehnfadpoapaaSR0
namespace Go.Proofs.Ytijehnfadpoapaa
open Go.RowKit Go.Maps
set_option linter.unusedSimpArgs false
set_option linter.unusedVariables false

theorem teq_no {a b : ByteArray} (h : a ≠ b) : (a.toList == b.toList) = false := beq_eq_false_iff_ne.2 (fun e => h (toList_inj e))
theorem teq_yes (a : ByteArray) : (a.toList == a.toList) = true := by simp
theorem bless_iff : ∀ (a b : List UInt8), Op.bytesLess a b = true ↔ a < b := by
  intro a
  induction a with
  | nil => intro b; cases b <;> simp [Op.bytesLess]
  | cons x a ih =>
    intro b
    cases b with
    | nil => simp [Op.bytesLess]
    | cons y b =>
      rw [Op.bytesLess, List.cons_lt_cons_iff, ← ih b]
      simp
theorem tlt_yes {a b : ByteArray} (h : tlt a b) : Op.bytesLess a.toList b.toList = true := (bless_iff _ _).2 h
theorem tlt_no {a b : ByteArray} (h : ¬ tlt a b) : Op.bytesLess a.toList b.toList = false := by
  rw [Bool.eq_false_iff]
  exact fun e => h ((bless_iff _ _).1 e)

/-- What is found. -/
def fndO (l : List Tb) (t : ByteArray) : Option Tb := l.find? (fun s => decide (s.tx = t))
def fndB (l : List Tb) (t : ByteArray) : List Nat := ((fndO l t).getD Tb.none).bs
def fndE (l : List Tb) (t : ByteArray) : Int := if (fndO l t).isSome then 0 else 5
theorem fnd_at {l : List Tb} {t : ByteArray} {k : Nat} (hk : k < l.length) (hno : ∀ j, j < k → (l.getD j Tb.none).tx ≠ t) (h : (l.getD k Tb.none).tx = t) : fndO l t = some (l.getD k Tb.none) := by
  have e : l.getD k Tb.none = l[k] := by simp [List.getD, hk]
  rw [e] at h ⊢
  unfold fndO
  rw [List.find?_eq_some_iff_getElem]
  refine ⟨by simpa using h, k, hk, rfl, fun j hj => ?_⟩
  have := hno j hj
  simp [List.getD, show j < l.length by omega] at this
  simpa using this
theorem fnd_no {l : List Tb} {t : ByteArray} (hno : ∀ j, j < l.length → (l.getD j Tb.none).tx ≠ t) : fndO l t = none := by
  unfold fndO
  rw [List.find?_eq_none]
  intro s hs
  obtain ⟨i, hi, e⟩ := List.getElem_of_mem hs
  have := hno i hi
  simp [List.getD, hi, e] at this
  simpa using this

set_option maxHeartbeats 1000000 in
set_option maxRecDepth 100000 in
theorem sfind_any (a : Option Addr) (cap : Nat) (l : List Tb) (t : ByteArray) (w : World) (h : Ts w a cap l) (hs : ∀ s ∈ l, s.bs.length ≤ 1000000000) :
    Calls Try.prog 15 #[.slice a l.length cap, .string t] w fun e w' => ∃ a' cap', e = .returned (.tuple #[.slice a' (fndB l t).length cap', .int .i64 (fndE l t)]) ∧ Rw 5 w.heap.size w' a' cap' (fndB l t) ∧ Below w.heap.size w w' := by
  obtain ⟨i0, hi, hz0, hz1, hz2⟩ := info_parts info_byte
  have k1 := h.1
  have k2 := h.2.1
  unfold maxLen at k2
  go_enter Try.func15, Try.ntmps15
  go_wp2
  go_loop [6] (fun i => ∃ k : Nat, k ≤ l.length ∧ i = .int .i64 k ∧ ∀ j, j < k → (l.getD j Tb.none).tx ≠ t) (fun i => l.length - (intOf i).toNat)
  case atStart => exact ⟨0, Nat.zero_le _, rfl, fun j hj => by omega⟩
  case round =>
    obtain ⟨k, hk, rfl, hno⟩ := hrel
    by_cases hkn : k < l.length
    · obtain ⟨b, off, c0, c, rfl, hb, d1, d2, hr⟩ := h.at (Below.refl _ _) k hkn
      have hfa := fnd_at (t := t) hkn hno
      have hno' : (l.getD k Tb.none).tx ≠ t → ∀ j, j < k + 1 → (l.getD j Tb.none).tx ≠ t := fun hn j hj => by
        rcases Nat.lt_or_ge j k with h1 | h1
        · exact hno j h1
        · rw [show j = k by omega]; exact hn
      have hsz := hs _ (getD_mem hkn)
      generalize l.getD k Tb.none = s at *
      obtain ⟨tx, bs⟩ := s
      dsimp only at *
      by_cases htx : tx = t
      · subst htx
        have hF : Hid (fndO l tx = some ⟨tx, bs⟩) := hfa rfl
        clear hno hno' hfa
        go_wp2_with (at_builtin; refine wpList_append_rb rfl _ _ 23 rfl w.heap.size 5 i0 Try.underlying23 hi hz0 hz1 hz2 _ 0 [] rfl (World.ownsRow_nil w _ _ 1) c0 c _ bs rfl rfl hr (by omega) (Nat.le_refl _) ?_)
        intro v' w1 hown hgrow hat
        obtain ⟨a1, c1, rfl, hr1⟩ := Rw.of hr.lim hown
        have hb1 : Below w.heap.size w w1 := (Below.refl w.heap.size w).grown hgrow (Nat.le_refl _) (by intro k hk; cases hk)
        clear hown hgrow hat
        have e1 : fndB l tx = bs := by rw [fndB, hF.out]; rfl
        have e2 : fndE l tx = 0 := by rw [fndE, hF.out]; rfl
        go_wp2
        go_ret2
        exact ⟨a1, c1, by rw [e1, e2]; rfl, by rw [e1]; exact hr1, hb1⟩
      · have hbq := teq_no htx
        have HNO : Hid (∀ j, j < k + 1 → (l.getD j Tb.none).tx ≠ t) := hno' htx
        clear hno hno' hfa htx
        go_wp2
        go_round
        case rel => exact ⟨k + 1, by omega, by go_num, HNO.out⟩
        case measure => simp [intOf]; omega
    · obtain rfl : k = l.length := by omega
      have hF := fnd_no hno
      have e1 : fndB l t = [] := by rw [fndB, hF]; rfl
      have e2 : fndE l t = 5 := by rw [fndE, hF]; rfl
      clear hno hF
      go_wp2
      go_ret2
      exact ⟨none, 0, rfl, Rw.nil _ _, Below.refl _ _⟩

/-- How great a list of tables is. -/
def tz1 (t : Tb) : Nat := 20 + min t.bs.length 30000
def ttot : List Tb → Nat
  | [] => 0
  | t :: l => tz1 t + ttot l
theorem ttot_append (xs ys : List Tb) : ttot (xs ++ ys) = ttot xs + ttot ys := by
  induction xs with
  | nil => simp [ttot]
  | cons x xs ih => rw [List.cons_append, ttot, ttot, ih]; omega
theorem ttot_snoc (l : List Tb) (k : Nat) (hk : k < l.length) : ttot (l.take (k + 1)) = ttot (l.take k) + tz1 (l.getD k Tb.none) := by
  rw [List.take_succ_eq_append_getElem hk, ttot_append]
  simp [ttot, List.getD, hk]
theorem ttot_take_le (l : List Tb) (k : Nat) : ttot (l.take k) ≤ ttot l := by
  have h := ttot_append (l.take k) (l.drop k)
  rw [List.take_append_drop] at h
  omega
def fewT (l : List Tb) : Bool := decide (ttot l ≤ 20000 ∧ l.length ≤ 60)

set_option maxHeartbeats 1000000 in
set_option maxRecDepth 100000 in
theorem few5_any (a : Option Addr) (cap : Nat) (l : List Tb) (w : World) (h : Ts w a cap l) :
    Calls Try.prog 10 #[.slice a l.length cap] w fun e w' => e = .returned (.bool (fewT l)) ∧ w = w' := by
  have k1 := h.1
  have k2 := h.2.1
  unfold maxLen at k2
  go_enter Try.func10, Try.ntmps10
  go_wp2
  go_loop [3, 4] (fun n i => ∃ k : Nat, k ≤ l.length ∧ i = .int .i64 k ∧ n = .int .i64 (ttot (l.take k) : Int) ∧ ttot (l.take k) ≤ 60020) (fun _ i => l.length - (intOf i).toNat)
  case atStart => exact ⟨0, Nat.zero_le _, rfl, rfl, by simp [ttot]⟩
  case round =>
    obtain ⟨k, hk, rfl, rfl, hn⟩ := hrel
    obtain ⟨t, ht⟩ : ∃ t, ttot (l.take k) = t := ⟨_, rfl⟩
    rw [ht] at hn ⊢
    have HT : Hid (ttot (l.take k) = t) := ht
    clear ht
    by_cases hkn : k < l.length
    · by_cases ht2 : t ≤ 20000
      · obtain ⟨b, off, c0, c, rfl, hb, d1, d2, hr⟩ := h.at (Below.refl _ _) k hkn
        have hle := hr.le
        have hcp := hr.cap
        unfold maxLen at hcp
        have hsn := ttot_snoc l k hkn
        rw [HT.out] at hsn
        unfold tz1 at hsn
        generalize l.getD k Tb.none = o at *
        obtain ⟨tx, bs⟩ := o
        dsimp only at *
        have HSN : Hid (ttot (l.take (k + 1)) = t + (20 + min bs.length 30000)) := hsn
        have hg : (t : Int) ≤ 20000 := by omega
        clear hsn hr
        go_wp2
        go_round
        case rel =>
          refine ⟨k + 1, by omega, by go_num, ?_, ?_⟩
          · rw [HSN.out]; simp; try omega
          · rw [HSN.out]; omega
        case measure => simp [intOf]; omega
      · have hg : ¬ (t : Int) ≤ 20000 := by omega
        have hf : Hid (fewT l = false) := by
          show fewT l = false
          have := ttot_take_le l k
          rw [HT.out] at this
          simp [fewT]
          omega
        go_wp2
        go_ret
        exact ⟨rt_bool (by rw [hf.out]), rfl⟩
    · obtain rfl : k = l.length := by omega
      have hf : Hid (fewT l = decide (t ≤ 20000 ∧ l.length ≤ 60)) := by
        have := HT.out
        rw [List.take_length] at this
        show fewT l = _
        rw [fewT, this]
      by_cases hg : (t : Int) ≤ 20000
      · go_wp2
        go_ret
        refine ⟨rt_bool ?_, rfl⟩
        rw [hf.out]
        have ht3 : t ≤ 20000 := by omega
        by_cases hq : l.length ≤ 60
        · simp [ht3, hq]; omega
        · simp [ht3, hq]; omega
      · go_wp2
        go_ret
        exact ⟨rt_bool (by rw [hf.out]; simp; try omega), rfl⟩

end Go.Proofs.Ytijehnfadpoapaa
