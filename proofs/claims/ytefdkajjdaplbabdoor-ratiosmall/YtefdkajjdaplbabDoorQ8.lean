/-
  ratio.Text: the walk.
-/
import Derived.Test.YtefdkajjdaplbabDoorQ6
import Derived.Test.YtefdkajjdaplbabDoorText
namespace Go.Proofs.YtefdkajjdaplbabDoor
open Go.RowKit Go.Lib Classical
set_option linter.unusedSimpArgs false
set_option linter.unusedVariables false

/-- The chapter's text of a number. -/
def txt (q : Rat) : List UInt8 := (if q < 0 then [45] else []) ++ (decDigits q.num.natAbs ++ (if q.den = 1 then [] else 47 :: decDigits q.den))

theorem Fmd.lt_zero {n : Bool} {xs ys : List Nat} (h : Fmd n xs ys) : qv n xs ys < 0 ↔ n = true := by
  have key : 0 ≤ qv n xs ys ↔ 0 ≤ sg n (V xs) := by rw [← Rat.num_nonneg, h.parts.1]
  rw [← Rat.not_le, key]
  cases n with
  | false => simp [sg]
  | true =>
    have := h.neg rfl
    simp [sg]; omega

theorem txt_of {n : Bool} {xs ys : List Nat} (h : Fmd n xs ys) (ly : Lim ys) : txt (qv n xs ys) = (if n = true then [45] else []) ++ (decDigits (V xs) ++ (if ys = [1] then [] else 47 :: decDigits (V ys))) := by
  unfold txt
  rw [h.parts.1, h.parts.2, sg_natAbs]
  have e1 : (qv n xs ys < 0) = (n = true) := propext h.lt_zero
  have e2 : (V ys = 1) = (ys = [1]) := propext (V_eq_one ly h.2.1)
  simp only [e1, e2]

theorem digits_le : ∀ (k v : Nat), v < 2 ^ k → nDigits v ≤ k + 1 := by
  intro k
  induction k with
  | zero => intro v h; rw [nDigits_small (by omega)]; omega
  | succ k ih =>
    intro v h
    by_cases h1 : v < 10
    · rw [nDigits_small h1]; omega
    · rw [nDigits_big h1]
      have := ih (v / 10) (by rw [Nat.pow_succ] at h; omega)
      omega

/-- The digits of a natural, as a string of a size that is known. -/
theorem dec_str {xs : List Nat} (l : Lim xs) (h : xs.length ≤ 10000000) : ∃ s : ByteArray, (⟨(decDigits (V xs)).toArray⟩ : ByteArray) = s ∧ s.size ≤ 320000001 ∧ s.data.toList = decDigits (V xs) := by
  refine ⟨_, rfl, ?_, by simp⟩
  have h1 := V_lt l
  have e : 4294967296 ^ xs.length = 2 ^ (32 * xs.length) := by rw [Nat.pow_mul]
  rw [e] at h1
  have := digits_le _ _ h1
  rw [Lib.size_eq]
  simp [decDigits_length]
  omega

theorem ret_str {s : ByteArray} {l : List UInt8} (h : s.data.toList = l) : Ending.returned (.string s) = .returned (.string ⟨l.toArray⟩) := by
  subst h
  simp

set_option maxHeartbeats 2000000 in
set_option maxRecDepth 100000 in
theorem qtext_any (k : Nat) (q : Rat) (v : Value) (w : World) (h : Ct w v k q) (hk : k ≤ 10000000) (hk2 : 2 ≤ k) (htab : Pow w) :
    Calls Tryd.prog 12 #[v] w fun e w' => e = .returned (.string ⟨(txt q).toArray⟩) ∧ Below w.heap.size w w' := by
  have hX := h
  obtain ⟨n, xs, ys, ⟨a, c, a', c', rfl, hx, hy⟩, lx, ly, hq⟩ := h
  clear hq hx hy lx ly
  go_enter Tryd.func12, Tryd.ntmps12
  go_wp2_with fail
  refine (counted_any k q _ _ (hX.below (al1 _)) (by omega) hk2).mono ?_
  rintro e u1 ⟨v1, rfl, hF1, hb1⟩
  obtain ⟨B1, hbW⟩ := after1 hb1
  clear hb1 hX
  obtain ⟨p4, p5, p6, p7, p8, p9⟩ := B1.cells
  have hs2 := B1.lt
  obtain ⟨n1, x1, y1, ⟨b1, d1, b2, d2, rfl, hx', hy'⟩, hf1, l1, l2, he⟩ := hF1
  have HT : Hid (txt q = (if n1 = true then [45] else []) ++ (decDigits (V x1) ++ (if y1 = [1] then [] else 47 :: decDigits (V y1)))) := by
    show _ = _; rw [← he]; exact txt_of hf1 hy'.lim
  go_wp2_with fail
  obtain ⟨U, hU, B2, hbU, hK, ho⟩ := set3_world B1 (.bool n1) (.slice b1 x1.length d1) (.slice b2 y1.length d2)
  rw [← hU]
  clear hU p4 p5 p6 p7 p8 p9 hs2
  replace hbW := hbU _ _ hbW (by omega)
  replace hx' := hK _ _ _ hx'
  replace hy' := hK _ _ _ hy'
  clear B1 hbU hK ho
  refine (text_any _ _ _ _ hx' (by omega) (htab.below hbW)).mono ?_
  rintro e u2 ⟨rfl, hb2⟩
  replace B2 := B2.below hb2
  replace hy' := hy'.below hb2
  replace hbW : Below w.heap.size w u2 := hbW.trans (hb2.mono hbW.size)
  have lX1 := hx'.lim
  clear hb2 hx'
  obtain ⟨s1, e1, z1, t1⟩ := dec_str lX1 (by omega)
  obtain ⟨s2, e2, z2, t2⟩ := dec_str hy'.lim (by omega)
  rw [e1]
  rw [← t1, ← t2] at HT
  clear e1 t1 t2
  obtain ⟨p4, p5, p6, _⟩ := B2.cells
  cases n1 with
  | false =>
    go_wp2_with fail
    refine (isOne_any _ _ _ _ hy').mono ?_
    rintro e u ⟨rfl, rfl⟩
    by_cases h1 : y1 = [1]
    · have e1 : decide (y1 = [1]) = true := decide_eq_true h1
      rw [e1]
      clear e1
      go_wp2
      go_ret
      exact ⟨ret_str (by rw [HT.out, if_pos h1]; simp [ByteArray.data_append]), hbW⟩
    · have e1 : decide (y1 = [1]) = false := decide_eq_false h1
      rw [e1]
      clear e1
      go_wp2_with fail
      refine (text_any _ _ _ _ hy' (by omega) (htab.below hbW)).mono ?_
      rintro e u3 ⟨rfl, hb3⟩
      rw [e2]
      replace hbW : Below w.heap.size w u3 := hbW.trans (hb3.mono hbW.size)
      clear hb3 p4 p5 p6
      go_wp2
      go_ret
      exact ⟨ret_str (by rw [HT.out, if_neg h1]; simp [ByteArray.data_append]), hbW⟩
  | true =>
    go_wp2_with fail
    refine (isOne_any _ _ _ _ hy').mono ?_
    rintro e u ⟨rfl, rfl⟩
    by_cases h1 : y1 = [1]
    · have e1 : decide (y1 = [1]) = true := decide_eq_true h1
      rw [e1]
      clear e1
      go_wp2
      go_ret
      exact ⟨ret_str (by rw [HT.out, if_pos h1]; simp [ByteArray.data_append]), hbW⟩
    · have e1 : decide (y1 = [1]) = false := decide_eq_false h1
      rw [e1]
      clear e1
      go_wp2_with fail
      refine (text_any _ _ _ _ hy' (by omega) (htab.below hbW)).mono ?_
      rintro e u3 ⟨rfl, hb3⟩
      rw [e2]
      replace hbW : Below w.heap.size w u3 := hbW.trans (hb3.mono hbW.size)
      clear hb3 p4 p5 p6
      go_wp2
      go_ret
      exact ⟨ret_str (by rw [HT.out, if_neg h1]; simp [ByteArray.data_append]), hbW⟩

end Go.Proofs.YtefdkajjdaplbabDoor
