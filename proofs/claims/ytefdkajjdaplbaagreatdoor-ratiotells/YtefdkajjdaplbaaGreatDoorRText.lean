/-
  foundryref01.Text: the walk.
-/
import Derived.Test.YtefdkajjdaplbaaGreatDoorDig
import Derived.Test.YtefdkajjdaplbaaGreatDoorRGcd
import Derived.Test.YtefdkajjdaplbaaGreatDoorROf
import Derived.Lib.ItoaMem
import Derived.Laws.Concat
import Derived.Laws.IdiomStrings
namespace Go.Proofs.YtefdkajjdaplbaaGreatDoor
open Go.RowKit Go.Lib
set_option linter.unusedSimpArgs false
set_option linter.unusedVariables false

/-- The digits; of 0 none. -/
def pre (n : Nat) : List UInt8 := if n = 0 then [] else decDigits n
theorem pre_zero : pre 0 = [] := rfl
theorem pre_pos {n : Nat} (h : n ≠ 0) : pre n = decDigits n := by unfold pre; rw [if_neg h]
theorem pre_step {n : Nat} (h : n ≠ 0) : pre n = pre (n / 10) ++ [UInt8.ofNat (48 + n % 10)] := by
  rw [pre_pos h]
  by_cases h1 : n < 10
  · rw [Nat.div_eq_of_lt h1, pre_zero, decDigits_one h1, Nat.mod_eq_of_lt h1, List.nil_append]
  · rw [dec_big h1, pre_pos (by omega)]

theorem nDigits_le : ∀ (k v : Nat), v < 2 ^ k → nDigits v ≤ k + 1 := by
  intro k
  induction k with
  | zero => intro v h; rw [nDigits_small (by omega)]; omega
  | succ k ih =>
    intro v h
    by_cases h1 : v < 10
    · rw [nDigits_small h1]; omega
    · rw [nDigits_big h1]
      have := ih (v / 10) (by rw [Nat.pow_succ] at h; omega)
      omega

theorem byte_toNat {d : Nat} (h : d < 10) : ((UInt8.ofNat (48 + d)).toNat : Int) = 48 + (d : Int) := by
  rw [UInt8.toNat_ofNat']
  omega

theorem str_one (w : World) (q : Int) (d : Nat) (hd : d < 10) (hq : q = 48 + (d : Int)) :
    (convert 94 9 (.slice (some ⟨w.heap.size, 0, none⟩) 1 1)).run Tryz.prog (w.alloc (.cells #[.int .u8 q] 5)) = .ok (.string ⟨#[UInt8.ofNat (48 + d)]⟩) (w.alloc (.cells #[.int .u8 q] 5)) := by
  subst hq
  refine run_convert_bytes_back (P := Tryz.prog) _ 94 9 5 ⟨w.heap.size, 0, none⟩ 1 [UInt8.ofNat (48 + d)] Tryz.underlying94 Tryz.underlying5 Tryz.underlying9 (fun j hj => ?_)
  obtain rfl : j = 0 := by simp at hj; exact hj
  rw [Lib.add_plain, World.cell?_alloc_new, List.getElem_cons_zero, byte_toNat hd]
  rfl

set_option maxHeartbeats 1000000 in
set_option maxRecDepth 100000 in
theorem rtext_any (a : Option Addr) (cap : Nat) (xs : List Nat) (w : World) (h : Rd w a cap xs) (hl : xs.length ≤ 10000000) :
    Calls Tryz.prog 58 #[.slice a xs.length cap] w fun e w' => e = .returned (.string ⟨(decDigits (V xs)).toArray⟩) ∧ Below w.heap.size w w' := by
  have lX := h.lim
  have HN : Hid (nDigits (V xs) ≤ 320000001) := by
    have h1 := V_lt lX
    have e : 4294967296 ^ xs.length = 2 ^ (32 * xs.length) := by rw [Nat.pow_mul]
    rw [e] at h1
    have := nDigits_le _ _ h1
    show _ ≤ _
    omega
  go_enter Tryz.func58, Tryz.ntmps58
  go_wp2_with fail
  refine (rtrim_any a cap xs _ h (by omega)).mono ?_
  rintro e w1 ⟨a1, c1, rfl, hr1, hb1⟩
  have HV0 : Hid (V (strip xs) = V xs) := V_strip xs
  have tX := tr_strip xs
  have hsl := strip_length_le xs
  generalize strip xs = X0 at *
  have hs1 := hb1.size
  clear h
  by_cases hX0 : X0.length = 0
  · have HZ : Hid (V xs = 0) := by show _ = _; rw [← HV0.out, List.length_eq_zero_iff.1 hX0]; rfl
    have hX1 : ((X0.length : Int) == 0) = true := beq_iff_eq.2 (by omega)
    clear hX0
    go_wp2
    go_ret
    exact ⟨by rw [HZ.out, decDigits_one (by decide)]; rfl, hb1⟩
  · have HZ : Hid (V xs ≠ 0) := by
      show _ ≠ _
      rw [← HV0.out]
      intro h
      exact hX0 (by rw [eq_nil_of_V tX h]; rfl)
    have hX1 : ((X0.length : Int) == 0) = false := beq_eq_false_iff_ne.2 (by omega)
    clear hX0
    go_wp2
    go_loopg [3, 4] (V X0) (fun gk p q wr => ∃ (aT : Option Addr) (cT : Nat) (T : List Nat) (s : ByteArray), p = .slice aT T.length cT ∧ q = .string s ∧ V T = gk ∧ Tr T ∧ T.length ≤ 10000000 ∧ pre (V T) ++ s.data.toList = decDigits (V xs) ∧ Res 72 w.heap.size wr aT cT T ∧ Below w.heap.size w wr)
    case atStart => exact ⟨a1, c1, X0, ⟨#[]⟩, rfl, rfl, rfl, tX, by omega, by rw [HV0.out, pre_pos HZ.out]; simp, hr1, hb1⟩
    case round =>
      obtain ⟨aT, cT, T, s, rfl, rfl, hk, tT, hT, htx, rT, hnx⟩ := hrel
      have HK : Hid (V T = gk) := hk
      have HT : Hid (pre (V T) ++ s.data.toList = decDigits (V xs)) := htx
      have hsz := hnx.size
      clear hk htx
      by_cases hT0 : T.length = 0
      · have HT0 : Hid (V T = 0) := by show _ = _; rw [List.length_eq_zero_iff.1 hT0]; rfl
        have hT1 : ¬ (0 : Int) < (T.length : Int) := by omega
        clear hT0
        go_wp2
        go_ret
        refine ⟨?_, hnx⟩
        have := HT.out
        rw [HT0.out, pre_zero, List.nil_append] at this
        rw [← this, Array.toArray_toList]
        rfl
      · have hT1 : (0 : Int) < (T.length : Int) := by omega
        have HPOS : Hid (V T ≠ 0) := by
          show _ ≠ _
          intro h
          exact hT0 (by rw [eq_nil_of_V tT h]; rfl)
        clear hT0
        go_wp2_with fail
        refine (rof_any 10 _ (by decide)).mono ?_
        rintro e w2 ⟨a2, c2, z2, rfl, hv2, ht2, hr2, hb2⟩
        have hnx2 : Below w.heap.size w w2 := hnx.trans (hb2.mono hsz)
        have rT2 := rT.below hb2
        have hz2 : z2.length ≤ 1 := len_le_of_V ht2 (by rw [hv2]; decide)
        have HV2 : Hid (V z2 = 10) := hv2
        clear hv2 rT
        go_wp2_with fail
        refine (rdiv_any _ _ _ _ _ _ _ rT2.rd hr2.rd hT (by omega)).mono ?_
        rintro e w3 ⟨a3, c3, z3, a4, c4, z4, rfl, hv3, hv4, ht3, ht4, hr3, hr4, hb3⟩
        have hnx3 : Below w.heap.size w w3 := hnx2.trans (hb3.mono hnx2.size)
        rw [HV2.out] at hv3 hv4
        rw [remN_pos _ (by decide)] at hv4
        have hz4 : z4.length ≤ 1 := len_le_of_V ht4 (by rw [hv4]; omega)
        have HV3 : Hid (V z3 = V T / 10) := hv3
        have HV4 : Hid (V z4 = V T % 10) := hv4
        have hl3 : z3.length ≤ T.length := by
          rcases Nat.lt_or_ge T.length z3.length with h | h
          · have h1 := V_lt_of_length rT2.lim ht3 h
            rw [HV3.out] at h1
            omega
          · exact h
        clear hv3 hv4 rT2 hr2
        go_wp2_with fail
        refine (rsmall_any _ _ _ _ hr4.rd (by omega)).mono ?_
        rintro e w4 ⟨rfl, hb4⟩
        have hnx4 : Below w.heap.size w w4 := hnx3.trans (hb4.mono hnx3.size)
        have hr3' := hr3.below hb4
        have hsv : smallN (V z4) = V T % 10 := by rw [smallN_lt (by rw [HV4.out]; omega), HV4.out]
        rw [hsv]
        obtain ⟨d, hd⟩ : ∃ d, V T % 10 = d := ⟨_, rfl⟩
        have hd10 : d < 10 := by rw [← hd]; omega
        rw [hd]
        have HD : Hid (V T % 10 = d) := hd
        generalize isSmall (V z4) = bv
        have hcv := str_one w4 (48 + (d : Int)) d hd10 rfl
        obtain ⟨o, ho⟩ : ∃ o : ByteArray, (⟨#[UInt8.ofNat (48 + d)]⟩ : ByteArray) = o := ⟨_, rfl⟩
        have hos : o.size = 1 := by rw [← ho]; rfl
        have HO : Hid (o.data.toList = [UInt8.ofNat (48 + d)]) := by show _ = _; rw [← ho]
        rw [ho] at hcv
        have hss : s.size ≤ 320000001 := by
          have h1 := congrArg List.length HT.out
          rw [List.length_append, decDigits_length] at h1
          have h2 := HN.out
          rw [Lib.size_eq]
          omega
        clear ho hsv hd hr3 hr4
        go_wp2
        go_roundg (V z3)
        case measure =>
          have h1 := HPOS.out
          have h2 := HV3.out
          have h3 := HK.out
          omega
        case rel =>
          refine ⟨a3, c3, z3, o ++ s, rfl, rfl, rfl, ht3, by omega, ?_, (hr3'.below ((Below.refl _ _).alloc (Nat.le_refl _) _)).mono hnx2.size, hnx4.alloc hnx4.size _⟩
          · rw [ByteArray.data_append, Array.toList_append, HO.out, HV3.out, ← List.append_assoc, ← HD.out, ← pre_step HPOS.out]
            exact HT.out

end Go.Proofs.YtefdkajjdaplbaaGreatDoor
