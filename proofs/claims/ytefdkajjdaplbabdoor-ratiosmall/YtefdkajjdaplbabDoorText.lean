/-
  nat.Text: the walk.
-/
import Derived.Test.YtefdkajjdaplbabDoorFmt
import Derived.Test.YtefdkajjdaplbabDoorGrp
namespace Go.Proofs.YtefdkajjdaplbabDoor
open Go.RowKit Go.Lib
set_option linter.unusedSimpArgs false
set_option linter.unusedVariables false

/-- What is written when the groups from k on are. -/
def told (gs : List Nat) (k : Nat) : List UInt8 := if k = gs.length then [] else decDigits (G (gs.drop k))
theorem told_end (gs : List Nat) : told gs gs.length = [] := by unfold told; rw [if_pos rfl]
theorem told_top {gs : List Nat} {j g : Nat} (hj : j + 1 = gs.length) (hg : gs.getD j 0 = g) : told gs j = decDigits g := by
  unfold told
  rw [if_neg (by omega), G_drop, hg, show j + 1 = gs.length from hj, List.drop_length]
  rfl
theorem told_step {gs : List Nat} {v j g : Nat} (h : Grps gs v) (hj : j + 1 < gs.length) (hg : gs.getD j 0 = g) :
    told gs j = told gs (j + 1) ++ (List.replicate (9 - nDigits g) 48 ++ decDigits g) := by
  obtain ⟨_, _, hlt, htop⟩ := h
  have hgb : g < 1000000000 := by
    rw [← hg]
    refine hlt _ ?_
    simp [List.getD, show j < gs.length by omega]
  have hq : 1 ≤ G (gs.drop (j + 1)) := G_top (by rcases htop with h | h; omega; exact h) _ hj
  unfold told
  rw [if_neg (by omega), if_neg (by omega), G_drop, hg]
  exact group_step hq hgb
theorem told_zero {gs : List Nat} {v : Nat} (h : Grps gs v) : told gs 0 = decDigits v := by
  obtain ⟨hne, hv, _⟩ := h
  unfold told
  rw [if_neg (fun h => hne (List.length_eq_zero_iff.1 h.symm)), List.drop_zero, hv]

theorem dig_len {g : Nat} (h : g < 1000000000) : nDigits g ≤ 9 := (pad_dec 9 g (by decide) h).2

theorem rep48 (c : Nat) : repeatL [48] c = List.replicate c 48 := by
  have := repeatL_replicate 48 1 c
  rw [Nat.mul_one] at this
  exact this

set_option maxRecDepth 100000 in
theorem rep_any (c : Nat) (hc : c ≤ 9) (w : World) :
    Calls Tryd.prog 39 #[.string ⟨#[48]⟩, .int .i64 (c : Int)] w fun e w' => ∃ z : ByteArray, e = .returned (.string z) ∧ z.size = c ∧ strCells z = byteCells (List.replicate c 48) ∧ Below w.heap.size w w' := by
  have h1 : (⟨#[48]⟩ : ByteArray).size = 1 := rfl
  refine (Tryd.strings_Repeat ⟨#[48]⟩ c w (by omega) (by rw [h1]; omega)).mono ?_
  rintro e w' ⟨rfl, hb⟩
  have e1 : (⟨#[48]⟩ : ByteArray).data.toList = [48] := rfl
  rw [e1, rep48]
  refine ⟨_, rfl, ?_, rfl, hb⟩
  simp [ByteArray.size]

set_option maxHeartbeats 1000000 in
set_option maxRecDepth 100000 in
theorem text_any (a : Option Addr) (cap : Nat) (xs : List Nat) (w : World) (h : Rd w a cap xs) (hl : xs.length ≤ 10000000) (htab : Pow w) :
    Calls Tryd.prog 25 #[.slice a xs.length cap] w fun e w' => e = .returned (.string ⟨(decDigits (V xs)).toArray⟩) ∧ Below w.heap.size w w' := by
  go_enter Tryd.func25, Tryd.ntmps25
  go_wp2_with fail
  refine (groups_any a cap xs _ h hl).mono ?_
  rintro e w1 ⟨a1, c1, gs, rfl, hG, hgl, hr1, hb1⟩
  have fm := hr1.rd.fm
  have hs1 := hb1.size
  have htab1 := htab.below hb1
  have HG : Hid (Grps gs (V xs)) := hG
  have hne : 1 ≤ gs.length := by
    rcases Nat.eq_zero_or_pos gs.length with h | h
    · exact absurd (List.length_eq_zero_iff.1 h) hG.1
    · exact h
  clear hr1 h htab hG
  have hf0 := Lib.fresh_isBuilder 61 5 w1
  have hb0 : Below w1.heap.size w1 (w1.alloc (.cells #[.pointer none, .slice none 0 0] 61)) := (Below.refl _ _).alloc (Nat.le_refl _) _
  go_wp2
  go_loopw [5] (fun i wr => ∃ (k : Nat) (q : Int), k ≤ gs.length ∧ q = (k : Int) - 1 ∧ i = .int .i64 q ∧ (told gs k).length ≤ 9 * (gs.length - k) ∧ Lib.IsBuilder 61 5 w1.heap.size w1.heap.size (byteCells (told gs k)) wr ∧ Below w1.heap.size w1 wr) (fun i _ => (RowKit.intOf i + 1).toNat)
  case atStart => exact ⟨gs.length, _, Nat.le_refl _, rfl, rfl, by rw [told_end]; simp, by rw [told_end]; exact hf0, hb0⟩
  case round =>
    obtain ⟨k, q, hk, hq, rfl, hlen, hB, hnx⟩ := hrel
    have hsz := hnx.size
    by_cases hk0 : k = 0
    · subst hk0
      obtain rfl : q = -1 := by omega
      rw [told_zero HG.out] at hB hlen
      clear hq
      go_wp2_with fail
      refine (Tryd.Builder_String_any _ _ _ _ hB hsz).mono ?_
      rintro e w2 ⟨rfl, hb2⟩
      go_wp2
      go_ret
      exact ⟨rfl, hb1.trans ((hnx.trans hb2).mono hs1)⟩
    · obtain ⟨j, rfl⟩ : ∃ j, k = j + 1 := ⟨k - 1, by omega⟩
      obtain rfl : q = (j : Int) := by omega
      clear hq
      obtain ⟨bl, ol, rfl, hblt, hcx⟩ := fm.at hnx j (by omega)
      obtain ⟨x, hx⟩ : ∃ x, gs.getD j 0 = x := ⟨_, rfl⟩
      rw [hx] at hcx
      have bx : x < 1000000000 := by rw [← hx]; exact HG.out.2.2.1 _ (by simp [List.getD, show j < gs.length by omega])
      have HX : Hid (gs.getD j 0 = x) := hx
      clear hx
      have hd9 := dig_len bx
      go_wp2_with fail
      refine (fmt_any x (by omega) _ (htab1.below hnx)).mono ?_
      rintro e w2 ⟨rfl, hb2⟩
      have hB2 := built_below hB hb2
      have hnx2 : Below w1.heap.size w1 w2 := hnx.trans (hb2.mono hsz)
      have hsz2 := hnx2.size
      obtain ⟨s, hs⟩ : ∃ s : ByteArray, (⟨(decDigits x).toArray⟩ : ByteArray) = s := ⟨_, rfl⟩
      have hss : s.size = nDigits x := by rw [← hs, ← decDigits_length]; simp [ByteArray.size]
      have HSC : Hid (strCells s = byteCells (decDigits x)) := by show _ = _; rw [← hs]; rfl
      rw [hs]
      clear hs hB
      by_cases hjl : j + 1 < gs.length
      · obtain ⟨c, hc⟩ : ∃ c : Nat, c = 9 - nDigits x := ⟨_, rfl⟩
        have hci : (9 : Int) - (nDigits x : Int) = (c : Int) := by omega
        have hjc : (j : Int) < (gs.length : Int) - 1 := by omega
        have hc9 : c ≤ 9 := by omega
        have HC : Hid (c = 9 - nDigits x) := hc
        clear hc
        go_wp2_with fail
        refine (rep_any c hc9 _).mono ?_
        rintro e w3 ⟨z, rfl, hzs, hzc, hb3⟩
        have hB3 := built_below hB2 hb3
        have hnx3 : Below w1.heap.size w1 w3 := hnx2.trans (hb3.mono hsz2)
        have hsz3 := hnx3.size
        have HZC : Hid (strCells z = byteCells (List.replicate c 48)) := hzc
        clear hzc hB2
        go_wp2_with fail
        refine (writes_any _ _ _ z _ hB3 (by rw [byteCells_length, hzs]; omega) hsz3).mono ?_
        rintro e w4 ⟨rfl, hB4, hb4⟩
        have hnx4 : Below w1.heap.size w1 w4 := hnx3.trans hb4
        have hsz4 := hnx4.size
        rw [HZC.out, ← byteCells_append] at hB4
        clear hB3
        go_wp2_with fail
        refine (writes_any _ _ _ s _ (.inr hB4) (by rw [byteCells_length, hss, List.length_append, List.length_replicate]; omega) hsz4).mono ?_
        rintro e w5 ⟨rfl, hB5, hb5⟩
        have hnx5 : Below w1.heap.size w1 w5 := hnx4.trans hb5
        rw [HSC.out, ← byteCells_append, List.append_assoc, HC.out, ← told_step HG.out hjl HX.out] at hB5
        clear hB4
        go_wp2
        go_roundw
        case rel => exact ⟨j, _, by omega, rfl, rfl, by rw [told_step HG.out hjl HX.out]; simp [decDigits_length]; omega, .inr hB5, hnx5⟩
        case measure => simp [RowKit.intOf]
      · have hjc : ¬ (j : Int) < (gs.length : Int) - 1 := by omega
        have hje : j + 1 = gs.length := by omega
        go_wp2_with fail
        refine (writes_any _ _ _ s _ hB2 (by rw [byteCells_length, hss]; omega) hsz2).mono ?_
        rintro e w5 ⟨rfl, hB5, hb5⟩
        have hnx5 : Below w1.heap.size w1 w5 := hnx2.trans hb5
        rw [hje, told_end, HSC.out, ← byteCells_append, List.nil_append, ← told_top hje HX.out] at hB5
        clear hB2
        go_wp2
        go_roundw
        case rel => exact ⟨j, _, by omega, rfl, rfl, by rw [told_top hje HX.out, decDigits_length]; omega, .inr hB5, hnx5⟩
        case measure => simp [RowKit.intOf]

end Go.Proofs.YtefdkajjdaplbabDoor
