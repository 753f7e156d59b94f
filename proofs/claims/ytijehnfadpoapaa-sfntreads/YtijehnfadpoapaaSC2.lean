/-
  sfnt.Formed: the walk.
-/
import Derived.Test.YtijehnfadpoapaaSR2
import Derived.Test.YtijehnfadpoapaaSC0
namespace Go.Proofs.Ytijehnfadpoapaa
open Go.RowKit Go.Maps
set_option linter.unusedSimpArgs false
set_option linter.unusedVariables false

theorem keyS : Keyed Try.prog 9 := string_keyed Try.underlying9
theorem data_inj {a b : ByteArray} (h : a.data.toList = b.data.toList) : a = b := toList_inj (by rw [ByteArray.toList_eq, ByteArray.toList_eq]; exact h)
/-- A tag more that was seen. -/
theorem has_moreS {D : DataW Unit} {ws : List ByteArray} {l : ByteArray} (hm : IsMap D) (h : ∀ x : ByteArray, Maps.has D (.string x.data.toList) = true ↔ x ∈ ws) (x : ByteArray) :
    Maps.has (D.put (.string l.data.toList) (.agg [])) (.string x.data.toList) = true ↔ x ∈ ws ++ [l] := by
  by_cases e : x = l
  · subst e
    rw [has_put_same hm (show WideAt.IsKeyLit (.string x.data.toList) from trivial)]
    simp
  · rw [has_put_other (by intro e2; injection e2 with e3; exact e (data_inj e3)), h x]
    simp [e]

/-- The tags that were seen. -/
def Seen (w : World) (m k : Nat) (l : List Tb) : Prop := ∃ D : DataW Unit, w.ownsMap Try.prog 9 (unitElem (H := Unit)) m k D ∧ ∀ x : ByteArray, Maps.has D (.string x.data.toList) = true ↔ x ∈ (l.take k).map Tb.tx

theorem tx_take {l : List Tb} {k : Nat} {x : ByteArray} : x ∈ (l.take k).map Tb.tx ↔ ∃ j, j < k ∧ j < l.length ∧ (l.getD j Tb.none).tx = x := by
  rw [List.mem_map]
  constructor
  · rintro ⟨t, ht, e⟩
    obtain ⟨j, hj, e2⟩ := List.getElem_of_mem ht
    have h1 : j < k ∧ j < l.length := by simp at hj; omega
    refine ⟨j, h1.1, h1.2, ?_⟩
    rw [List.getElem_take] at e2
    rw [show l.getD j Tb.none = l[j] by simp [List.getD, h1.2], e2, e]
  · rintro ⟨j, h1, h2, e⟩
    refine ⟨l.getD j Tb.none, ?_, e⟩
    rw [show l.getD j Tb.none = l[j] by simp [List.getD, h2]]
    exact List.mem_take_iff_getElem.2 ⟨j, by omega, rfl⟩

set_option maxHeartbeats 1000000 in
set_option maxRecDepth 100000 in
theorem formed_any (a : Option Addr) (cap : Nat) (l : List Tb) (w : World) (h : Ts w a cap l) :
    Calls Try.prog 19 #[.slice a l.length cap] w fun e w' => e = .returned (.bool (frB l)) ∧ Below w.heap.size w w' := by
  have k1 := h.1
  have k2 := h.2.1
  unfold maxLen at k2
  have hmm := @run_makeMap Try.prog
  have HF : Hid (Frm l ↔ (1 ≤ l.length ∧ l.length ≤ 32) ∧ ∀ j, j < l.length → (gd (sb (l.getD j Tb.none).tx) = true ∧ (l.getD j Tb.none).bs.length ≤ 1048576) ∧ ∀ i, i < j → (l.getD i Tb.none).tx ≠ (l.getD j Tb.none).tx) := Frm.iff
  by_cases hn0 : l.length < 1
  · have g1 : ((l.length : Nat) : Int) < 1 := by omega
    go_enter Try.func19, Try.ntmps19
    go_wp2
    go_ret
    exact ⟨rt_bool (frB_no (fun hf => by have := (HF.out.1 hf).1.1; omega)).symm, Below.refl _ _⟩
  have g1 : ¬ ((l.length : Nat) : Int) < 1 := by omega
  by_cases hn1 : 32 < l.length
  · have g2 : 32 < ((l.length : Nat) : Int) := by omega
    go_enter Try.func19, Try.ntmps19
    go_wp2
    go_ret
    exact ⟨rt_bool (frB_no (fun hf => by have := (HF.out.1 hf).1.2; omega)).symm, Below.refl _ _⟩
  have g2 : ¬ 32 < ((l.length : Nat) : Int) := by omega
  go_enter Try.func19, Try.ntmps19
  go_wp2
  go_loopw [19] (fun i wr => ∃ k : Nat, k ≤ l.length ∧ i = .int .i64 k ∧ (∀ j, j < k → (gd (sb (l.getD j Tb.none).tx) = true ∧ (l.getD j Tb.none).bs.length ≤ 1048576) ∧ ∀ i, i < j → (l.getD i Tb.none).tx ≠ (l.getD j Tb.none).tx) ∧ Below w.heap.size w wr ∧ Seen wr w.heap.size k l) (fun i _ => l.length - (intOf i).toNat)
  case atStart => exact ⟨0, Nat.zero_le _, rfl, (fun j hj => by omega), bl1 _, ⟨_, World.ownsMap_made w Try.prog 9 (unitElem (H := Unit)), fun x => by simp [Maps.has]⟩⟩
  case round =>
    obtain ⟨k, hk, rfl, hok, hB, hS⟩ := hrel
    have HOK : Hid (∀ j, j < k → (gd (sb (l.getD j Tb.none).tx) = true ∧ (l.getD j Tb.none).bs.length ≤ 1048576) ∧ ∀ i, i < j → (l.getD i Tb.none).tx ≠ (l.getD j Tb.none).tx) := hok
    clear hok
    by_cases hkn : k < l.length
    · obtain ⟨b, off, c0, c, rfl, hb, d1, d2, hr⟩ := h.at hB k hkn
      have htx := h.tx hkn
      have hle := hr.le
      have hcp := hr.cap
      unfold maxLen at hcp
      clear hr
      obtain ⟨D, hown, hhas⟩ := hS
      obtain ⟨s, hs⟩ : ∃ s, l.getD k Tb.none = s := ⟨_, rfl⟩
      rw [hs] at d1 d2 htx hle
      have HS : Hid (l.getD k Tb.none = s) := hs
      clear hs
      obtain ⟨tx, bs⟩ := s
      dsimp only at *
      have hkey : keyOf Try.prog 9 (.string tx) = some (.string tx.data.toList) := WideMaps.keyOf_string_mk Try.underlying9 htx
      have hown1 := hown.alloc (.cells #[.string tx, .slice c0 bs.length c] 46)
      have hB1 := hB.alloc hB.size (.cells #[.string tx, .slice c0 bs.length c] 46)
      have hown2 := hown1.alloc (.cells #[] 70)
      have hB2 := hB1.alloc hB1.size (.cells #[] 70)
      have HHAS : Hid (∀ x : ByteArray, Maps.has D (.string x.data.toList) = true ↔ x ∈ (l.take k).map Tb.tx) := hhas
      have hh0 := hhas tx
      clear hhas
      by_cases hseen : tx ∈ (l.take k).map Tb.tx
      · have hh : Maps.has D (.string tx.data.toList) = true := hh0.2 hseen
        have hf : frB l = false := frB_no (fun hf => by
          obtain ⟨j, j1, j2, e⟩ := tx_take.1 hseen
          have := ((HF.out.1 hf).2 k hkn).2 j j1
          rw [HS.out] at this
          exact this e)
        have HFN : Hid (frB l = false) := hf
        clear hh0 hseen hf
        go_wp2_with (first | (at_lookup; refine wpList_lookup_own_unit _ rfl _ _ 69 rfl 9 70 keyS Try.underlying69 (zeroU _) w.heap.size _ D rfl hown1 _ _ rfl hkey ?_; rw [hh]) | fail)
        go_ret
        exact ⟨rt_bool HFN.out.symm, hB2⟩
      have hh : Maps.has D (.string tx.data.toList) = false := by rw [Bool.eq_false_iff]; exact fun e => hseen (hh0.1 e)
      have HSE : Hid (tx ∉ (l.take k).map Tb.tx) := hseen
      clear hh0 hseen
      by_cases hgd : gd (sb tx) = true
      rotate_left
      · have hgd : gd (sb tx) = false := by simpa using hgd
        have hf : frB l = false := frB_no (fun hf => by
          have := ((HF.out.1 hf).2 k hkn).1.1
          rw [HS.out, hgd] at this
          cases this)
        have HFN : Hid (frB l = false) := hf
        clear hf
        go_wp2_with (first | (at_lookup; refine wpList_lookup_own_unit _ rfl _ _ 69 rfl 9 70 keyS Try.underlying69 (zeroU _) w.heap.size _ D rfl hown1 _ _ rfl hkey ?_; rw [hh]) | fail)
        refine (good_any tx _ htx).mono ?_
        rintro e u ⟨rfl, rfl⟩
        rw [hgd]
        go_wp2
        go_ret
        exact ⟨rt_bool HFN.out.symm, hB2⟩
      by_cases hbl : 1048576 < bs.length
      · have hf : frB l = false := frB_no (fun hf => by
          have := ((HF.out.1 hf).2 k hkn).1.2
          rw [HS.out] at this
          dsimp only at this
          omega)
        have HFN : Hid (frB l = false) := hf
        clear hf
        go_wp2_with (first | (at_lookup; refine wpList_lookup_own_unit _ rfl _ _ 69 rfl 9 70 keyS Try.underlying69 (zeroU _) w.heap.size _ D rfl hown1 _ _ rfl hkey ?_; rw [hh]) | fail)
        refine (good_any tx _ htx).mono ?_
        rintro e u ⟨rfl, rfl⟩
        rw [hgd]
        have g3 : (1048576 : Int) < (bs.length : Int) := by omega
        go_wp2
        go_ret
        exact ⟨rt_bool HFN.out.symm, hB2⟩
      have htd := hown.isMap
      have HKM : Hid (k < maxLen) := by show k < maxLen; unfold maxLen; omega
      go_wp2_with (first | (at_lookup; refine wpList_lookup_own_unit _ rfl _ _ 69 rfl 9 70 keyS Try.underlying69 (zeroU _) w.heap.size _ D rfl hown1 _ _ rfl hkey ?_; rw [hh]) | fail)
      refine (good_any tx _ htx).mono ?_
      rintro e u ⟨rfl, rfl⟩
      rw [hgd]
      have g3 : ¬ (1048576 : Int) < (bs.length : Int) := by omega
      go_wp2_with (first | (at_mapUpdate; refine wpList_mapUpdate_in _ rfl _ _ _ 69 rfl 9 70 keyS Try.underlying69 (unitElem (H := Unit)) w.heap.size _ D rfl hown2 HKM.out _ _ _ rfl rfl hkey _ [] unitElem_mk ?_; intro w1 hown3 hturn3) | fail)
      have hB3 : Below w.heap.size w w1 := hB2.grown hturn3.grown (by have := hB2.size; simp at this ⊢; omega) (fun k hk => by cases hk; exact Nat.le_refl _)
      clear hown hown1 hown2 hB hB1 hB2 hturn3
      go_roundw
      case rel =>
        refine ⟨k + 1, by omega, by go_num, fun j hj => ?_, hB3, _, hown3, fun x => ?_⟩
        · rcases Nat.lt_or_ge j k with h1 | h1
          · exact HOK.out j h1
          · rw [show j = k by omega, HS.out]
            refine ⟨⟨hgd, by dsimp only; omega⟩, fun i hi e => HSE.out (tx_take.2 ⟨i, by omega, by omega, e⟩)⟩
        · rw [has_moreS htd HHAS.out, List.take_succ_eq_append_getElem hkn, List.map_append]
          have e : l[k] = ⟨tx, bs⟩ := by rw [← HS.out]; simp [List.getD, hkn]
          rw [e]
          rfl
      case measure => simp [intOf]; omega
    · obtain rfl : k = l.length := by omega
      have hf : frB l = true := frB_iff.2 (HF.out.2 ⟨⟨by omega, by omega⟩, HOK.out⟩)
      go_wp2
      go_ret
      exact ⟨rt_bool hf.symm, hB⟩

end Go.Proofs.Ytijehnfadpoapaa
