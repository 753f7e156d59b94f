/-
  octets.Good, PutTag: the walks.
-/
import Derived.Test.YtijehnfadpoapaaO2
import Derived.Laws.IdiomStrings
namespace Go.Proofs.Ytijehnfadpoapaa
open Go.RowKit Go.Maps
set_option linter.unusedSimpArgs false
set_option linter.unusedVariables false

/-- The bytes of a text. -/
def sb (t : ByteArray) : List Nat := t.data.toList.map UInt8.toNat
theorem byt_sb (t : ByteArray) : Byt (sb t) := by
  intro x hx
  obtain ⟨y, _, rfl⟩ := List.mem_map.1 hx
  exact UInt8.toNat_lt y
theorem len_sb (t : ByteArray) : (sb t).length = t.size := by rw [sb, List.length_map, Array.length_toList]; rfl
/-- A byte of a tag. -/
def okb (xs : List Nat) : Bool := xs.all (fun x => decide (32 ≤ x) && decide (x ≤ 126))
/-- A good tag. -/
def gd (xs : List Nat) : Bool := xs.length == 4 && okb xs
theorem sb_drop (t : ByteArray) (k : Nat) (hk : k < t.size) : (sb t).drop k = t[k].toNat :: (sb t).drop (k + 1) := by
  have hl : k < (sb t).length := by rw [len_sb]; exact hk
  rw [List.drop_eq_getElem_cons hl]
  congr 1
  simp only [sb, List.getElem_map, Array.getElem_toList]
  rfl
theorem okb_drop (t : ByteArray) (k : Nat) (hk : k < t.size) : okb ((sb t).drop k) = ((decide (32 ≤ t[k].toNat) && decide (t[k].toNat ≤ 126)) && okb ((sb t).drop (k + 1))) := by
  rw [sb_drop t k hk]; rfl

set_option maxHeartbeats 400000 in
set_option maxRecDepth 100000 in
theorem good_any (t : ByteArray) (w : World) (ht : t.size ≤ maxLen) :
    Calls Try.prog 38 #[.string t] w fun e w' => e = .returned (.bool (gd (sb t))) ∧ w = w' := by
  unfold maxLen at ht
  by_cases h4 : t.size = 4
  · go_enter Try.func38, Try.ntmps38
    go_wp2
    go_loop [7] (fun i => ∃ k : Nat, k ≤ 4 ∧ i = .int .i64 k ∧ okb (sb t) = okb ((sb t).drop k)) (fun i => (4 - intOf i).toNat)
    case atStart => exact ⟨0, by omega, rfl, by rw [List.drop_zero]⟩
    case round =>
      obtain ⟨k, hk, rfl, hst⟩ := hrel
      have HS : Hid (okb (sb t) = okb ((sb t).drop k)) := hst
      clear hst
      by_cases hk4 : k = 4
      · subst hk4
        go_wp2
        go_ret
        refine ⟨rt_bool ?_, rfl⟩
        simp only [gd, HS.out, len_sb, h4]
        rw [List.drop_eq_nil_of_le (by rw [len_sb, h4]; exact Nat.le_refl _)]
        rfl
      · have HD : Hid (okb ((sb t).drop k) = _) := okb_drop t k (by omega)
        by_cases g1 : 32 ≤ t[k].toNat
        · by_cases g2 : t[k].toNat ≤ 126
          · have g1' : ¬ ((t[k].toNat : Int) < 32) := by omega
            have g2' : ¬ (126 < (t[k].toNat : Int)) := by omega
            go_wp2
            go_round
            case rel => exact ⟨k + 1, by omega, by simp, by rw [HS.out, HD.out]; simp [g1, g2]⟩
            case measure => simp [intOf]; omega
          · have g1' : ¬ ((t[k].toNat : Int) < 32) := by omega
            have g2' : (126 < (t[k].toNat : Int)) := by omega
            go_wp2
            go_ret
            exact ⟨rt_bool (by unfold gd; rw [HS.out, HD.out]; simp [g2]), rfl⟩
        · have g1' : ((t[k].toNat : Int) < 32) := by omega
          go_wp2
          go_ret
          exact ⟨rt_bool (by unfold gd; rw [HS.out, HD.out]; simp [g1]), rfl⟩
  · go_enter Try.func38, Try.ntmps38
    go_wp2
    go_ret
    exact ⟨rt_bool (by simp [gd, len_sb, h4]), rfl⟩

set_option maxHeartbeats 400000 in
set_option maxRecDepth 100000 in
theorem sgood_any (t : ByteArray) (w : World) (ht : t.size ≤ maxLen) :
    Calls Try.prog 39 #[.string t] w fun e w' => e = .returned (.bool (gd (sb t))) ∧ w = w' := by
  unfold maxLen at ht
  by_cases h4 : t.size = 4
  · go_enter Try.func39, Try.ntmps39
    go_wp2
    go_loop [3] (fun i => ∃ k : Nat, k ≤ 4 ∧ i = .int .i64 k ∧ okb (sb t) = okb ((sb t).drop k)) (fun i => (4 - intOf i).toNat)
    case atStart => exact ⟨0, by omega, rfl, by rw [List.drop_zero]⟩
    case round =>
      obtain ⟨k, hk, rfl, hst⟩ := hrel
      have HS : Hid (okb (sb t) = okb ((sb t).drop k)) := hst
      clear hst
      by_cases hk4 : k = 4
      · subst hk4
        go_wp2
        go_ret
        refine ⟨rt_bool ?_, rfl⟩
        simp only [gd, HS.out, len_sb, h4]
        rw [List.drop_eq_nil_of_le (by rw [len_sb, h4]; exact Nat.le_refl _)]
        rfl
      · have HD : Hid (okb ((sb t).drop k) = _) := okb_drop t k (by omega)
        by_cases g1 : 32 ≤ t[k].toNat
        · by_cases g2 : t[k].toNat ≤ 126
          · have g1' : ¬ ((t[k].toNat : Int) < 32) := by omega
            have g2' : ¬ (126 < (t[k].toNat : Int)) := by omega
            go_wp2
            go_round
            case rel => exact ⟨k + 1, by omega, by simp, by rw [HS.out, HD.out]; simp [g1, g2]⟩
            case measure => simp [intOf]; omega
          · have g1' : ¬ ((t[k].toNat : Int) < 32) := by omega
            have g2' : (126 < (t[k].toNat : Int)) := by omega
            go_wp2
            go_ret
            exact ⟨rt_bool (by unfold gd; rw [HS.out, HD.out]; simp [g2]), rfl⟩
        · have g1' : ((t[k].toNat : Int) < 32) := by omega
          go_wp2
          go_ret
          exact ⟨rt_bool (by unfold gd; rw [HS.out, HD.out]; simp [g1]), rfl⟩
  · go_enter Try.func39, Try.ntmps39
    go_wp2
    go_ret
    exact ⟨rt_bool (by simp [gd, len_sb, h4]), rfl⟩

/-- A page on which a tag is put. -/
def St.tag (s : St) (xs : List Nat) : St := if gd xs then s.app xs else s.fail

theorem rb_str (w : World) (t : ByteArray) (c : Nat) (f : Nat × Nat) (h1 : t.size ≤ c) (h2 : c ≤ maxLen) : Rb (w.drew.alloc (.cells (bytesRow t c) 5 f)) (some ⟨w.heap.size, 0, none⟩) c (sb t) := by
  refine ⟨byt_sb t, by rw [len_sb]; exact h1, h2, (by simp), .inr ⟨w.heap.size, 0, rfl, by simp, fun i hi => ?_⟩⟩
  rw [len_sb] at hi
  rw [cell_of_row _ w.heap.size (0 + i) _ 5 f (heap_alloc_new w.drew _)]
  have hi' : i < t.data.size := hi
  simp [bytesRow, sb, List.getD, Array.getElem?_append]
  rw [if_pos hi, Array.getElem?_eq_getElem hi']
  simp

theorem bd1 {w : World} (o : Obj) : Below w.heap.size w (w.drew.alloc o) := ((Below.refl w.heap.size w).drew).alloc (Nat.le_refl _) o

set_option maxHeartbeats 400000 in
set_option maxRecDepth 100000 in
theorem putTag_any (B : Nat) (G : Nat → Prop) (s : St) (t : ByteArray) (w : World) (h : Pc w B G s) (ht : t.size ≤ maxLen) (hl : s.bs.length + 4 ≤ 1048576) :
    Calls Try.prog 50 #[pg B, .string t] w fun e w' => e = .returned (.tuple #[]) ∧ Pc w' B G (s.tag (sb t)) ∧ Keep G w w' := by
  have hcv := fun w => run_bytes_of_string (P := Try.prog) w 9 23 5 t Try.underlying9 Try.underlying23 Try.underlying5
  go_enter Try.func50, Try.ntmps50
  go_wp2_with fail
  refine (good_any t _ ht).mono ?_
  rintro e u ⟨rfl, rfl⟩
  by_cases hf : gd (sb t) = true
  · have hs : Hid (s.tag (sb t) = s.app (sb t)) := by show s.tag (sb t) = _; simp [St.tag, hf]
    have h4 : (sb t).length = 4 := by simp [gd] at hf; exact hf.1
    have h4' : t.size = 4 := by rw [← len_sb]; exact h4
    rw [hf]
    have H4 : Hid (t.size = 4) := h4'
    clear h4' 
    go_wp2_with fail
    have hc := grownCap_ge w t.size 0 5
    have hc2 := grownCap_le_maxLen w t.size 0 5 ht
    have hr := rb_str w t (grownCap w t.size 0 5) ((bytesRow t (grownCap w t.size 0 5)).size, (bytesRow t (grownCap w t.size 0 5)).size + 1) hc hc2
    have hput := put_any B G s _ _ (sb t) _ (h.below (bd1 _)) hr (by omega)
    rw [len_sb] at hput
    refine hput.mono ?_
    rintro e u ⟨rfl, hP, hK⟩
    go_wp2
    go_end0
    exact ⟨rfl, hs.out ▸ hP, (Keep.of_below (bd1 _) h.1).trans hK⟩
  · have hf : gd (sb t) = false := by simpa using hf
    have hs : Hid (s.tag (sb t) = s.fail) := by show s.tag (sb t) = _; simp [St.tag, hf]
    rw [hf]
    go_wp2_with fail
    refine (fail_any B G s _ h).mono ?_
    rintro e u ⟨rfl, hP, hK⟩
    go_wp2
    (try simp only [Exit.inBlock, Exit.then]); refine bodyPost_ret (results_none rfl _ _ _) rfl ?_
    exact ⟨rfl, hs.out ▸ hP, hK⟩

end Go.Proofs.Ytijehnfadpoapaa
