/-
  foundryref03.Coordinate: the walk.
  foundryref09.Formed: the walk.
  foundryref09.Region, foundryref09.Everywhere, foundryref09.Peak: the walks.
  foundryref01.Trim, Same; foundrylaw01.same: the walks.
  foundryref01.Bit, bits: the walks.
-/
import Derived.Test.YtdhkpgndpgacbaaGreatDoorZ9
import Derived.Test.YtdhkpgndpgacbaaGreatDoorZ10
import Derived.Test.YtdhkpgndpgacbaaGreatDoorZ11
import Derived.Test.YtdhkpgndpgacbaaGreatDoorZ2
import Derived.Test.YtdhkpgndpgacbaaGreatDoorZ3
import Derived.Laws.BitsAllLaws
namespace Go.Proofs.YtdhkpgndpgacbaaGreatDoor
open Go.RowKit Classical
set_option linter.unusedSimpArgs false
set_option linter.unusedVariables false

set_option maxHeartbeats 400000 in
set_option maxRecDepth 100000 in
theorem scoord_any (z : Int) (w : World) : Calls Tryz.prog 45 #[.int .i64 z] w fun e w' => e = .returned (.bool (crd z)) ∧ w = w' := by
  by_cases h1 : -16384 ≤ z
  · go_enter Tryz.func45, Tryz.ntmps45
    go_wp2
    go_ret
    exact ⟨ret_bool (by simp [crd, h1]), rfl⟩
  · go_enter Tryz.func45, Tryz.ntmps45
    go_wp2
    go_ret
    exact ⟨ret_bool (by simp [crd]; omega), rfl⟩

theorem scoordB_any (z : Int) (w : World) : Calls Tryz.prog 45 #[.int .i64 z] w fun e w' => e = .returned (.bool (crd z)) ∧ Below w.heap.size w w' :=
  (scoord_any z w).mono fun e w' h => ⟨h.1, h.2 ▸ Below.refl _ _⟩

end Go.Proofs.YtdhkpgndpgacbaaGreatDoor

namespace Go.Proofs.YtdhkpgndpgacbaaGreatDoor
open Go.RowKit Go.Maps
set_option linter.unusedSimpArgs false
set_option linter.unusedVariables false

/-- Above 0, below 0, at 0. -/
theorem tfS_up {t : Te} (h1 : crd t.st = true) (h2 : crd t.pk = true) (h3 : crd t.en = true) (h : 0 < t.pk) : tfB t = (decide (0 ≤ t.st) && (decide (t.st < t.pk) && (decide (t.pk < t.en) || (t.pk == 16384 && t.en == 16384)))) := by
  rw [crdT] at h1 h2 h3
  rw [Bool.eq_iff_iff, tfB_iff]
  unfold TfT
  simp
  omega
theorem tfS_down {t : Te} (h1 : crd t.st = true) (h2 : crd t.pk = true) (h3 : crd t.en = true) (h : t.pk < 0) : tfB t = (decide (t.en ≤ 0) && (decide (t.pk < t.en) && (decide (t.st < t.pk) || (t.pk == -16384 && t.st == -16384)))) := by
  rw [crdT] at h1 h2 h3
  rw [Bool.eq_iff_iff, tfB_iff]
  unfold TfT
  simp
  omega
theorem tfS_mid {t : Te} (h1 : crd t.st = true) (h2 : crd t.pk = true) (h3 : crd t.en = true) (h : t.pk = 0) : tfB t = (t.st == 0 && t.en == 0) := by
  rw [crdT] at h1 h2 h3
  rw [Bool.eq_iff_iff, tfB_iff]
  unfold TfT
  simp
  omega

set_option maxHeartbeats 4000000 in
set_option maxRecDepth 100000 in
theorem sformT_any (t : Te) (w : World) :
    Calls Tryz.prog 27 #[.agg #[.int .i64 t.st, .int .i64 t.pk, .int .i64 t.en]] w fun e w' => e = .returned (.bool (tfB t)) ∧ Below w.heap.size w w' := by
  obtain ⟨W, hW, X1, hbW⟩ : ∃ W, W = w.alloc (.cells #[.int .i64 t.st, .int .i64 t.pk, .int .i64 t.en] 42) ∧ Box 42 W w.heap.size (.int .i64 t.st) (.int .i64 t.pk) (.int .i64 t.en) ∧ Below w.heap.size w W := ⟨_, rfl, Box.new _ _ _ _ _, al1 _⟩
  cases c1 : crd t.st with
  | false =>
    have HF : Hid (tfB t = false) := tfB_no (fun h => by rw [crdT.2 h.1] at c1; cases c1)
    obtain ⟨st, pk, en⟩ := t
    dsimp only at *
    obtain ⟨p0, p1, p2, _⟩ := X1.cells
    go_enter Tryz.func27, Tryz.ntmps27
    go_wp2_with fail
    rw [← hW]
    clear hW
    refine (scoord_any st _).mono ?_
    rintro e u1 ⟨rfl, rfl⟩
    rw [c1]
    go_wp2
    go_ret
    exact ⟨rt_bool HF.out.symm, hbW⟩
  | true =>
    cases c2 : crd t.pk with
    | false =>
      have HF : Hid (tfB t = false) := tfB_no (fun h => by rw [crdT.2 h.2.1] at c2; cases c2)
      obtain ⟨st, pk, en⟩ := t
      dsimp only at *
      obtain ⟨p0, p1, p2, _⟩ := X1.cells
      go_enter Tryz.func27, Tryz.ntmps27
      go_wp2_with fail
      rw [← hW]
      clear hW
      refine (scoord_any st _).mono ?_
      rintro e u1 ⟨rfl, rfl⟩
      rw [c1]
      go_wp2_with fail
      refine (scoord_any pk _).mono ?_
      rintro e u1 ⟨rfl, rfl⟩
      rw [c2]
      go_wp2
      go_ret
      exact ⟨rt_bool HF.out.symm, hbW⟩
    | true =>
      cases c3 : crd t.en with
      | false =>
        have HF : Hid (tfB t = false) := tfB_no (fun h => by rw [crdT.2 h.2.2.1] at c3; cases c3)
        obtain ⟨st, pk, en⟩ := t
        dsimp only at *
        obtain ⟨p0, p1, p2, _⟩ := X1.cells
        go_enter Tryz.func27, Tryz.ntmps27
        go_wp2_with fail
        rw [← hW]
        clear hW
        refine (scoord_any st _).mono ?_
        rintro e u1 ⟨rfl, rfl⟩
        rw [c1]
        go_wp2_with fail
        refine (scoord_any pk _).mono ?_
        rintro e u1 ⟨rfl, rfl⟩
        rw [c2]
        go_wp2_with fail
        refine (scoord_any en _).mono ?_
        rintro e u1 ⟨rfl, rfl⟩
        rw [c3]
        go_wp2
        go_ret
        exact ⟨rt_bool HF.out.symm, hbW⟩
      | true =>
        by_cases hu : 0 < t.pk
        · have HF : Hid (tfB t = _) := tfS_up c1 c2 c3 hu
          cases g1 : (decide (0 ≤ t.st) : Bool) with
          | false =>
            rw [g1] at HF
            obtain ⟨st, pk, en⟩ := t
            dsimp only at *
            obtain ⟨p0, p1, p2, _⟩ := X1.cells
            go_enter Tryz.func27, Tryz.ntmps27
            go_wp2_with fail
            rw [← hW]
            clear hW
            refine (scoord_any st _).mono ?_
            rintro e u1 ⟨rfl, rfl⟩
            rw [c1]
            go_wp2_with fail
            refine (scoord_any pk _).mono ?_
            rintro e u1 ⟨rfl, rfl⟩
            rw [c2]
            go_wp2_with fail
            refine (scoord_any en _).mono ?_
            rintro e u1 ⟨rfl, rfl⟩
            rw [c3]
            clear c1 c2 c3
            go_wp2
            go_ret
            exact ⟨rt_bool (by rw [HF.out]; simp), hbW⟩
          | true =>
            cases g2 : (decide (t.st < t.pk) : Bool) with
            | false =>
              rw [g1, g2] at HF
              obtain ⟨st, pk, en⟩ := t
              dsimp only at *
              obtain ⟨p0, p1, p2, _⟩ := X1.cells
              go_enter Tryz.func27, Tryz.ntmps27
              go_wp2_with fail
              rw [← hW]
              clear hW
              refine (scoord_any st _).mono ?_
              rintro e u1 ⟨rfl, rfl⟩
              rw [c1]
              go_wp2_with fail
              refine (scoord_any pk _).mono ?_
              rintro e u1 ⟨rfl, rfl⟩
              rw [c2]
              go_wp2_with fail
              refine (scoord_any en _).mono ?_
              rintro e u1 ⟨rfl, rfl⟩
              rw [c3]
              clear c1 c2 c3
              go_wp2
              go_ret
              exact ⟨rt_bool (by rw [HF.out]; simp), hbW⟩
            | true =>
              cases g3 : (decide (t.pk < t.en) : Bool) with
              | false =>
                cases g4 : (t.pk == 16384 : Bool) with
                | false =>
                  rw [g1, g2, g3, g4] at HF
                  obtain ⟨st, pk, en⟩ := t
                  dsimp only at *
                  obtain ⟨p0, p1, p2, _⟩ := X1.cells
                  go_enter Tryz.func27, Tryz.ntmps27
                  go_wp2_with fail
                  rw [← hW]
                  clear hW
                  refine (scoord_any st _).mono ?_
                  rintro e u1 ⟨rfl, rfl⟩
                  rw [c1]
                  go_wp2_with fail
                  refine (scoord_any pk _).mono ?_
                  rintro e u1 ⟨rfl, rfl⟩
                  rw [c2]
                  go_wp2_with fail
                  refine (scoord_any en _).mono ?_
                  rintro e u1 ⟨rfl, rfl⟩
                  rw [c3]
                  clear c1 c2 c3
                  go_wp2
                  go_ret
                  exact ⟨rt_bool (by rw [HF.out]; simp), hbW⟩
                | true =>
                  rw [g1, g2, g3, g4] at HF
                  obtain ⟨st, pk, en⟩ := t
                  dsimp only at *
                  obtain ⟨p0, p1, p2, _⟩ := X1.cells
                  go_enter Tryz.func27, Tryz.ntmps27
                  go_wp2_with fail
                  rw [← hW]
                  clear hW
                  refine (scoord_any st _).mono ?_
                  rintro e u1 ⟨rfl, rfl⟩
                  rw [c1]
                  go_wp2_with fail
                  refine (scoord_any pk _).mono ?_
                  rintro e u1 ⟨rfl, rfl⟩
                  rw [c2]
                  go_wp2_with fail
                  refine (scoord_any en _).mono ?_
                  rintro e u1 ⟨rfl, rfl⟩
                  rw [c3]
                  clear c1 c2 c3
                  go_wp2
                  go_ret
                  exact ⟨rt_bool (by rw [HF.out]; simp), hbW⟩
              | true =>
                rw [g1, g2, g3] at HF
                obtain ⟨st, pk, en⟩ := t
                dsimp only at *
                obtain ⟨p0, p1, p2, _⟩ := X1.cells
                go_enter Tryz.func27, Tryz.ntmps27
                go_wp2_with fail
                rw [← hW]
                clear hW
                refine (scoord_any st _).mono ?_
                rintro e u1 ⟨rfl, rfl⟩
                rw [c1]
                go_wp2_with fail
                refine (scoord_any pk _).mono ?_
                rintro e u1 ⟨rfl, rfl⟩
                rw [c2]
                go_wp2_with fail
                refine (scoord_any en _).mono ?_
                rintro e u1 ⟨rfl, rfl⟩
                rw [c3]
                clear c1 c2 c3
                go_wp2
                go_ret
                exact ⟨rt_bool (by rw [HF.out]; simp), hbW⟩
        · by_cases hd : t.pk < 0
          · have HF : Hid (tfB t = _) := tfS_down c1 c2 c3 hd
            cases g1 : (decide (t.en ≤ 0) : Bool) with
            | false =>
              rw [g1] at HF
              obtain ⟨st, pk, en⟩ := t
              dsimp only at *
              obtain ⟨p0, p1, p2, _⟩ := X1.cells
              go_enter Tryz.func27, Tryz.ntmps27
              go_wp2_with fail
              rw [← hW]
              clear hW
              refine (scoord_any st _).mono ?_
              rintro e u1 ⟨rfl, rfl⟩
              rw [c1]
              go_wp2_with fail
              refine (scoord_any pk _).mono ?_
              rintro e u1 ⟨rfl, rfl⟩
              rw [c2]
              go_wp2_with fail
              refine (scoord_any en _).mono ?_
              rintro e u1 ⟨rfl, rfl⟩
              rw [c3]
              clear c1 c2 c3
              go_wp2
              go_ret
              exact ⟨rt_bool (by rw [HF.out]; simp), hbW⟩
            | true =>
              cases g2 : (decide (t.pk < t.en) : Bool) with
              | false =>
                rw [g1, g2] at HF
                obtain ⟨st, pk, en⟩ := t
                dsimp only at *
                obtain ⟨p0, p1, p2, _⟩ := X1.cells
                go_enter Tryz.func27, Tryz.ntmps27
                go_wp2_with fail
                rw [← hW]
                clear hW
                refine (scoord_any st _).mono ?_
                rintro e u1 ⟨rfl, rfl⟩
                rw [c1]
                go_wp2_with fail
                refine (scoord_any pk _).mono ?_
                rintro e u1 ⟨rfl, rfl⟩
                rw [c2]
                go_wp2_with fail
                refine (scoord_any en _).mono ?_
                rintro e u1 ⟨rfl, rfl⟩
                rw [c3]
                clear c1 c2 c3
                go_wp2
                go_ret
                exact ⟨rt_bool (by rw [HF.out]; simp), hbW⟩
              | true =>
                cases g3 : (decide (t.st < t.pk) : Bool) with
                | false =>
                  cases g4 : (t.pk == -16384 : Bool) with
                  | false =>
                    rw [g1, g2, g3, g4] at HF
                    obtain ⟨st, pk, en⟩ := t
                    dsimp only at *
                    obtain ⟨p0, p1, p2, _⟩ := X1.cells
                    go_enter Tryz.func27, Tryz.ntmps27
                    go_wp2_with fail
                    rw [← hW]
                    clear hW
                    refine (scoord_any st _).mono ?_
                    rintro e u1 ⟨rfl, rfl⟩
                    rw [c1]
                    go_wp2_with fail
                    refine (scoord_any pk _).mono ?_
                    rintro e u1 ⟨rfl, rfl⟩
                    rw [c2]
                    go_wp2_with fail
                    refine (scoord_any en _).mono ?_
                    rintro e u1 ⟨rfl, rfl⟩
                    rw [c3]
                    clear c1 c2 c3
                    go_wp2
                    go_ret
                    exact ⟨rt_bool (by rw [HF.out]; simp), hbW⟩
                  | true =>
                    rw [g1, g2, g3, g4] at HF
                    obtain ⟨st, pk, en⟩ := t
                    dsimp only at *
                    obtain ⟨p0, p1, p2, _⟩ := X1.cells
                    go_enter Tryz.func27, Tryz.ntmps27
                    go_wp2_with fail
                    rw [← hW]
                    clear hW
                    refine (scoord_any st _).mono ?_
                    rintro e u1 ⟨rfl, rfl⟩
                    rw [c1]
                    go_wp2_with fail
                    refine (scoord_any pk _).mono ?_
                    rintro e u1 ⟨rfl, rfl⟩
                    rw [c2]
                    go_wp2_with fail
                    refine (scoord_any en _).mono ?_
                    rintro e u1 ⟨rfl, rfl⟩
                    rw [c3]
                    clear c1 c2 c3
                    go_wp2
                    go_ret
                    exact ⟨rt_bool (by rw [HF.out]; simp), hbW⟩
                | true =>
                  rw [g1, g2, g3] at HF
                  obtain ⟨st, pk, en⟩ := t
                  dsimp only at *
                  obtain ⟨p0, p1, p2, _⟩ := X1.cells
                  go_enter Tryz.func27, Tryz.ntmps27
                  go_wp2_with fail
                  rw [← hW]
                  clear hW
                  refine (scoord_any st _).mono ?_
                  rintro e u1 ⟨rfl, rfl⟩
                  rw [c1]
                  go_wp2_with fail
                  refine (scoord_any pk _).mono ?_
                  rintro e u1 ⟨rfl, rfl⟩
                  rw [c2]
                  go_wp2_with fail
                  refine (scoord_any en _).mono ?_
                  rintro e u1 ⟨rfl, rfl⟩
                  rw [c3]
                  clear c1 c2 c3
                  go_wp2
                  go_ret
                  exact ⟨rt_bool (by rw [HF.out]; simp), hbW⟩
          · have HF : Hid (tfB t = _) := tfS_mid c1 c2 c3 (by omega)
            cases g1 : (t.st == 0 : Bool) with
            | false =>
              rw [g1] at HF
              obtain ⟨st, pk, en⟩ := t
              dsimp only at *
              obtain ⟨p0, p1, p2, _⟩ := X1.cells
              go_enter Tryz.func27, Tryz.ntmps27
              go_wp2_with fail
              rw [← hW]
              clear hW
              refine (scoord_any st _).mono ?_
              rintro e u1 ⟨rfl, rfl⟩
              rw [c1]
              go_wp2_with fail
              refine (scoord_any pk _).mono ?_
              rintro e u1 ⟨rfl, rfl⟩
              rw [c2]
              go_wp2_with fail
              refine (scoord_any en _).mono ?_
              rintro e u1 ⟨rfl, rfl⟩
              rw [c3]
              clear c1 c2 c3
              go_wp2
              go_ret
              exact ⟨rt_bool (by rw [HF.out]; simp), hbW⟩
            | true =>
              rw [g1] at HF
              obtain ⟨st, pk, en⟩ := t
              dsimp only at *
              obtain ⟨p0, p1, p2, _⟩ := X1.cells
              go_enter Tryz.func27, Tryz.ntmps27
              go_wp2_with fail
              rw [← hW]
              clear hW
              refine (scoord_any st _).mono ?_
              rintro e u1 ⟨rfl, rfl⟩
              rw [c1]
              go_wp2_with fail
              refine (scoord_any pk _).mono ?_
              rintro e u1 ⟨rfl, rfl⟩
              rw [c2]
              go_wp2_with fail
              refine (scoord_any en _).mono ?_
              rintro e u1 ⟨rfl, rfl⟩
              rw [c3]
              clear c1 c2 c3
              go_wp2
              go_ret
              exact ⟨rt_bool (by rw [HF.out]; simp), hbW⟩

end Go.Proofs.YtdhkpgndpgacbaaGreatDoor

namespace Go.Proofs.YtdhkpgndpgacbaaGreatDoor
open Go.RowKit Go.Maps
set_option linter.unusedSimpArgs false
set_option linter.unusedVariables false

set_option maxHeartbeats 1000000 in
set_option maxRecDepth 100000 in
theorem sregion_any (a : Option Addr) (cap : Nat) (l : List Te) (n : Int) (w : World) (h : Tz w a cap l) :
    Calls Tryz.prog 10 #[.slice a l.length cap, .int .i64 n] w fun e w' => e = .returned (.bool (rgB l n)) ∧ Below w.heap.size w w' := by
  have k1 := h.1
  have k2 := h.lenB
  have HH : Hid (Tz w a cap l) := h
  clear h
  go_enter Tryz.func10, Tryz.ntmps10
  go_wp2
  go_loopw [5] (fun i wr => ∃ k : Nat, k ≤ l.length ∧ i = .int .i64 k ∧ (∀ j, j < k → tfB (l.getD j Te.none) = true) ∧ Below w.heap.size w wr) (fun i _ => l.length - (intOf i).toNat)
  case atStart => exact ⟨0, Nat.zero_le _, rfl, (fun j hj => by omega), Below.refl _ _⟩
  case round =>
    obtain ⟨k, hk, rfl, hok, hB⟩ := hrel
    have HOK : Hid (∀ j, j < k → tfB (l.getD j Te.none) = true) := hok
    clear hok
    by_cases hkn : k < l.length
    · obtain ⟨b, off, ea, hb, d0, d1, d2⟩ := HH.out.at hB k hkn
      subst ea
      have hfo := fun U => sformT_any (l.getD k Te.none) U
      obtain ⟨t, ht⟩ : ∃ t, l.getD k Te.none = t := ⟨_, rfl⟩
      have HT : Hid (l.getD k Te.none = t) := ht
      rw [ht] at d0 d1 d2 hfo
      clear ht
      cases hf : tfB t with
      | false =>
        have HF : Hid (rgB l n = false) := by show _ = _; rw [rgB, all_noT hkn (by rw [HT.out]; exact hf), Bool.false_and]
        simp only [hf] at hfo
        clear hf HT HOK
        obtain ⟨st, pk, en⟩ := t
        dsimp only at *
        go_wp2_with fail
        refine (hfo _).mono ?_
        rintro e u1 ⟨rfl, hb1⟩
        replace hB := hB.trans (hb1.mono hB.size)
        clear hb1 hfo
        go_wp2
        go_ret
        exact ⟨rt_bool HF.out.symm, hB⟩
      | true =>
        have HOK2 : Hid (∀ j, j < k + 1 → tfB (l.getD j Te.none) = true) := fun j hj => by
          rcases Nat.lt_or_ge j k with h1 | h1
          · exact HOK.out j h1
          · rw [show j = k by omega, HT.out]; exact hf
        simp only [hf] at hfo
        clear hf HT HOK
        obtain ⟨st, pk, en⟩ := t
        dsimp only at *
        go_wp2_with fail
        refine (hfo _).mono ?_
        rintro e u1 ⟨rfl, hb1⟩
        replace hB := hB.trans (hb1.mono hB.size)
        clear hb1 hfo
        go_wp2
        go_roundw
        case rel => exact ⟨k + 1, by omega, by go_num, HOK2.out, hB⟩
        case measure => simp [intOf]; omega
    · obtain rfl : k = l.length := by omega
      have HF : Hid (rgB l n = decide ((l.length : Int) = n)) := by show _ = _; rw [rgB, allT.2 HOK.out, Bool.true_and]
      clear HOK
      go_wp2
      go_ret
      exact ⟨rt_bool (by rw [HF.out]; by_cases e : (l.length : Int) = n <;> simp [e]), hB⟩

set_option maxHeartbeats 1000000 in
set_option maxRecDepth 100000 in
theorem severywhere_any (a : Option Addr) (cap : Nat) (l : List Te) (w : World) (h : Tz w a cap l) :
    Calls Tryz.prog 15 #[.slice a l.length cap] w fun e w' => e = .returned (.bool (evB l)) ∧ Below w.heap.size w w' := by
  have k1 := h.1
  have k2 := h.lenB
  have HH : Hid (Tz w a cap l) := h
  clear h
  go_enter Tryz.func15, Tryz.ntmps15
  go_wp2
  go_loopw [3] (fun i wr => ∃ k : Nat, k ≤ l.length ∧ i = .int .i64 k ∧ (∀ j, j < k → decide ((l.getD j Te.none).pk = 0) = true) ∧ Below w.heap.size w wr) (fun i _ => l.length - (intOf i).toNat)
  case atStart => exact ⟨0, Nat.zero_le _, rfl, (fun j hj => by omega), Below.refl _ _⟩
  case round =>
    obtain ⟨k, hk, rfl, hok, hB⟩ := hrel
    have HOK : Hid (∀ j, j < k → decide ((l.getD j Te.none).pk = 0) = true) := hok
    clear hok
    by_cases hkn : k < l.length
    · obtain ⟨b, off, ea, hb, d0, d1, d2⟩ := HH.out.at hB k hkn
      subst ea
      obtain ⟨t, ht⟩ : ∃ t, l.getD k Te.none = t := ⟨_, rfl⟩
      have HT : Hid (l.getD k Te.none = t) := ht
      rw [ht] at d0 d1 d2
      clear ht
      cases hf : decide (t.pk = 0) with
      | false =>
        have HF : Hid (evB l = false) := all_noT (p := fun t => decide (t.pk = 0)) hkn (by rw [HT.out]; exact hf)
        have g1 : (t.pk != 0) = true := by have := of_decide_eq_false hf; simp [this]
        clear hf HT HOK
        obtain ⟨st, pk, en⟩ := t
        dsimp only at *
        go_wp2
        go_ret
        exact ⟨rt_bool HF.out.symm, hB⟩
      | true =>
        have HOK2 : Hid (∀ j, j < k + 1 → decide ((l.getD j Te.none).pk = 0) = true) := fun j hj => by
          rcases Nat.lt_or_ge j k with h1 | h1
          · exact HOK.out j h1
          · rw [show j = k by omega, HT.out]; exact hf
        have g1 : (t.pk != 0) = false := by have := of_decide_eq_true hf; simp [this]
        clear hf HT HOK
        obtain ⟨st, pk, en⟩ := t
        dsimp only at *
        go_wp2
        go_roundw
        case rel => exact ⟨k + 1, by omega, by go_num, HOK2.out, hB⟩
        case measure => simp [intOf]; omega
    · obtain rfl : k = l.length := by omega
      have HF : Hid (evB l = true) := allT.2 HOK.out
      clear HOK
      go_wp2
      go_ret
      exact ⟨rt_bool HF.out.symm, hB⟩

set_option maxHeartbeats 2000000 in
set_option maxRecDepth 100000 in
theorem speak_any (a : Option Addr) (cap : Nat) (l : List Te) (w : World) (h : Tz w a cap l) (hl : l.length ≤ 1000) :
    Calls Tryz.prog 13 #[.slice a l.length cap] w fun e w' => ∃ a' cap', e = .returned (.slice a' (pkK l l.length).length cap') ∧ Ri w' a' cap' (pkK l l.length) ∧ Below w.heap.size w w' := by
  have hI0 : Io w.heap.size w (.slice none 0 0) (pkK l 0) := Io.nil _ _
  have HH : Hid (Tz w a cap l) := h
  clear h
  go_enter Tryz.func13, Tryz.ntmps13
  go_wp2
  go_loopw [3, 4] (fun v i wr => ∃ k : Nat, k ≤ l.length ∧ i = .int .i64 k ∧ Io w.heap.size wr v (pkK l k) ∧ Below w.heap.size w wr) (fun _ i _ => l.length - (intOf i).toNat)
  case atStart => exact ⟨0, Nat.zero_le _, rfl, hI0, Below.refl _ _⟩
  case round =>
    obtain ⟨k, hk, rfl, hT, hB⟩ := hrel
    obtain ⟨a2, c2, rfl, hts⟩ := hT.slice
    have hlen := pkK_len hk
    rw [hlen] at hT ⊢
    have hll : (pkK l k).length + 1 ≤ 1000000 := by omega
    have HT : Hid (Io w.heap.size wr (.slice a2 k c2) (pkK l k)) := hT
    clear hT hlen hI0
    by_cases hkn : k < l.length
    · clear hts
      obtain ⟨b, off, ea, hb, d0, d1, d2⟩ := HH.out.at hB k hkn
      subst ea
      have hw := HH.out.w hkn
      have HS : Hid (pkK l (k + 1) = pkK l k ++ [(l.getD k Te.none).pk]) := pkK_succ hkn
      generalize l.getD k Te.none = t at *
      obtain ⟨st, pk, en⟩ := t
      dsimp only at *
      have HI : Hid (I64 pk) := hw.2.1
      clear hw
      have hT5 := HT.out.below (bl1 (.cells #[.int .i64 pk] 3))
      have hN := heap_alloc_new wr (.cells #[.int .i64 pk] 3)
      have n0 := cell_of_row _ wr.heap.size 0 _ _ (0, 0) hN
      have hbs : w.heap.size ≤ (wr.alloc (.cells #[.int .i64 pk] 3)).heap.size := by have := hB.size; simp at this ⊢; omega
      clear hN
      go_wp2_with (at_builtin; refine wpList_append_int rfl _ _ rfl w.heap.size _ (pkK l k) rfl hT5 wr.heap.size pk rfl n0 HI.out hll hbs ?_)
      intro v' w9 hT9 hgrow
      have hB9 : Below w.heap.size w w9 := (hB.alloc hB.size _).grown hgrow hbs (fun k hk => HT.out.lo hk)
      rw [← HS.out] at hT9
      clear hgrow hT5 n0 hbs
      go_wp2
      go_roundw
      case rel => exact ⟨k + 1, by omega, by go_num, hT9, hB9⟩
      case measure => simp [intOf]; omega
    · obtain rfl : k = l.length := by omega
      go_wp2
      go_ret
      exact ⟨a2, c2, by rw [pkK_len (Nat.le_refl _)]; rfl, hts, hB⟩

end Go.Proofs.YtdhkpgndpgacbaaGreatDoor

namespace Go.Proofs.YtdhkpgndpgacbaaGreatDoor
open Go.RowKit
set_option linter.unusedSimpArgs false
set_option linter.unusedVariables false

set_option maxHeartbeats 800000 in
set_option maxRecDepth 100000 in
theorem rtrim_any (a : Option Addr) (cap : Nat) (xs : List Nat) (w : World) (h : Rd w a cap xs) (hl : xs.length ≤ 1000000000) :
    Calls Tryz.prog 80 #[.slice a xs.length cap] w fun e w' => ∃ a' cap', e = .returned (.slice a' (strip xs).length cap') ∧ Res 60 w.heap.size w' a' cap' (strip xs) ∧ Below w.heap.size w w' := by
  obtain ⟨i0, hi, hz0, hz1, hz2⟩ := info_parts info_limb
  have hsl := strip_length_le xs
  have hc2 : xs.length ≤ cap := h.le
  have hc3 : cap ≤ maxLen := h.cap
  unfold maxLen at hc3
  have hst := h.strip
  have lst := h.lim.strip
  have fm := h.fm
  clear h
  go_enter Tryz.func80, Tryz.ntmps80
  go_wp2
  go_loop [3] (fun n => ∃ k : Nat, k ≤ xs.length ∧ n = .int .i64 k ∧ strip (xs.take k) = strip xs) (fun n => (intOf n).toNat)
  case atStart => exact ⟨xs.length, Nat.le_refl _, rfl, by rw [List.take_length]⟩
  case round =>
    obtain ⟨k, hk, rfl, hs0⟩ := hrel
    have HS : Hid (strip (xs.take k) = strip xs) := hs0
    clear hs0
    by_cases hk0 : k = 0
    · subst hk0
      have e0 : strip xs = [] := by rw [← HS.out]; rfl
      rw [e0] at hst lst
      have E0 : Hid (strip xs = []) := e0
      clear e0 HS
      go_wp2_with (at_builtin; refine wpList_append_rd rfl _ _ 27 rfl w.heap.size 60 i0 Tryz.underlying27 hi hz0 hz1 hz2 _ 0 [] rfl (World.ownsRow_nil _ _ _ _) a cap 0 [] ?_ rfl hst (by simp) (Nat.le_refl _) ?_)
      intro v' w1 hown hgrow
      obtain ⟨a', cap', rfl, hres⟩ := Res.of (xs := []) Lim.nil hown
      go_wp2
      go_ret
      exact ⟨a', cap', by rw [E0.out]; rfl, by rw [E0.out]; exact hres, (Below.refl _ _).grown hgrow (Nat.le_refl _) (fun k hk => by simp [Value.ownBlock] at hk)⟩
    · obtain ⟨j, rfl⟩ : ∃ j, k = j + 1 := ⟨k - 1, by omega⟩
      obtain ⟨b, off, rfl, _, hcj⟩ := fm.at (Below.refl _ _) j (by omega)
      obtain ⟨x, hx⟩ : ∃ x, xs.getD j 0 = x := ⟨_, rfl⟩
      rw [hx] at hcj
      have HX : Hid (xs.getD j 0 = x) := hx
      clear hx
      by_cases hx0 : x = 0
      · subst hx0
        go_wp2
        go_round
        case rel => exact ⟨j, by omega, rfl, by rw [← HS.out, strip_take_zero xs j (by omega) HX.out]⟩
        case measure => simp [intOf]
      · have hx1 : ((x : Int) == 0) = false := by simp; omega
        have e : strip xs = xs.take (j + 1) := by rw [← HS.out]; exact strip_take_some xs j (by omega) (by rw [HX.out]; exact hx0)
        have el : j + 1 = (strip xs).length := by rw [e]; simp; omega
        have EL : Hid (j + 1 = (strip xs).length) := el
        clear e el
        go_wp2_with (at_builtin; refine wpList_append_rd rfl _ _ 27 rfl w.heap.size 60 i0 Tryz.underlying27 hi hz0 hz1 hz2 _ 0 [] rfl (World.ownsRow_nil _ _ _ _) (some ⟨b, off, none⟩) cap (j + 1) (strip xs) rfl EL.out hst (by omega) (Nat.le_refl _) ?_)
        intro v' w1 hown hgrow
        obtain ⟨a', cap', rfl, hres⟩ := Res.of lst hown
        go_wp2
        go_ret
        exact ⟨a', cap', rfl, hres, (Below.refl _ _).grown hgrow (Nat.le_refl _) (fun k hk => by simp [Value.ownBlock] at hk)⟩

set_option maxHeartbeats 800000 in
set_option maxRecDepth 100000 in
/-- Two slices that read alike are told to be the same. -/
theorem rsame_any (a b : Option Addr) (ca cb : Nat) (xs : List Nat) (w : World) (ha : Rd w a ca xs) (hb : Rd w b cb xs) :
    Calls Tryz.prog 19 #[.slice a xs.length ca, .slice b xs.length cb] w fun e w' => e = .returned (.bool true) ∧ Below w.heap.size w w' := by
  have k1 := ha.le
  have k2 := ha.cap
  unfold maxLen at k2
  have fa := ha.fm
  have fb := hb.fm
  clear ha hb
  have hne : ((xs.length : Int) != (xs.length : Int)) = false := by simp
  go_enter Tryz.func19, Tryz.ntmps19
  go_wp2
  go_loopw [5] (fun i wr => ∃ k : Nat, k ≤ xs.length ∧ i = .int .i64 k ∧ Below w.heap.size w wr) (fun i _ => xs.length - (intOf i).toNat)
  case atStart => exact ⟨0, Nat.zero_le _, rfl, Below.refl _ _⟩
  case round =>
    obtain ⟨k, hk, rfl, hnx⟩ := hrel
    by_cases hkn : k < xs.length
    · obtain ⟨b1, o1, rfl, _, c1⟩ := fa.at hnx k hkn
      obtain ⟨b2, o2, rfl, _, c2⟩ := fb.at hnx k hkn
      obtain ⟨x, hx⟩ : ∃ x, xs.getD k 0 = x := ⟨_, rfl⟩
      rw [hx] at c1 c2
      have hxx : ((x : Int) != (x : Int)) = false := by simp
      clear hx
      have i1 : (0 : Int) ≤ (k : Int) := by omega
      have i2 : (k : Int) < (xs.length : Int) := by omega
      go_wp2_with fail
      go_quiet (fail)
      go_wp2
      go_roundw
      case rel => exact ⟨k + 1, by omega, by go_num, below_drewN hnx _⟩
      case measure => simp [intOf]; omega
    · go_wp2
      go_ret
      exact ⟨rfl, hnx⟩

end Go.Proofs.YtdhkpgndpgacbaaGreatDoor

namespace Go.Proofs.YtdhkpgndpgacbaaGreatDoor
open Go.RowKit
set_option linter.unusedSimpArgs false
set_option linter.unusedVariables false

theorem and_one_u32 (n : Nat) (h : n < 4294967296) : bits BinOp.and IntKind.u32 (n : Int) 1 = ((n % 2 : Nat) : Int) := by
  have := u32_and_nat n 1 h (by decide)
  rw [Nat.and_one_is_mod] at this
  exact this

/-- A bit of a number is a bit of one of its limbs. -/
theorem V_bit (xs : List Nat) (lm : Lim xs) (i : Nat) : V xs / 2 ^ i % 2 = xs.getD (i / 32) 0 / 2 ^ (i % 32) % 2 := by
  have e := V_take_drop xs (i / 32)
  have hd := V_head_tail (xs.drop (i / 32))
  have hg : (xs.drop (i / 32)).getD 0 0 = xs.getD (i / 32) 0 := by simp [List.getD]
  rw [hg] at hd
  have hl : V (xs.take (i / 32)) < 4294967296 ^ (i / 32) := by
    have := V_take_Sv xs (i / 32)
    rw [this]
    exact Sv_lt (fun j _ => lm.getD j)
  have hp : 2 ^ i = 4294967296 ^ (i / 32) * 2 ^ (i % 32) := by
    rw [show (4294967296 : Nat) = 2 ^ 32 from rfl, ← Nat.pow_mul, ← Nat.pow_add, Nat.div_add_mod]
  rw [hp, ← Nat.div_div_eq_div_mul, e, Nat.add_mul_div_left _ _ (Nat.pow_pos (by decide)), Nat.div_eq_of_lt hl, Nat.zero_add, hd]
  generalize V (xs.drop (i / 32)).tail = T
  generalize xs.getD (i / 32) 0 = x
  have h32 : (4294967296 : Nat) = 2 ^ (i % 32) * (2 * 2 ^ (31 - i % 32)) := by
    have : (4294967296 : Nat) = 2 ^ 32 := rfl
    rw [this, ← Nat.pow_succ', ← Nat.pow_add]
    congr 1
    omega
  rw [h32, Nat.mul_assoc, Nat.add_mul_div_left _ _ (Nat.pow_pos (by decide)), Nat.mul_assoc, Nat.add_mul_mod_self_left]

set_option maxHeartbeats 400000 in
set_option maxRecDepth 100000 in
theorem rbits_any (a : Option Addr) (n cap : Nat) (w : World) (hn : n ≤ 100000000000000000) :
    Calls Tryz.prog 63 #[.slice a n cap] w fun e w' => e = .returned (.int .i64 (32 * (n : Int))) ∧ w = w' := by
  go_enter Tryz.func63, Tryz.ntmps63
  go_wp2
  go_ret
  exact ⟨rfl, rfl⟩

set_option maxHeartbeats 400000 in
set_option maxRecDepth 100000 in
theorem rbit_any (a : Option Addr) (cap : Nat) (xs : List Nat) (i : Nat) (w : World) (h : Rd w a cap xs) (hi : i ≤ 100000000000000000) :
    Calls Tryz.prog 65 #[.slice a xs.length cap, .int .i64 (i : Int)] w fun e w' => e = .returned (.int .u32 ((V xs / 2 ^ i % 2 : Nat) : Int)) ∧ w = w' := by
  have k1 := h.le
  have k2 := h.cap
  unfold maxLen at k2
  have fm := h.fm
  have lm := h.lim
  clear h
  by_cases hlt : i / 32 < xs.length
  · obtain ⟨b, off, rfl, _, hc⟩ := fm.at (Below.refl _ _) (i / 32) hlt
    obtain ⟨x, hx⟩ : ∃ x, xs.getD (i / 32) 0 = x := ⟨_, rfl⟩
    rw [hx] at hc
    have bx : x < 4294967296 := by rw [← hx]; exact lm.getD _
    go_enter Tryz.func65, Tryz.ntmps65
    go_wp2
    go_ret
    refine ⟨ret_u32 ?_, rfl⟩
    have hq : x / 2 ^ (i % 32) ≤ x := Nat.div_le_self _ _
    have hcast : (x : Int) / 2 ^ (i % 32) = ((x / 2 ^ (i % 32) : Nat) : Int) := by simp
    rw [V_bit xs lm i, hx, hcast, and_one_u32 _ (by omega)]
  · go_enter Tryz.func65, Tryz.ntmps65
    go_wp2
    go_ret
    refine ⟨ret_u32 ?_, rfl⟩
    rw [V_bit xs lm i, getD_past _ _ (by omega)]
    simp

theorem pow_32 (m : Nat) : 4294967296 ^ m = 2 ^ (32 * m) := by rw [Nat.pow_mul]

end Go.Proofs.YtdhkpgndpgacbaaGreatDoor
