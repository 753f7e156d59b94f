/-
  foundryref04.Same of any two: the walk.
  foundryref14.ints, foundryref14.Same, of two alike: the walks.
  foundryref09.Formed: the walk.
  foundryref09.Region, foundryref09.Everywhere, foundryref09.Peak: the walks.
-/
import Derived.Test.YtkmcodofnckdmaaGreatZS8
import Derived.Test.YtkmcodofnckdmaaGreatZS44
import Derived.Test.YtkmcodofnckdmaaGreatZS12
import Derived.Test.YtkmcodofnckdmaaGreatZS33
import Derived.Test.YtkmcodofnckdmaaGreatZS18
set_option maxHeartbeats 4000000
set_option maxRecDepth 100000
set_option linter.unusedSimpArgs false
set_option linter.unusedVariables false
namespace Go.Proofs.YtkmcodofnckdmaaGreat
open Go.RowKit Go.Maps
theorem tfS_up {t : Te} (h1 : crd t.st = true) (h2 : crd t.pk = true) (h3 : crd t.en = true) (h : 0 < t.pk) : tfB t = (decide (0 ≤ t.st) && (decide (t.st < t.pk) && (decide (t.pk < t.en) || (t.pk == 16384 && t.en == 16384)))) := by
 rw [crdT] at h1 h2 h3; rw [Bool.eq_iff_iff, tfB_iff]
 unfold TfT
 simp
 omega
theorem tfS_down {t : Te} (h1 : crd t.st = true) (h2 : crd t.pk = true) (h3 : crd t.en = true) (h : t.pk < 0) : tfB t = (decide (t.en ≤ 0) && (decide (t.pk < t.en) && (decide (t.st < t.pk) || (t.pk == -16384 && t.st == -16384)))) := by
 rw [crdT] at h1 h2 h3; rw [Bool.eq_iff_iff, tfB_iff]
 unfold TfT
 simp
 omega
theorem tfS_mid {t : Te} (h1 : crd t.st = true) (h2 : crd t.pk = true) (h3 : crd t.en = true) (h : t.pk = 0) : tfB t = (t.st == 0 && t.en == 0) := by
 rw [crdT] at h1 h2 h3; rw [Bool.eq_iff_iff, tfB_iff]
 unfold TfT
 simp
 omega
theorem sformT_any (t : Te) (w : World) :
    Calls Tryz.prog 158 #[.agg #[.int .i64 t.st, .int .i64 t.pk, .int .i64 t.en]] w fun e w' => e = .returned (.bool (tfB t)) ∧ Below w.heap.size w w' := by
 obtain ⟨W, hW, X1, hbW⟩ : ∃ W, W = w.alloc (.cells #[.int .i64 t.st, .int .i64 t.pk, .int .i64 t.en] 146) ∧ Box 146 W w.heap.size (.int .i64 t.st) (.int .i64 t.pk) (.int .i64 t.en) ∧ Below w.heap.size w W := ⟨_, rfl, Box.new _ _ _ _ _, al1 _⟩
 cases c1 : crd t.st with
 | false =>
  have HF : Hid (tfB t = false) := tfB_no (fun h => by rw [crdT.2 h.1] at c1; cases c1)
  obtain ⟨st, pk, en⟩ := t
  dsimp only at *
  obtain ⟨p0, p1, p2, _⟩ := X1.cells
  go_enter Tryz.func158, Tryz.ntmps158
  go_wp2_with fail
  rw [← hW]; clear hW
  refine (scoord_any st _).mono ?_
  rintro e u1 ⟨rfl, rfl⟩; rw [c1]; go_wp2
  go_ret
  exact ⟨rt_bool HF.out.symm, hbW⟩
 | true =>
  cases c2 : crd t.pk with
  | false =>
   have HF : Hid (tfB t = false) := tfB_no (fun h => by rw [crdT.2 h.2.1] at c2; cases c2)
   obtain ⟨st, pk, en⟩ := t
   dsimp only at *
   obtain ⟨p0, p1, p2, _⟩ := X1.cells
   go_enter Tryz.func158, Tryz.ntmps158
   go_wp2_with fail
   rw [← hW]; clear hW
   refine (scoord_any st _).mono ?_
   rintro e u1 ⟨rfl, rfl⟩; rw [c1]
   go_wp2_with fail
   refine (scoord_any pk _).mono ?_
   rintro e u1 ⟨rfl, rfl⟩; rw [c2]; go_wp2
   go_ret
   exact ⟨rt_bool HF.out.symm, hbW⟩
  | true =>
   cases c3 : crd t.en with
   | false =>
    have HF : Hid (tfB t = false) := tfB_no (fun h => by rw [crdT.2 h.2.2.1] at c3; cases c3)
    obtain ⟨st, pk, en⟩ := t
    dsimp only at *
    obtain ⟨p0, p1, p2, _⟩ := X1.cells
    go_enter Tryz.func158, Tryz.ntmps158
    go_wp2_with fail
    rw [← hW]; clear hW
    refine (scoord_any st _).mono ?_
    rintro e u1 ⟨rfl, rfl⟩; rw [c1]
    go_wp2_with fail
    refine (scoord_any pk _).mono ?_
    rintro e u1 ⟨rfl, rfl⟩; rw [c2]
    go_wp2_with fail
    refine (scoord_any en _).mono ?_
    rintro e u1 ⟨rfl, rfl⟩; rw [c3]; go_wp2
    go_ret
    exact ⟨rt_bool HF.out.symm, hbW⟩
   | true =>
    by_cases hu : 0 < t.pk
    · have HF : Hid (tfB t = _) := tfS_up c1 c2 c3 hu
      cases g1 : (decide (0 ≤ t.st) : Bool) with
      | false =>
       rw [g1] at HF; obtain ⟨st, pk, en⟩ := t
       dsimp only at *
       obtain ⟨p0, p1, p2, _⟩ := X1.cells
       go_enter Tryz.func158, Tryz.ntmps158
       go_wp2_with fail
       rw [← hW]; clear hW
       refine (scoord_any st _).mono ?_
       rintro e u1 ⟨rfl, rfl⟩; rw [c1]
       go_wp2_with fail
       refine (scoord_any pk _).mono ?_
       rintro e u1 ⟨rfl, rfl⟩; rw [c2]
       go_wp2_with fail
       refine (scoord_any en _).mono ?_
       rintro e u1 ⟨rfl, rfl⟩; rw [c3]; clear c1 c2 c3; go_wp2
       go_ret
       exact ⟨rt_bool (by rw [HF.out]; simp), hbW⟩
      | true =>
       cases g2 : (decide (t.st < t.pk) : Bool) with
       | false =>
        rw [g1, g2] at HF; obtain ⟨st, pk, en⟩ := t
        dsimp only at *
        obtain ⟨p0, p1, p2, _⟩ := X1.cells
        go_enter Tryz.func158, Tryz.ntmps158
        go_wp2_with fail
        rw [← hW]; clear hW
        refine (scoord_any st _).mono ?_
        rintro e u1 ⟨rfl, rfl⟩; rw [c1]
        go_wp2_with fail
        refine (scoord_any pk _).mono ?_
        rintro e u1 ⟨rfl, rfl⟩; rw [c2]
        go_wp2_with fail
        refine (scoord_any en _).mono ?_
        rintro e u1 ⟨rfl, rfl⟩; rw [c3]; clear c1 c2 c3; go_wp2
        go_ret
        exact ⟨rt_bool (by rw [HF.out]; simp), hbW⟩
       | true =>
        cases g3 : (decide (t.pk < t.en) : Bool) with
        | false =>
         cases g4 : (t.pk == 16384 : Bool) with
         | false =>
          rw [g1, g2, g3, g4] at HF; obtain ⟨st, pk, en⟩ := t
          dsimp only at *
          obtain ⟨p0, p1, p2, _⟩ := X1.cells
          go_enter Tryz.func158, Tryz.ntmps158
          go_wp2_with fail
          rw [← hW]; clear hW
          refine (scoord_any st _).mono ?_
          rintro e u1 ⟨rfl, rfl⟩; rw [c1]
          go_wp2_with fail
          refine (scoord_any pk _).mono ?_
          rintro e u1 ⟨rfl, rfl⟩; rw [c2]
          go_wp2_with fail
          refine (scoord_any en _).mono ?_
          rintro e u1 ⟨rfl, rfl⟩; rw [c3]; clear c1 c2 c3; go_wp2
          go_ret
          exact ⟨rt_bool (by rw [HF.out]; simp), hbW⟩
         | true =>
          rw [g1, g2, g3, g4] at HF; obtain ⟨st, pk, en⟩ := t
          dsimp only at *
          obtain ⟨p0, p1, p2, _⟩ := X1.cells
          go_enter Tryz.func158, Tryz.ntmps158
          go_wp2_with fail
          rw [← hW]; clear hW
          refine (scoord_any st _).mono ?_
          rintro e u1 ⟨rfl, rfl⟩; rw [c1]
          go_wp2_with fail
          refine (scoord_any pk _).mono ?_
          rintro e u1 ⟨rfl, rfl⟩; rw [c2]
          go_wp2_with fail
          refine (scoord_any en _).mono ?_
          rintro e u1 ⟨rfl, rfl⟩; rw [c3]; clear c1 c2 c3; go_wp2
          go_ret
          exact ⟨rt_bool (by rw [HF.out]; simp), hbW⟩
        | true =>
         rw [g1, g2, g3] at HF; obtain ⟨st, pk, en⟩ := t
         dsimp only at *
         obtain ⟨p0, p1, p2, _⟩ := X1.cells
         go_enter Tryz.func158, Tryz.ntmps158
         go_wp2_with fail
         rw [← hW]; clear hW
         refine (scoord_any st _).mono ?_
         rintro e u1 ⟨rfl, rfl⟩; rw [c1]
         go_wp2_with fail
         refine (scoord_any pk _).mono ?_
         rintro e u1 ⟨rfl, rfl⟩; rw [c2]
         go_wp2_with fail
         refine (scoord_any en _).mono ?_
         rintro e u1 ⟨rfl, rfl⟩; rw [c3]; clear c1 c2 c3; go_wp2
         go_ret
         exact ⟨rt_bool (by rw [HF.out]; simp), hbW⟩
    · by_cases hd : t.pk < 0
      · have HF : Hid (tfB t = _) := tfS_down c1 c2 c3 hd
        cases g1 : (decide (t.en ≤ 0) : Bool) with
        | false =>
         rw [g1] at HF; obtain ⟨st, pk, en⟩ := t
         dsimp only at *
         obtain ⟨p0, p1, p2, _⟩ := X1.cells
         go_enter Tryz.func158, Tryz.ntmps158
         go_wp2_with fail
         rw [← hW]; clear hW
         refine (scoord_any st _).mono ?_
         rintro e u1 ⟨rfl, rfl⟩; rw [c1]
         go_wp2_with fail
         refine (scoord_any pk _).mono ?_
         rintro e u1 ⟨rfl, rfl⟩; rw [c2]
         go_wp2_with fail
         refine (scoord_any en _).mono ?_
         rintro e u1 ⟨rfl, rfl⟩; rw [c3]; clear c1 c2 c3; go_wp2
         go_ret
         exact ⟨rt_bool (by rw [HF.out]; simp), hbW⟩
        | true =>
         cases g2 : (decide (t.pk < t.en) : Bool) with
         | false =>
          rw [g1, g2] at HF; obtain ⟨st, pk, en⟩ := t
          dsimp only at *
          obtain ⟨p0, p1, p2, _⟩ := X1.cells
          go_enter Tryz.func158, Tryz.ntmps158
          go_wp2_with fail
          rw [← hW]; clear hW
          refine (scoord_any st _).mono ?_
          rintro e u1 ⟨rfl, rfl⟩; rw [c1]
          go_wp2_with fail
          refine (scoord_any pk _).mono ?_
          rintro e u1 ⟨rfl, rfl⟩; rw [c2]
          go_wp2_with fail
          refine (scoord_any en _).mono ?_
          rintro e u1 ⟨rfl, rfl⟩; rw [c3]; clear c1 c2 c3; go_wp2
          go_ret
          exact ⟨rt_bool (by rw [HF.out]; simp), hbW⟩
         | true =>
          cases g3 : (decide (t.st < t.pk) : Bool) with
          | false =>
           cases g4 : (t.pk == -16384 : Bool) with
           | false =>
            rw [g1, g2, g3, g4] at HF; obtain ⟨st, pk, en⟩ := t
            dsimp only at *
            obtain ⟨p0, p1, p2, _⟩ := X1.cells
            go_enter Tryz.func158, Tryz.ntmps158
            go_wp2_with fail
            rw [← hW]; clear hW
            refine (scoord_any st _).mono ?_
            rintro e u1 ⟨rfl, rfl⟩; rw [c1]
            go_wp2_with fail
            refine (scoord_any pk _).mono ?_
            rintro e u1 ⟨rfl, rfl⟩; rw [c2]
            go_wp2_with fail
            refine (scoord_any en _).mono ?_
            rintro e u1 ⟨rfl, rfl⟩; rw [c3]; clear c1 c2 c3; go_wp2
            go_ret
            exact ⟨rt_bool (by rw [HF.out]; simp), hbW⟩
           | true =>
            rw [g1, g2, g3, g4] at HF; obtain ⟨st, pk, en⟩ := t
            dsimp only at *
            obtain ⟨p0, p1, p2, _⟩ := X1.cells
            go_enter Tryz.func158, Tryz.ntmps158
            go_wp2_with fail
            rw [← hW]; clear hW
            refine (scoord_any st _).mono ?_
            rintro e u1 ⟨rfl, rfl⟩; rw [c1]
            go_wp2_with fail
            refine (scoord_any pk _).mono ?_
            rintro e u1 ⟨rfl, rfl⟩; rw [c2]
            go_wp2_with fail
            refine (scoord_any en _).mono ?_
            rintro e u1 ⟨rfl, rfl⟩; rw [c3]; clear c1 c2 c3; go_wp2
            go_ret
            exact ⟨rt_bool (by rw [HF.out]; simp), hbW⟩
          | true =>
           rw [g1, g2, g3] at HF; obtain ⟨st, pk, en⟩ := t
           dsimp only at *
           obtain ⟨p0, p1, p2, _⟩ := X1.cells
           go_enter Tryz.func158, Tryz.ntmps158
           go_wp2_with fail
           rw [← hW]; clear hW
           refine (scoord_any st _).mono ?_
           rintro e u1 ⟨rfl, rfl⟩; rw [c1]
           go_wp2_with fail
           refine (scoord_any pk _).mono ?_
           rintro e u1 ⟨rfl, rfl⟩; rw [c2]
           go_wp2_with fail
           refine (scoord_any en _).mono ?_
           rintro e u1 ⟨rfl, rfl⟩; rw [c3]; clear c1 c2 c3; go_wp2
           go_ret
           exact ⟨rt_bool (by rw [HF.out]; simp), hbW⟩
      · have HF : Hid (tfB t = _) := tfS_mid c1 c2 c3 (by omega)
        cases g1 : (t.st == 0 : Bool) with
        | false =>
         rw [g1] at HF; obtain ⟨st, pk, en⟩ := t
         dsimp only at *
         obtain ⟨p0, p1, p2, _⟩ := X1.cells
         go_enter Tryz.func158, Tryz.ntmps158
         go_wp2_with fail
         rw [← hW]; clear hW
         refine (scoord_any st _).mono ?_
         rintro e u1 ⟨rfl, rfl⟩; rw [c1]
         go_wp2_with fail
         refine (scoord_any pk _).mono ?_
         rintro e u1 ⟨rfl, rfl⟩; rw [c2]
         go_wp2_with fail
         refine (scoord_any en _).mono ?_
         rintro e u1 ⟨rfl, rfl⟩; rw [c3]; clear c1 c2 c3; go_wp2
         go_ret
         exact ⟨rt_bool (by rw [HF.out]; simp), hbW⟩
        | true =>
         rw [g1] at HF; obtain ⟨st, pk, en⟩ := t
         dsimp only at *
         obtain ⟨p0, p1, p2, _⟩ := X1.cells
         go_enter Tryz.func158, Tryz.ntmps158
         go_wp2_with fail
         rw [← hW]; clear hW
         refine (scoord_any st _).mono ?_
         rintro e u1 ⟨rfl, rfl⟩; rw [c1]
         go_wp2_with fail
         refine (scoord_any pk _).mono ?_
         rintro e u1 ⟨rfl, rfl⟩; rw [c2]
         go_wp2_with fail
         refine (scoord_any en _).mono ?_
         rintro e u1 ⟨rfl, rfl⟩; rw [c3]; clear c1 c2 c3; go_wp2
         go_ret
         exact ⟨rt_bool (by rw [HF.out]; simp), hbW⟩
theorem sregion_any (a : Option Addr) (cap : Nat) (l : List Te) (n : Int) (w : World) (h : Tz w a cap l) :
    Calls Tryz.prog 107 #[.slice a l.length cap, .int .i64 n] w fun e w' => e = .returned (.bool (rgB l n)) ∧ Below w.heap.size w w' := by
 have k1 := h.1
 have k2 := h.lenB
 have HH : Hid (Tz w a cap l) := h
 clear h
 go_enter Tryz.func107, Tryz.ntmps107
 go_wp2
 go_loopw [5] (fun i wr => ∃ k : Nat, k ≤ l.length ∧ i = .int .i64 k ∧ (∀ j, j < k → tfB (l.getD j Te.none) = true) ∧ Below w.heap.size w wr) (fun i _ => l.length - (intOf i).toNat)
 case atStart => exact ⟨0, Nat.zero_le _, rfl, (fun j hj => by omega), Below.refl _ _⟩
 case round =>
  obtain ⟨k, hk, rfl, hok, hB⟩ := hrel
  have HOK : Hid (∀ j, j < k → tfB (l.getD j Te.none) = true) := hok
  clear hok
  by_cases hkn : k < l.length
  · obtain ⟨b, off, ea, hb, d0, d1, d2⟩ := HH.out.at hB k hkn
    subst ea
    have hfo := fun U => sformT_any (l.getD k Te.none) U
    obtain ⟨t, ht⟩ : ∃ t, l.getD k Te.none = t := ⟨_, rfl⟩
    have HT : Hid (l.getD k Te.none = t) := ht
    rw [ht] at d0 d1 d2 hfo; clear ht
    cases hf : tfB t with
    | false =>
     have HF : Hid (rgB l n = false) := by show _ = _; rw [rgB, all_noT hkn (by rw [HT.out]; exact hf), Bool.false_and]
     simp only [hf] at hfo
     clear hf HT HOK; obtain ⟨st, pk, en⟩ := t
     dsimp only at *
     go_wp2_with fail
     refine (hfo _).mono ?_
     rintro e u1 ⟨rfl, hb1⟩
     replace hB := hB.trans (hb1.mono hB.size)
     clear hb1 hfo; go_wp2
     go_ret
     exact ⟨rt_bool HF.out.symm, hB⟩
    | true =>
     have HOK2 : Hid (∀ j, j < k + 1 → tfB (l.getD j Te.none) = true) := fun j hj => by
      rcases Nat.lt_or_ge j k with h1 | h1
      · exact HOK.out j h1
      · rw [show j = k by omega, HT.out]; exact hf
     simp only [hf] at hfo
     clear hf HT HOK; obtain ⟨st, pk, en⟩ := t
     dsimp only at *
     go_wp2_with fail
     refine (hfo _).mono ?_
     rintro e u1 ⟨rfl, hb1⟩
     replace hB := hB.trans (hb1.mono hB.size)
     clear hb1 hfo; go_wp2
     go_roundw
     case rel => exact ⟨k + 1, by omega, by go_num, HOK2.out, hB⟩
     case measure => simp [intOf]; omega
  · obtain rfl : k = l.length := by omega
    have HF : Hid (rgB l n = decide ((l.length : Int) = n)) := by show _ = _; rw [rgB, allT.2 HOK.out, Bool.true_and]
    clear HOK; go_wp2
    go_ret
    exact ⟨rt_bool (by rw [HF.out]; by_cases e : (l.length : Int) = n <;> simp [e]), hB⟩
end Go.Proofs.YtkmcodofnckdmaaGreat
