/-
  tents.rises, turned: the walks.
  tents.Formed, tents.coordinateOf: the walks.
  tents.Region, tents.Everywhere, tents.Peak: the walks.
  tuples.rising, tuples.fields, tuples.namesRightly, tuples.Formed: the walks.
  tuples.sums, tuples.named, tuples.rounded: the walks.
-/
import Derived.Test.YtngmcghmniakeaaGreatZM6
import Derived.Laws.MakeOwn
import Derived.Test.YtngmcghmniakeaaGreatZM14
import Derived.Test.YtngmcghmniakeaaGreatZM15
import Derived.Test.YtngmcghmniakeaaGreatZM7
import Derived.Test.YtngmcghmniakeaaGreatZM9
set_option maxHeartbeats 4000000
set_option maxRecDepth 100000
set_option linter.unusedSimpArgs false
set_option linter.unusedVariables false
namespace Go.Proofs.YtngmcghmniakeaaGreat
open Go.RowKit Go.Maps
def riB (t : Te) : Bool := decide (0 ≤ t.st) && (decide (t.st < t.pk) && (decide (t.pk < t.en) || (t.pk == 16384 && t.en == 16384)))
theorem rises_any (t : Te) (w : World) :
    Calls Tryz.prog 165 #[.agg #[.int .i64 t.st, .int .i64 t.pk, .int .i64 t.en]] w fun e w' => e = .returned (.bool (riB t)) ∧ Below w.heap.size w w' := by
 obtain ⟨st, pk, en⟩ := t
 simp only [riB]
 by_cases h1 : 0 ≤ st
 · have g1 : decide (0 ≤ st) = true := decide_eq_true h1
   rw [g1]
   by_cases h2 : st < pk
   · have g2 : decide (st < pk) = true := decide_eq_true h2
     rw [g2]
     by_cases h3 : pk < en
     · have g3 : decide (pk < en) = true := decide_eq_true h3
       rw [g3]
       go_enter Tryz.func165, Tryz.ntmps165
       go_wp2
       go_ret
       exact ⟨rt_bool (by simp), al1 _⟩
     · have g3 : decide (pk < en) = false := decide_eq_false h3
       rw [g3]
       by_cases h4 : pk = 16384
       · have g4 : (pk == 16384) = true := by simp [h4]
         rw [g4]; clear h4
         go_enter Tryz.func165, Tryz.ntmps165
         go_wp2
         go_ret
         exact ⟨rt_bool (by simp), al1 _⟩
       · have g4 : (pk == 16384) = false := by simp [h4]
         rw [g4]; clear h4
         go_enter Tryz.func165, Tryz.ntmps165
         go_wp2
         go_ret
         exact ⟨rt_bool (by simp), al1 _⟩
   · have g2 : decide (st < pk) = false := decide_eq_false h2
     rw [g2]
     go_enter Tryz.func165, Tryz.ntmps165
     go_wp2
     go_ret
     exact ⟨rt_bool (by simp), al1 _⟩
 · have g1 : decide (0 ≤ st) = false := decide_eq_false h1
   rw [g1]
   go_enter Tryz.func165, Tryz.ntmps165
   go_wp2
   go_ret
   exact ⟨rt_bool (by simp), al1 _⟩
theorem turned_any (t : Te) (w : World) (h1 : crd t.st = true) (h2 : crd t.pk = true) (h3 : crd t.en = true) :
    Calls Tryz.prog 166 #[.agg #[.int .i64 t.st, .int .i64 t.pk, .int .i64 t.en]] w fun e w' => e = .returned (.agg #[.int .i64 (-t.en), .int .i64 (-t.pk), .int .i64 (-t.st)]) ∧ Below w.heap.size w w' := by
 obtain ⟨st, pk, en⟩ := t; rw [crdT] at h1 h2 h3
 dsimp only at *
 have k1 : IntKind.i64.wrap (-en) = -en := wrapi64 (by omega) (by omega)
 have k2 : IntKind.i64.wrap (-pk) = -pk := wrapi64 (by omega) (by omega)
 have k3 : IntKind.i64.wrap (-st) = -st := wrapi64 (by omega) (by omega)
 go_enter Tryz.func166, Tryz.ntmps166
 go_wp2
 exact bodyPost_ret (v := .agg #[.int .i64 (-en), .int .i64 (-pk), .int .i64 (-st)]) (by simp [results, Tryz.results166, go_sem]) rfl ⟨rfl, al2 _ _⟩
theorem riB_iff {t : Te} : riB t = true ↔ (0 ≤ t.st ∧ t.st < t.pk ∧ (t.pk < t.en ∨ (t.pk = 16384 ∧ t.en = 16384))) := by
 simp [riB]
theorem tfB_neg {t : Te} (h1 : crd t.st = true) (h2 : crd t.pk = true) (h3 : crd t.en = true) (h : t.pk < 0) : riB ⟨-t.en, -t.pk, -t.st⟩ = tfB t := by
 rw [crdT] at h1 h2 h3; rw [Bool.eq_iff_iff, riB_iff, tfB_iff]
 unfold TfT
 dsimp only
 omega
theorem tfB_pos {t : Te} (h1 : crd t.st = true) (h2 : crd t.pk = true) (h3 : crd t.en = true) (h : ¬ t.pk < 0) (hz : ¬ (t.st = 0 ∧ t.pk = 0 ∧ t.en = 0)) : riB t = tfB t := by
 rw [crdT] at h1 h2 h3; rw [Bool.eq_iff_iff, riB_iff, tfB_iff]
 unfold TfT
 omega
theorem cformT_any (t : Te) (w : World) :
    Calls Tryz.prog 111 #[.agg #[.int .i64 t.st, .int .i64 t.pk, .int .i64 t.en]] w fun e w' => e = .returned (.bool (tfB t)) ∧ Below w.heap.size w w' := by
 obtain ⟨W, hW, X1, hbW⟩ : ∃ W, W = w.alloc (.cells #[.int .i64 t.st, .int .i64 t.pk, .int .i64 t.en] 57) ∧ Box 57 W w.heap.size (.int .i64 t.st) (.int .i64 t.pk) (.int .i64 t.en) ∧ Below w.heap.size w W := ⟨_, rfl, Box.new _ _ _ _ _, al1 _⟩
 cases c1 : crd t.st with
 | false =>
  have HF : Hid (tfB t = false) := tfB_no (fun h => by rw [crdT.2 h.1] at c1; cases c1)
  obtain ⟨st, pk, en⟩ := t
  dsimp only at *
  go_enter Tryz.func111, Tryz.ntmps111
  go_wp2_with fail
  refine (coord_any st _).mono ?_
  rintro e u1 ⟨rfl, rfl⟩; rw [c1]; go_wp2
  go_ret
  exact ⟨rt_bool HF.out.symm, hW ▸ hbW⟩
 | true =>
  cases c2 : crd t.pk with
  | false =>
   have HF : Hid (tfB t = false) := tfB_no (fun h => by rw [crdT.2 h.2.1] at c2; cases c2)
   obtain ⟨st, pk, en⟩ := t
   dsimp only at *
   go_enter Tryz.func111, Tryz.ntmps111
   go_wp2_with fail
   refine (coord_any st _).mono ?_
   rintro e u1 ⟨rfl, rfl⟩; rw [c1]
   go_wp2_with fail
   refine (coord_any pk _).mono ?_
   rintro e u1 ⟨rfl, rfl⟩; rw [c2]; go_wp2
   go_ret
   exact ⟨rt_bool HF.out.symm, hW ▸ hbW⟩
  | true =>
   cases c3 : crd t.en with
   | false =>
    have HF : Hid (tfB t = false) := tfB_no (fun h => by rw [crdT.2 h.2.2.1] at c3; cases c3)
    obtain ⟨st, pk, en⟩ := t
    dsimp only at *
    go_enter Tryz.func111, Tryz.ntmps111
    go_wp2_with fail
    refine (coord_any st _).mono ?_
    rintro e u1 ⟨rfl, rfl⟩; rw [c1]
    go_wp2_with fail
    refine (coord_any pk _).mono ?_
    rintro e u1 ⟨rfl, rfl⟩; rw [c2]
    go_wp2_with fail
    refine (coord_any en _).mono ?_
    rintro e u1 ⟨rfl, rfl⟩; rw [c3]; go_wp2
    go_ret
    exact ⟨rt_bool HF.out.symm, hW ▸ hbW⟩
   | true =>
    by_cases hn : t.pk < 0
    · have HF : Hid (riB ⟨-t.en, -t.pk, -t.st⟩ = tfB t) := tfB_neg c1 c2 c3 hn
      have ht := fun U => turned_any t U c1 c2 c3
      have hr := fun U => rises_any ⟨-t.en, -t.pk, -t.st⟩ U
      obtain ⟨st, pk, en⟩ := t
      dsimp only at *
      go_enter Tryz.func111, Tryz.ntmps111
      go_wp2_with fail
      rw [← hW]; clear hW
      refine (coord_any st _).mono ?_
      rintro e u1 ⟨rfl, rfl⟩; rw [c1]; obtain ⟨p0, p1, p2, _⟩ := X1.cells
      go_wp2_with fail
      refine (coord_any pk _).mono ?_
      rintro e u1 ⟨rfl, rfl⟩; rw [c2]
      go_wp2_with fail
      refine (coord_any en _).mono ?_
      rintro e u1 ⟨rfl, rfl⟩; rw [c3]; clear c1 c2 c3
      go_wp2_with fail
      refine (ht _).mono ?_
      rintro e u1 ⟨rfl, hb1⟩
      replace hbW := hbW.trans (hb1.mono hbW.size)
      clear ht hb1 p0 p1 p2
      go_wp2_with fail
      refine (hr _).mono ?_
      rintro e u2 ⟨rfl, hb2⟩; rw [HF.out]
      replace hbW := hbW.trans (hb2.mono hbW.size)
      clear hr hb2; go_wp2
      go_ret
      exact ⟨rfl, hbW⟩
    · have HF : Hid (¬ (t.st = 0 ∧ t.pk = 0 ∧ t.en = 0) → riB t = tfB t) := tfB_pos c1 c2 c3 hn
      have HZ : Hid (t.st = 0 ∧ t.pk = 0 ∧ t.en = 0 → tfB t = true) := fun h => by
       rw [tfB_iff]
       unfold TfT
       omega
      have hr := fun U => rises_any t U
      obtain ⟨st, pk, en⟩ := t
      dsimp only at *
      go_enter Tryz.func111, Tryz.ntmps111
      go_wp2_with fail
      rw [← hW]; clear hW
      refine (coord_any st _).mono ?_
      rintro e u1 ⟨rfl, rfl⟩; rw [c1]; obtain ⟨p0, p1, p2, _⟩ := X1.cells
      go_wp2_with fail
      refine (coord_any pk _).mono ?_
      rintro e u1 ⟨rfl, rfl⟩; rw [c2]
      go_wp2_with fail
      refine (coord_any en _).mono ?_
      rintro e u1 ⟨rfl, rfl⟩; rw [c3]; clear c1 c2 c3
      by_cases s0 : st = 0
      · subst s0
        by_cases q0 : pk = 0
        · subst q0
          by_cases e0 : en = 0
          · subst e0
            go_wp2
            go_ret
            exact ⟨rt_bool (HZ.out (by simp)).symm, hbW⟩
          · go_wp2_with fail
            refine (hr _).mono ?_
            rintro e u2 ⟨rfl, hb2⟩
            rw [HF.out (by omega)]
            replace hbW := hbW.trans (hb2.mono hbW.size)
            clear hr hb2; go_wp2
            go_ret
            exact ⟨rfl, hbW⟩
        · go_wp2_with fail
          refine (hr _).mono ?_
          rintro e u2 ⟨rfl, hb2⟩
          rw [HF.out (by omega)]
          replace hbW := hbW.trans (hb2.mono hbW.size)
          clear hr hb2; go_wp2
          go_ret
          exact ⟨rfl, hbW⟩
      · go_wp2_with fail
        refine (hr _).mono ?_
        rintro e u2 ⟨rfl, hb2⟩
        rw [HF.out (by omega)]
        replace hbW := hbW.trans (hb2.mono hbW.size)
        clear hr hb2; go_wp2
        go_ret
        exact ⟨rfl, hbW⟩
theorem coordOf_any (a : Option Addr) (cap : Nat) (cs : List Int) (k : Nat) (w : World) (h : Ri w a cap cs) (hk : k ≤ 1000000) :
    Calls Tryz.prog 66 #[.slice a cs.length cap, .int .i64 (k : Int)] w fun e w' => e = .returned (.int .i64 (cs.getD k 0)) ∧ Below w.heap.size w w' := by
 have k1 := h.lenB
 by_cases hkn : k < cs.length
 · obtain ⟨b, off, ea, hb, d0⟩ := h.at (Below.refl _ _) k hkn
   subst ea
   have g1 : (k : Int) < (cs.length : Int) := by omega
   generalize cs.getD k 0 = z at *
   clear h
   go_enter Tryz.func66, Tryz.ntmps66
   go_wp2
   go_ret
   exact ⟨rfl, Below.refl _ _⟩
 · have g1 : ¬ (k : Int) < (cs.length : Int) := by omega
   have HZ : Hid (cs.getD k 0 = 0) := by show _ = _; rw [List.getD_eq_getElem?_getD, List.getElem?_eq_none (by omega)]; rfl
   clear h
   go_enter Tryz.func66, Tryz.ntmps66
   go_wp2
   go_ret
   exact ⟨rt_int (by first | rfl | exact HZ.out.symm), Below.refl _ _⟩
theorem all_noT {l : List Te} {p : Te → Bool} {k : Nat} (hk : k < l.length) (h : p (l.getD k Te.none) = false) : l.all p = false := by
 rw [Bool.eq_false_iff]
 intro e
 have := allT.1 e k hk
 rw [h] at this
 cases this
theorem cregion_any (a : Option Addr) (cap : Nat) (l : List Te) (n : Int) (w : World) (h : Tz w a cap l) :
    Calls Tryz.prog 57 #[.slice a l.length cap, .int .i64 n] w fun e w' => e = .returned (.bool (rgB l n)) ∧ Below w.heap.size w w' := by
 have k1 := h.1
 have k2 := h.lenB
 by_cases hl : (l.length : Int) = n
 · have HR : Hid (rgB l n = l.all tfB) := by show _ = _; rw [rgB, decide_eq_true hl, Bool.and_true]
   have g1 : ((l.length : Int) != n) = false := by simp [hl]
   have HH : Hid (Tz w a cap l) := h
   clear hl h
   go_enter Tryz.func57, Tryz.ntmps57
   go_wp2
   go_loopw [13] (fun i wr => ∃ k : Nat, k ≤ l.length ∧ i = .int .i64 k ∧ (∀ j, j < k → tfB (l.getD j Te.none) = true) ∧ Below w.heap.size w wr) (fun i _ => l.length - (intOf i).toNat)
   case atStart => exact ⟨0, Nat.zero_le _, rfl, (fun j hj => by omega), Below.refl _ _⟩
   case round =>
    obtain ⟨k, hk, rfl, hok, hB⟩ := hrel
    have HOK : Hid (∀ j, j < k → tfB (l.getD j Te.none) = true) := hok
    clear hok
    by_cases hkn : k < l.length
    · obtain ⟨b, off, ea, hb, d0, d1, d2⟩ := HH.out.at hB k hkn
      subst ea
      have hfo := fun U => cformT_any (l.getD k Te.none) U
      obtain ⟨t, ht⟩ : ∃ t, l.getD k Te.none = t := ⟨_, rfl⟩
      have HT : Hid (l.getD k Te.none = t) := ht
      rw [ht] at d0 d1 d2 hfo; clear ht
      cases hf : tfB t with
      | false =>
       have HF : Hid (rgB l n = false) := by show _ = _; rw [HR.out]; exact all_noT hkn (by rw [HT.out]; exact hf)
       simp only [hf] at hfo
       clear hf HT HOK; obtain ⟨st, pk, en⟩ := t
       dsimp only at *
       go_wp2_with fail
       refine (hfo _).mono ?_
       rintro e u1 ⟨rfl, hb1⟩
       replace hB := (hB.alloc hB.size _).trans (hb1.mono (hB.alloc hB.size _).size)
       clear hb1 hfo; go_wp2
       go_ret
       exact ⟨rt_bool HF.out.symm, hB⟩
      | true =>
       have HOK2 : Hid (∀ j, j < k + 1 → tfB (l.getD j Te.none) = true) := fun j hj => by
        rcases Nat.lt_or_ge j k with h1 | h1
        · exact HOK.out j h1
        · rw [show j = k by omega, HT.out]; exact hf
       simp only [hf] at hfo
       clear hf HT HOK; obtain ⟨st, pk, en⟩ := t
       dsimp only at *
       go_wp2_with fail
       refine (hfo _).mono ?_
       rintro e u1 ⟨rfl, hb1⟩
       replace hB := (hB.alloc hB.size _).trans (hb1.mono (hB.alloc hB.size _).size)
       clear hb1 hfo; go_wp2
       go_roundw
       case rel => exact ⟨k + 1, by omega, by go_num, HOK2.out, hB⟩
       case measure => simp [intOf]; omega
    · obtain rfl : k = l.length := by omega
      have HF : Hid (rgB l n = true) := by show _ = _; rw [HR.out]; exact allT.2 HOK.out
      clear HOK; go_wp2
      go_ret
      exact ⟨rt_bool HF.out.symm, hB⟩
 · have HR : Hid (rgB l n = false) := by show _ = _; rw [rgB, decide_eq_false hl, Bool.and_false]
   have g1 : ((l.length : Int) != n) = true := by simp [hl]
   clear h hl
   go_enter Tryz.func57, Tryz.ntmps57
   go_wp2
   go_ret
   exact ⟨rt_bool HR.out.symm, Below.refl _ _⟩
theorem urising_any (a : Option Addr) (ca : Nat) (pts : List Int) (n : Nat) (w : World) (h : Ri w a ca pts) (hn : n ≤ 1000000) :
    Calls Tryz.prog 112 #[.slice a pts.length ca, .int .i64 (n : Int)] w fun e w' => e = .returned (.bool (risB pts n)) ∧ w = w' := by
 have k2 := h.lenB
 have HH : Hid (Ri w a ca pts) := h
 clear h
 go_enter Tryz.func112, Tryz.ntmps112
 go_wp2
 go_loopw [5, 10] (fun l i wr => ∃ k : Nat, k ≤ pts.length ∧ i = .int .i64 k ∧ l = .int .i64 (lastI pts k) ∧ (∀ j, j < k → risP pts n j) ∧ w = wr) (fun _ i _ => pts.length - (intOf i).toNat)
 case atStart => exact ⟨0, Nat.zero_le _, rfl, rfl, (fun j hj => by omega), rfl⟩
 case round =>
  obtain ⟨k, hk, rfl, rfl, hok, rfl⟩ := hrel
  have HOK : Hid (∀ j, j < k → risP pts n j) := hok
  clear hok
  by_cases hkn : k < pts.length
  · obtain ⟨b, off, ea, hb, d0⟩ := HH.out.at (Below.refl _ _) k hkn
    have hzi := HH.out.i64 hkn
    subst ea
    have HL : Hid (lastI pts (k + 1) = pts.getD k 0) := by show _ = _; unfold lastI; rw [if_neg (by omega), Nat.add_sub_cancel]
    obtain ⟨z, hzz⟩ : ∃ z, pts.getD k 0 = z := ⟨_, rfl⟩
    obtain ⟨l, hll⟩ : ∃ z, lastI pts k = z := ⟨_, rfl⟩
    have HP : Hid (risP pts n k ↔ l < z ∧ z < (n : Int)) := by show _ ↔ _; unfold risP; rw [hzz, hll]
    rw [hzz] at d0 HL hzi; rw [hll]
    have i1 : (0 : Int) ≤ (k : Int) := by omega
    have i2 : (k : Int) < (pts.length : Int) := by omega
    clear hzz hll
    by_cases h1 : l < z
    · have g1 : ¬ z ≤ l := by omega
      have g1b : decide (z ≤ l) = false := decide_eq_false g1
      by_cases h2 : z < (n : Int)
      · have g2 : decide (z ≥ (n : Int)) = false := decide_eq_false (by omega)
        have HOK2 : Hid (∀ j, j < k + 1 → risP pts n j) := upto_succ HOK.out (HP.out.2 ⟨h1, h2⟩)
        clear HOK HP; go_wp2
        go_roundw
        case rel => exact ⟨k + 1, by omega, by go_num, by rw [HL.out], HOK2.out, trivial⟩
        case measure => simp [intOf]; omega
      · have g2 : decide (z ≥ (n : Int)) = true := decide_eq_true (by omega)
        have HF : Hid (risB pts n = false) := risB_no hkn (fun h => h2 (HP.out.1 h).2)
        clear HOK HP; go_wp2
        go_ret
        exact ⟨rt_bool HF.out.symm, rfl⟩
    · have g1 : z ≤ l := by omega
      have g1b : decide (z ≤ l) = true := decide_eq_true g1
      have HF : Hid (risB pts n = false) := risB_no hkn (fun h => h1 (HP.out.1 h).1)
      clear HOK HP; go_wp2
      go_ret
      exact ⟨rt_bool HF.out.symm, rfl⟩
  · obtain rfl : k = pts.length := by omega
    have HF : Hid (risB pts n = true) := risB_yes HOK.out
    have g1 : ¬ (pts.length : Int) < (pts.length : Int) := by omega
    clear HOK; go_wp2
    go_ret
    exact ⟨rt_bool HF.out.symm, rfl⟩
theorem ufields_any (a : Option Addr) (cap : Nat) (r : List Int) (w : World) (h : Ri w a cap r) :
    Calls Tryz.prog 59 #[.slice a r.length cap] w fun e w' => e = .returned (.bool (r.all fdB)) ∧ w = w' := by
 have k2 := h.lenB
 have HH : Hid (Ri w a cap r) := h
 clear h
 go_enter Tryz.func59, Tryz.ntmps59
 go_wp2
 go_loopw [7] (fun i wr => ∃ k : Nat, k ≤ r.length ∧ i = .int .i64 k ∧ (∀ j, j < k → fdB (r.getD j 0) = true) ∧ w = wr) (fun i _ => r.length - (intOf i).toNat)
 case atStart => exact ⟨0, Nat.zero_le _, rfl, (fun j hj => by omega), rfl⟩
 case round =>
  obtain ⟨k, hk, rfl, hok, rfl⟩ := hrel
  have HOK : Hid (∀ j, j < k → fdB (r.getD j 0) = true) := hok
  clear hok
  by_cases hkn : k < r.length
  · obtain ⟨b, off, ea, hb, d0⟩ := HH.out.at (Below.refl _ _) k hkn
    subst ea
    obtain ⟨z, hzz⟩ : ∃ z, r.getD k 0 = z := ⟨_, rfl⟩
    have HZ : Hid (r.getD k 0 = z) := hzz
    rw [hzz] at d0
    have i1 : (0 : Int) ≤ (k : Int) := by omega
    have i2 : (k : Int) < (r.length : Int) := by omega
    have hw1 := wrap64_16 z
    have hw2 := wrap16_fd' z
    clear hzz
    cases hf : fdB z with
    | false =>
     have HF : Hid (r.all fdB = false) := all_no' hkn (by rw [HZ.out]; exact hf)
     rw [hf] at hw2; clear hf HZ HOK; go_wp2
     go_ret
     exact ⟨rt_bool HF.out.symm, rfl⟩
    | true =>
     have HOK2 : Hid (∀ j, j < k + 1 → fdB (r.getD j 0) = true) := upto_succ HOK.out (by rw [HZ.out]; exact hf)
     rw [hf] at hw2; clear hf HZ HOK; go_wp2
     go_roundw
     case rel => exact ⟨k + 1, by omega, by go_num, HOK2.out, trivial⟩
     case measure => simp [intOf]; omega
  · obtain rfl : k = r.length := by omega
    have HF : Hid (r.all fdB = true) := all_yes' HOK.out
    have g1 : ¬ (r.length : Int) < (r.length : Int) := by omega
    clear HOK; go_wp2
    go_ret
    exact ⟨rt_bool HF.out.symm, rfl⟩
theorem nm_all {t : Tu} {n : Nat} (ha : t.al = true) : nmB t n = (decide (t.pts.length = 0) && (decide (t.dx.length = n) && decide (t.dy.length = n))) := by
 unfold nmB
 rw [if_pos ha]
 by_cases h1 : t.pts.length = 0 <;> by_cases h2 : t.dx.length = n <;> by_cases h3 : t.dy.length = n <;> simp [h1, h2, h3]
theorem nm_some {t : Tu} {n : Nat} (ha : t.al = false) : nmB t n = (decide (0 < t.pts.length) && (risB t.pts n && (decide (t.dx.length = t.pts.length) && decide (t.dy.length = t.pts.length)))) := by
 unfold nmB
 rw [if_neg (by rw [ha]; decide)]
 by_cases h2 : t.dx.length = t.pts.length <;> by_cases h3 : t.dy.length = t.pts.length <;> simp [h2, h3]
theorem cnames_any (S : Nat → Prop) (ra : Option Addr) (rc : Nat) (pa : Option Addr) (pc : Nat) (xa : Option Addr) (xc : Nat) (ya : Option Addr) (yc : Nat) (t : Tu) (n : Nat) (w : World) (h : TuC S w ra rc pa pc xa xc ya yc t) (hn : n ≤ 1000000) :
    Calls Tryz.prog 58 #[.agg #[.slice ra t.rg.length rc, .bool t.al, .slice pa t.pts.length pc, .slice xa t.dx.length xc, .slice ya t.dy.length yc], .int .i64 (n : Int)] w fun e w' => e = .returned (.bool (nmB t n)) ∧ Below w.heap.size w w' := by
 obtain ⟨b0, b1, b2, b3⟩ := h.len
 obtain ⟨W, hW, X1, hbW⟩ : ∃ W, W = w.alloc (.cells #[.slice ra t.rg.length rc, .bool t.al, .slice pa t.pts.length pc, .slice xa t.dx.length xc, .slice ya t.dy.length yc] 60) ∧ Bk 60 W w.heap.size [.slice ra t.rg.length rc, .bool t.al, .slice pa t.pts.length pc, .slice xa t.dx.length xc, .slice ya t.dy.length yc] ∧ Below w.heap.size w W := ⟨_, rfl, Bk.new _ _ _, bl1 _⟩
 obtain ⟨p0, p1, p2, p3, p4, _⟩ := X1.five
 have hP := (h.below hbW).pts
 cases ha : t.al with
 | true =>
  have HE : Hid (_) := nm_all (n := n) ha
  rw [ha] at hW X1 p1; clear ha X1 hP h
  generalize t.pts.length = m at *
  generalize t.dx.length = x at *
  generalize t.dy.length = y at *
  generalize nmB t n = Q at *
  go_enter Tryz.func58, Tryz.ntmps58
  go_upto_region 1 with fail
  rw [← hW]; clear hW
  by_cases h1 : m = 0
  rotate_left
  · have g1 : ((m : Int) == 0) = false := beq_eq_false_iff_ne.2 (by omega)
    have HF : Hid (Q = false) := by show _ = _; rw [HE.out, decide_eq_false h1]; rfl
    clear HE; go_wp2
    go_ret
    exact ⟨rt_bool HF.out.symm, hbW⟩
  have g1 : ((m : Int) == 0) = true := beq_iff_eq.2 (by omega)
  by_cases h2 : x = n
  rotate_left
  · have g2 : ((x : Int) == (n : Int)) = false := beq_eq_false_iff_ne.2 (by omega)
    have HF : Hid (Q = false) := by show _ = _; rw [HE.out, decide_eq_true h1, decide_eq_false h2]; rfl
    clear HE h1; go_wp2
    go_ret
    exact ⟨rt_bool HF.out.symm, hbW⟩
  have g2 : ((x : Int) == (n : Int)) = true := beq_iff_eq.2 (by omega)
  by_cases h3 : y = n
  · have g3 : ((y : Int) == (n : Int)) = true := beq_iff_eq.2 (by omega)
    have HF : Hid (Q = true) := by show _ = _; rw [HE.out, decide_eq_true h1, decide_eq_true h2, decide_eq_true h3]; rfl
    clear HE h1 h2 h3; go_wp2
    go_ret
    exact ⟨rt_bool HF.out.symm, hbW⟩
  · have g3 : ((y : Int) == (n : Int)) = false := beq_eq_false_iff_ne.2 (by omega)
    have HF : Hid (Q = false) := by show _ = _; rw [HE.out, decide_eq_true h1, decide_eq_true h2, decide_eq_false h3]; rfl
    clear HE h1 h2 h3; go_wp2
    go_ret
    exact ⟨rt_bool HF.out.symm, hbW⟩
 | false =>
  have HE : Hid (_) := nm_some (n := n) ha
  have hr := urising_any pa pc t.pts n W hP hn
  rw [ha] at hW X1 p1; clear ha X1 hP h
  generalize risB t.pts n = r at *
  generalize t.pts.length = m at *
  generalize t.dx.length = x at *
  generalize t.dy.length = y at *
  generalize nmB t n = Q at *
  go_enter Tryz.func58, Tryz.ntmps58
  go_upto_region 1 with fail
  rw [← hW]; clear hW
  by_cases h1 : 0 < m
  rotate_left
  · have g1 : decide ((m : Int) > 0) = false := decide_eq_false (by omega)
    have HF : Hid (Q = false) := by show _ = _; rw [HE.out, decide_eq_false h1]; rfl
    clear HE hr; go_wp2
    go_ret
    exact ⟨rt_bool HF.out.symm, hbW⟩
  have g1 : decide ((m : Int) > 0) = true := decide_eq_true (by omega)
  cases r with
  | false =>
   have HF : Hid (Q = false) := by show _ = _; rw [HE.out, decide_eq_true h1]; rfl
   clear HE
   go_wp2_with fail
   refine hr.mono ?_
   rintro e u ⟨rfl, rfl⟩; go_wp2
   go_ret
   exact ⟨rt_bool HF.out.symm, hbW⟩
  | true =>
  by_cases h2 : x = m
  rotate_left
  · have g2 : ((x : Int) == (m : Int)) = false := beq_eq_false_iff_ne.2 (by omega)
    have HF : Hid (Q = false) := by show _ = _; rw [HE.out, decide_eq_true h1, decide_eq_false h2]; rfl
    clear HE
    go_wp2_with fail
    refine hr.mono ?_
    rintro e u ⟨rfl, rfl⟩; go_wp2
    go_ret
    exact ⟨rt_bool HF.out.symm, hbW⟩
  have g2 : ((x : Int) == (m : Int)) = true := beq_iff_eq.2 (by omega)
  by_cases h3 : y = m
  · have g3 : ((y : Int) == (m : Int)) = true := beq_iff_eq.2 (by omega)
    have HF : Hid (Q = true) := by show _ = _; rw [HE.out, decide_eq_true h1, decide_eq_true h2, decide_eq_true h3]; rfl
    clear HE h2 h3
    go_wp2_with fail
    refine hr.mono ?_
    rintro e u ⟨rfl, rfl⟩; go_wp2
    go_ret
    exact ⟨rt_bool HF.out.symm, hbW⟩
  · have g3 : ((y : Int) == (m : Int)) = false := beq_eq_false_iff_ne.2 (by omega)
    have HF : Hid (Q = false) := by show _ = _; rw [HE.out, decide_eq_true h1, decide_eq_true h2, decide_eq_false h3]; rfl
    clear HE h2 h3
    go_wp2_with fail
    refine hr.mono ?_
    rintro e u ⟨rfl, rfl⟩; go_wp2
    go_ret
    exact ⟨rt_bool HF.out.symm, hbW⟩
theorem foT_1 {o : Ol} {l : List Tu} {ax : Int} (h : foB o = false) : foT o l ax = false := by unfold foT; rw [h]; rfl
theorem foT_2 {o : Ol} {l : List Tu} {ax : Int} (h : ¬ (0 ≤ ax ∧ ax ≤ 4)) : foT o l ax = false := by unfold foT; rw [decide_eq_false h]; simp
theorem foT_3 {o : Ol} {l : List Tu} {ax : Int} (h : ¬ l.length ≤ 40) : foT o l ax = false := by unfold foT; rw [decide_eq_false h]; simp
theorem foT_4 {o : Ol} {l : List Tu} {ax : Int} {k : Nat} (hk : k < l.length) (h : tuB (l.getD k Tu.none) (cntO o) ax = false) : foT o l ax = false :=
 foT_no (fun hc => by have := hc.2.2.2 k hk; rw [h] at this; cases this)
theorem cformU_any (S : Nat → Prop) (a : Option Addr) (ca : Nat) (b : Option Addr) (cb : Nat) (o : Ol) (S2 : Nat → Prop) (la : Option Addr) (lc : Nat) (l : List Tu) (ax : Int) (w : World) (hc : Gr PnE.row S w a ca o.cs) (hp : Gr PaE S w b cb o.ps) (hl : Gr TuE S2 w la lc l) (hi : I64 ax) :
    Calls Tryz.prog 21 #[.agg #[.slice a o.cs.length ca, .slice b o.ps.length cb], .slice la l.length lc, .int .i64 ax] w fun e w' => e = .returned (.bool (foT o l ax)) ∧ Below w.heap.size w w' := by
 have kl := hl.lenB
 obtain ⟨W, hW, X1, hbW⟩ : ∃ W, W = w.alloc (.cells #[.slice a o.cs.length ca, .slice b o.ps.length cb] 25) ∧ Bk 25 W w.heap.size [.slice a o.cs.length ca, .slice b o.ps.length cb] ∧ Below w.heap.size w W := ⟨_, rfl, Bk.new _ _ _, bl1 _⟩
 replace hc := hc.below hbW; replace hp := hp.below hbW; replace hl := hl.below hbW; obtain ⟨p0, p1, _⟩ := X1.two
 have hf1 := cformO_any S a ca b cb o W hc hp
 unfold I64 at hi
 obtain ⟨Q, hQ⟩ : ∃ q, foT o l ax = q := ⟨_, rfl⟩
 have HQQ : Hid (foT o l ax = Q) := hQ
 rw [hQ]; clear hQ
 go_enter Tryz.func21, Tryz.ntmps21
 go_upto_region 1 with fail
 rw [← hW]; clear hW
 cases hfo : foB o with
 | false =>
  have HF : Hid (Q = false) := by show _ = _; rw [← HQQ.out]; exact foT_1 hfo
  rw [hfo] at hf1; clear hfo
  go_wp2_with fail
  refine hf1.mono ?_
  rintro e m2 ⟨rfl, hb1⟩
  have hfin := hbW.trans (hb1.mono hbW.size)
  clear hb1 hf1; go_wp2
  go_ret
  exact ⟨rt_bool HF.out.symm, hfin⟩
 | true =>
 rw [hfo] at hf1
 have HFO : Hid (foB o = true) := hfo
 have HOL : Hid (o.cs.flatten.length ≤ 100000 ∧ o.ps.length ≤ 100000) := by have := foB_iff.1 hfo; exact ⟨by have := this.2.2.2.2.1; omega, by have := this.2.2.1; omega⟩
 have HCN : Hid (cntO o ≤ 86) := cnt_le hfo
 clear hfo
 go_wp2_with fail
 refine hf1.mono ?_
 rintro e m1 ⟨rfl, hb1⟩; replace hc := hc.below hb1; replace hp := hp.below hb1; replace hl := hl.below hb1; replace X1 := X1.below hb1
 replace hbW := hbW.trans (hb1.mono hbW.size)
 clear hb1 hf1 p0 p1; obtain ⟨p0, p1, _⟩ := X1.two
 by_cases h0 : ax < 0
 · have g0 : decide (ax < 0) = true := decide_eq_true h0
   have HF : Hid (Q = false) := by show _ = _; rw [← HQQ.out]; exact foT_2 (by omega)
   go_wp2
   go_ret
   exact ⟨rt_bool HF.out.symm, hbW⟩
 have g0 : decide (ax < 0) = false := decide_eq_false h0
 by_cases h4 : ax > 4
 · have g4 : decide (ax > 4) = true := decide_eq_true h4
   have HF : Hid (Q = false) := by show _ = _; rw [← HQQ.out]; exact foT_2 (by omega)
   go_wp2
   go_ret
   exact ⟨rt_bool HF.out.symm, hbW⟩
 have g4 : decide (ax > 4) = false := decide_eq_false h4
 by_cases h40 : l.length ≤ 40
 rotate_left
 · have g5 : decide ((l.length : Int) > 40) = true := decide_eq_true (by omega)
   have HF : Hid (Q = false) := by show _ = _; rw [← HQQ.out]; exact foT_3 h40
   clear hl
   generalize l.length = n at *
   go_wp2
   go_ret
   exact ⟨rt_bool HF.out.symm, hbW⟩
 have g5 : decide ((l.length : Int) > 40) = false := decide_eq_false (by omega)
 have HAX : Hid (0 ≤ ax ∧ ax ≤ 4) := ⟨by omega, by omega⟩
 go_wp2_with fail
 refine (ccount_any S a ca b cb o _ hc hp HOL.out.1 HOL.out.2).mono ?_
 rintro e m2 ⟨rfl, hb1⟩; replace hl := hl.below hb1
 replace hbW := hbW.trans (hb1.mono hbW.size)
 clear hb1 p0 p1 X1 hc hp g0 g4 h0 h4
 have HL : Hid (Gr TuE S2 m2 la lc l) := hl
 have HBW : Hid (Below w.heap.size w m2) := hbW
 clear hl hbW
 obtain ⟨cn, hcn⟩ : ∃ n, cntO o = n := ⟨_, rfl⟩
 have HCO : Hid (cntO o = cn) := hcn
 rw [hcn] at HCN ⊢; clear hcn
 have HQN : Hid (∀ k, k < l.length → tuB (l.getD k Tu.none) cn ax = false → Q = false) := fun k hk h => by rw [← HQQ.out]; exact foT_4 hk (by rw [HCO.out]; exact h)
 have HQY : Hid ((∀ k, k < l.length → tuB (l.getD k Tu.none) cn ax = true) → Q = true) := fun h => by rw [← HQQ.out]; exact foT_iff.2 ⟨HFO.out, HAX.out, h40, fun k hk => by rw [HCO.out]; exact h k hk⟩
 clear HFO HAX HOL HCO; go_wp2; clear g5
 go_loopw [30] (fun i wr => ∃ k : Nat, k ≤ l.length ∧ i = .int .i64 k ∧ (∀ j, j < k → tuB (l.getD j Tu.none) cn ax = true) ∧ Below m2.heap.size m2 wr) (fun i _ => l.length - (intOf i).toNat)
 case atStart => exact ⟨0, Nat.zero_le _, rfl, (fun j hj => by omega), Below.refl _ _⟩
 case round =>
  obtain ⟨k, hk, rfl, hok, hB⟩ := hrel
  have HOK : Hid (∀ j, j < k → tuB (l.getD j Tu.none) cn ax = true) := hok
  clear hok
  by_cases hkn : k < l.length
  · obtain ⟨b0, off, ra, rc, pa, pc, xa, xc, ya, yc, ea, hb, ht, d0, d1, d2, d3, d4⟩ := HL.out.tu hB k hkn
    subst ea
    have HN := fun (h : tuB (l.getD k Tu.none) cn ax = false) => HQN.out k hkn h
    have HY := fun (h : tuB (l.getD k Tu.none) cn ax = true) => upto_succ HOK.out h
    obtain ⟨t, htt⟩ : ∃ t, l.getD k Tu.none = t := ⟨_, rfl⟩
    rw [htt] at ht d0 d1 d2 d3 d4 HN HY
    have HY : Hid (tuB t cn ax = true → ∀ j, j < k + 1 → tuB (l.getD j Tu.none) cn ax = true) := HY
    have HN : Hid (tuB t cn ax = false → Q = false) := HN
    clear htt HOK
    have i1 : (0 : Int) ≤ (k : Int) := by omega
    have i2 : (k : Int) < (l.length : Int) := by omega
    obtain ⟨V, hV, X0, hb0⟩ : ∃ V, V = wr.alloc (.cells #[.slice ra t.rg.length rc, .bool t.al, .slice pa t.pts.length pc, .slice xa t.dx.length xc, .slice ya t.dy.length yc] 60) ∧ Bk 60 V wr.heap.size [.slice ra t.rg.length rc, .bool t.al, .slice pa t.pts.length pc, .slice xa t.dx.length xc, .slice ya t.dy.length yc] ∧ Below wr.heap.size wr V := ⟨_, rfl, Bk.new _ _ _, bl1 _⟩
    replace ht := ht.below hb0
    replace hB := hB.trans (hb0.mono hB.size)
    obtain ⟨q0, q1, q2, q3, q4, _⟩ := X0.five
    go_upto_region 7 with fail
    rw [← hV]; clear hV d0 d1 d2 d3 d4 hb0
    have c1 := cregion_any ra rc t.rg ax V ht.tz
    cases h1 : rgB t.rg ax with
    | false =>
     have HF : Hid (Q = false) := HN.out (by unfold tuB; rw [h1]; rfl)
     rw [h1] at c1; clear h1 HN HY HQN HQY
     go_wp2_with fail
     refine c1.mono ?_
     rintro e y1 ⟨rfl, hb1⟩
     have hfin := HBW.out.trans ((hB.trans (hb1.mono hB.size)).mono HBW.out.size)
     clear hb1 c1 hB; go_wp2
     go_ret
     exact ⟨rt_bool HF.out.symm, hfin⟩
    | true =>
    rw [h1] at c1
    go_wp2_with fail
    refine c1.mono ?_
    rintro e y1 ⟨rfl, hb1⟩; replace ht := ht.below hb1
    replace hB := hB.trans (hb1.mono hB.size)
    replace X0 := X0.below hb1; clear q0 q1 q2 q3 q4 hb1 c1; obtain ⟨q0, q1, q2, q3, q4, _⟩ := X0.five
    have c1 := cnames_any S2 ra rc pa pc xa xc ya yc t cn y1 ht (by have := HCN.out; omega)
    cases h2 : nmB t cn with
    | false =>
     have HF : Hid (Q = false) := HN.out (by unfold tuB; rw [h1, h2]; rfl)
     rw [h2] at c1; clear h1 h2 HN HY HQN HQY
     go_wp2_with fail
     refine c1.mono ?_
     rintro e y2 ⟨rfl, hb1⟩
     have hfin := HBW.out.trans ((hB.trans (hb1.mono hB.size)).mono HBW.out.size)
     clear hb1 c1 hB; go_wp2
     go_ret
     exact ⟨rt_bool HF.out.symm, hfin⟩
    | true =>
    rw [h2] at c1
    go_wp2_with fail
    refine c1.mono ?_
    rintro e y2 ⟨rfl, hb1⟩; replace ht := ht.below hb1
    replace hB := hB.trans (hb1.mono hB.size)
    replace X0 := X0.below hb1; clear q0 q1 q2 q3 q4 hb1 c1; obtain ⟨q0, q1, q2, q3, q4, _⟩ := X0.five
    have c1 := ufields_any xa xc t.dx y2 ht.dx
    have c2 := ufields_any ya yc t.dy y2 ht.dy
    cases h3 : t.dx.all fdB with
    | false =>
     have HF : Hid (Q = false) := HN.out (by unfold tuB; rw [h1, h2, h3]; rfl)
     rw [h3] at c1; clear h1 h2 h3 HN HY HQN HQY
     go_wp2_with fail
     refine c1.mono ?_
     rintro e y3 ⟨rfl, rfl⟩
     have hfin := HBW.out.trans (hB.mono HBW.out.size)
     clear c1 hB; go_wp2
     go_ret
     exact ⟨rt_bool HF.out.symm, hfin⟩
    | true =>
    rw [h3] at c1
    go_wp2_with fail
    refine c1.mono ?_
    rintro e y3 ⟨rfl, rfl⟩; clear c1
    cases h5 : t.dy.all fdB with
    | false =>
     have HF : Hid (Q = false) := HN.out (by unfold tuB; rw [h1, h2, h3, h5]; rfl)
     rw [h5] at c2; clear h1 h2 h3 h5 HN HY HQN HQY
     go_wp2_with fail
     refine c2.mono ?_
     rintro e y3 ⟨rfl, rfl⟩
     have hfin := HBW.out.trans (hB.mono HBW.out.size)
     clear c2 hB; go_wp2
     go_ret
     exact ⟨rt_bool HF.out.symm, hfin⟩
    | true =>
    rw [h5] at c2
    have HY2 : Hid (∀ j, j < k + 1 → tuB (l.getD j Tu.none) cn ax = true) := HY.out (by unfold tuB; rw [h1, h2, h3, h5]; rfl)
    have HB2 : Hid (Below m2.heap.size m2 y2) := hB
    clear h1 h2 h3 h5 HN HY HQN HQY hB
    go_wp2_with fail
    refine c2.mono ?_
    rintro e y3 ⟨rfl, rfl⟩; clear c2; go_wp2
    go_roundw
    case rel => exact ⟨k + 1, by omega, by go_num, HY2.out, HB2.out⟩
    case measure => simp [intOf]; omega
  · obtain rfl : k = l.length := by omega
    have g9 : ¬ (l.length : Int) < (l.length : Int) := by omega
    have HF : Hid (Q = true) := HQY.out HOK.out
    have hfin := HBW.out.trans (hB.mono HBW.out.size)
    clear HOK HQN HQY; go_wp2
    go_ret
    exact ⟨rt_bool HF.out.symm, hfin⟩
theorem map_sums (T : List (List Rat)) : T.map suQ = (List.range T.length).map (fun j => suQ (T.getD j [])) := by
 refine List.ext_getElem (by simp) (fun j h1 h2 => ?_)
 have hj : j < T.length := by simpa using h1
 simp [List.getD, hj]
theorem lmb_900 {n : Nat} (h : n ≤ 41) : lmb n ≤ 900 := by unfold lmb; split <;> omega
theorem usums_any (B : Nat → Prop) (v : Value) (T : List (List Rat)) (w : World) (h : Rr B w v 20 T) (hl : T.length ≤ 1000) (h1 : ∀ i, i < T.length → 1 ≤ (T.getD i []).length ∧ (T.getD i []).length ≤ 41) :
    Calls Tryz.prog 31 #[v] w fun e w' => ∃ a' c', e = .returned (.slice a' (T.map suQ).length c') ∧ Rg w.heap.size w' a' c' 900 (T.map suQ) ∧ Below w.heap.size w w' := by
 obtain ⟨va, vc, rfl, hv1, hv2⟩ := h.slice
 have HH : Hid (Rr B w (.slice va T.length vc) 20 T) := h
 have H1 : Hid (∀ i, i < T.length → 1 ≤ (T.getD i []).length ∧ (T.getD i []).length ≤ 41) := h1
 rw [map_sums]
 obtain ⟨n, hnn⟩ : ∃ n, T.length = n := ⟨_, rfl⟩
 have HL : Hid (T.length = n) := hnn
 rw [hnn] at hl hv1 ⊢
 unfold maxLen at hv2
 clear hnn h h1
 obtain ⟨i0, hi0, hz0, hz1, hz2⟩ := info_parts info_rt
 have hmk := run_make (P := Tryz.prog) w 32 69 i0 rtZ Tryz.underlying32 hi0 hz0 .i64 .i64 0 (n : Int) (by omega) (by omega) (by rw [hz2]; omega) (by omega)
 rw [hz1] at hmk
 simp only [Int.toNat_zero, Int.toNat_natCast] at hmk
 obtain ⟨w1, hw1⟩ : ∃ w1, w.alloc (.cells (madeCells rtZ.cells (n * 3)) 69) = w1 := ⟨_, rfl⟩
 have hI0 : Ro 69 w.heap.size w1 (.slice (some ⟨w.heap.size, 0, none⟩) 0 n) 900 ((List.range 0).map (fun j => suQ (T.getD j []))) := by
  refine ⟨[], ?_, fun g hg => ?_, fun i hi => by simp at hi⟩
  · rw [← hw1]
    have := World.ownsRow_made (base := w.heap.size) (e := 69) (size := 3) w (madeCells rtZ.cells (n * 3)) n (Nat.le_refl _) (by unfold maxLen; omega) (size_madeCells _ _)
    simpa using this
  · simp [Value.ownBlock] at hg
    subst hg; rw [← hw1]
    exact NoI.of (heap_alloc_new w _) (rtZ_made _)
 have hB1u : Below w.heap.size w w1 := by rw [← hw1]; exact bl1 _
 rw [hw1] at hmk; clear hw1 hi0 hz0 hz1 hz2
 go_enter Tryz.func31, Tryz.ntmps31
 go_wp2
 go_loopw [3, 11] (fun v i wr => ∃ k : Nat, k ≤ n ∧ i = .int .i64 k ∧ Ro 69 w.heap.size wr v 900 ((List.range k).map (fun j => suQ (T.getD j []))) ∧ Below w.heap.size w wr) (fun _ i _ => n - (intOf i).toNat)
 case atStart => exact ⟨0, Nat.zero_le _, rfl, hI0, hB1u⟩
 case round =>
  obtain ⟨k, hk, rfl, hT, hB⟩ := hrel; obtain ⟨a2, c2, rfl, hts⟩ := hT.rg
  have hlen : ((List.range k).map (fun j => suQ (T.getD j []))).length = k := by simp
  have HLN : Hid (((List.range k).map (fun j => suQ (T.getD j []))).length = k) := hlen
  rw [hlen] at hT ⊢
  have HT2 : Hid (Ro 69 w.heap.size wr (.slice a2 k c2) 900 ((List.range k).map (fun j => suQ (T.getD j [])))) := hT
  have HTS : Hid (Rg w.heap.size wr a2 c2 900 ((List.range k).map (fun j => suQ (T.getD j [])))) := hts
  clear hT hts hmk hI0 hB1u
  have hsz := hB.size
  by_cases hkn : k < n
  · obtain ⟨g, cap, u, ea, hg, _, _, _, d0, _, hu, _⟩ := (HH.out.below hB).at k (by rw [HL.out]; exact hkn)
    injection ea with ea _ ec; subst ea ec; obtain ⟨ua, uc, rfl, hrf⟩ := hu.rf
    obtain ⟨n1, n2⟩ := H1.out k (by rw [HL.out]; exact hkn)
    have HS : Hid (_) := rg_succ (fun j => suQ (T.getD j [])) k
    obtain ⟨qs, hqs⟩ : ∃ q, T.getD k [] = q := ⟨_, rfl⟩
    rw [hqs] at d0 hrf n1 n2 HS
    have hsu := usum_any qs.length ua uc qs wr rfl n1 (by omega) hrf.1
    have hlm := lmb_900 n2
    have i1 : (0 : Int) ≤ (k : Int) := by omega
    have i2 : (k : Int) < (n : Int) := by omega
    generalize (List.range k).map (fun j => suQ (T.getD j [])) = L at *
    generalize suQ qs = z at *
    generalize lmb qs.length = lm at *
    generalize qs.length = ql at *
    clear hqs hrf hu
    go_wp2_with fail
    refine hsu.mono ?_
    rintro e u1 ⟨v1, rfl, hF1, hb1⟩; obtain ⟨z1, x1, x2, x3, x4, x5, x6, rfl⟩ := hF1.cells3'
    obtain ⟨V, hV, B4, hb4⟩ : ∃ V, V = u1.alloc (.cells #[.bool z1, .slice x1 x2 x3, .slice x4 x5 x6] 69) ∧ Box 69 V u1.heap.size (.bool z1) (.slice x1 x2 x3) (.slice x4 x5 x6) ∧ Below u1.heap.size u1 V := ⟨_, rfl, Box.new _ _ _ _ _, bl1 _⟩
    have hbv : Below wr.heap.size wr V := hb1.trans (hb4.mono hb1.size)
    obtain ⟨r0, r1, r2, _⟩ := B4.cells
    have hone := Rz.one B4.lt r0 r1 r2 ((hF1.below hb4).le hlm)
    have hown := HT2.out.below hbv
    have hll : L.length + [z].length ≤ 1000000 := by rw [hlen]; simp; omega
    have hbs : w.heap.size ≤ V.heap.size := Nat.le_trans hsz hbv.size
    have hBV : Below w.heap.size w V := hB.trans (hbv.mono hsz)
    have hloV : ∀ g, (Value.slice a2 k c2).ownBlock = some g → w.heap.size ≤ g := fun g hg => (HT2.out.lo hg).1
    clear hF1 hb1 hb4 hbv B4 r0 r1 r2 hsu
    go_wp2_with (at_builtin; rw [← hV]; refine wpList_append_rts 32 69 Tryz.underlying32 info_rt rfl _ _ rfl w.heap.size (.slice a2 k c2) 900 _ _ rfl hown _ 1 1 rfl rfl hone (fun e => by cases e) (fun ad e => by cases e; exact ⟨_, _, rfl⟩) hll hbs ?_)
    intro v9 w9 hT9 hgrow _
    rw [← hV] at hgrow
    have hB9 : Below w.heap.size w w9 := hBV.grown hgrow hbs hloV
    rw [← HS.out] at hT9; clear hgrow hbs hll HS hone hown hV; go_wp2
    go_roundw
    case rel => exact ⟨k + 1, by omega, by go_num, hT9, hB9⟩
    case measure => simp [intOf]; omega
  · obtain rfl : k = n := by omega
    have g4 : ¬ (k : Int) < (k : Int) := by omega
    go_wp2
    go_ret
    exact ⟨a2, c2, rfl, HTS.out, hB⟩
theorem Gi.mk0 (w : World) (n : Nat) (hn : n ≤ 1000000) : Gi w.heap.size (w.alloc (.cells (madeCells #[.int .i64 0] n) 3)) (.slice (some ⟨w.heap.size, 0, none⟩) 0 n) [] := by
 refine Gw.made ?_
 have := World.ownsRow_made (base := w.heap.size) (e := 3) (size := 1) w (madeCells #[.int .i64 0] n) n (Nat.le_refl _) (by unfold maxLen; omega) (by rw [size_madeCells]; omega)
 have h2 : (w.alloc (.cells (madeCells #[.int .i64 0] n) 3)).ownsRow w.heap.size 3 1 (.slice (some ⟨w.heap.size, 0, none⟩) 0 n) 0 [] := by simpa using this
 exact h2
theorem unamed_any (S : Nat → Prop) (ra : Option Addr) (rc : Nat) (pa : Option Addr) (pc : Nat) (xa : Option Addr) (xc : Nat) (ya : Option Addr) (yc : Nat) (t : Tu) (w : World) (h : TuC S w ra rc pa pc xa xc ya yc t) (hn : t.dx.length ≤ 100000) :
    Calls Tryz.prog 29 #[.agg #[.slice ra t.rg.length rc, .bool t.al, .slice pa t.pts.length pc, .slice xa t.dx.length xc, .slice ya t.dy.length yc]] w fun e w' => ∃ a c, e = .returned (.slice a (nmd t).length c) ∧ Ri w' a c (nmd t) ∧ Below w.heap.size w w' := by
 obtain ⟨W, hW, X1, hbW⟩ : ∃ W, W = w.alloc (.cells #[.slice ra t.rg.length rc, .bool t.al, .slice pa t.pts.length pc, .slice xa t.dx.length xc, .slice ya t.dy.length yc] 60) ∧ Bk 60 W w.heap.size [.slice ra t.rg.length rc, .bool t.al, .slice pa t.pts.length pc, .slice xa t.dx.length xc, .slice ya t.dy.length yc] ∧ Below w.heap.size w W := ⟨_, rfl, Bk.new _ _ _, bl1 _⟩
 have hP := (h.below hbW).pts
 cases ha : t.al with
 | false =>
  have HE : Hid (nmd t = t.pts) := by show _ = _; unfold nmd; rw [if_neg (by rw [ha]; decide)]
  rw [ha] at hW X1; obtain ⟨p0, p1, p2, p3, p4, _⟩ := X1.five; rw [HE.out]; clear ha X1 h
  generalize t.pts = pts at *
  go_enter Tryz.func29, Tryz.ntmps29
  go_upto_region 1 with fail
  rw [← hW]; clear hW; go_wp2
  go_ret
  exact ⟨pa, pc, rfl, hP, hbW⟩
 | true =>
  have HE : Hid (nmd t = allI t.dx.length) := by show _ = _; unfold nmd; rw [if_pos ha]
  rw [ha] at hW X1; obtain ⟨p0, p1, p2, p3, p4, _⟩ := X1.five; rw [HE.out]; clear ha h hP
  generalize t.dx.length = n at *
  obtain ⟨i0, hi0, hz0, hz1, hz2⟩ := info_parts infoA_i64
  have hmk := run_make (P := Tryz.prog) W 29 3 i0 (.int .i64 0) Tryz.underlying29 hi0 hz0 .i64 .i64 0 (n : Int) (by omega) (by omega) (by rw [hz2]; omega) (by omega)
  rw [hz1] at hmk
  simp only [Int.toNat_zero, Int.toNat_natCast, Nat.mul_one] at hmk
  have hI0 := Gi.mk0 W n (by omega)
  have hB0 : Below W.heap.size W (W.alloc (.cells (madeCells #[.int .i64 0] n) 3)) := bl1 _
  replace hmk : (Instr.makeSlice 29 (.int .i64 0) (.int .i64 (n : Int))).run Tryz.prog W = .ok (.slice (some ⟨W.heap.size, 0, none⟩) 0 n) (W.alloc (.cells (madeCells #[.int .i64 0] n) 3)) := hmk
  generalize W.alloc (.cells (madeCells #[.int .i64 0] n) 3) = w1 at *
  have X2 := X1.below hB0
  obtain ⟨q0, q1, q2, q3, q4, _⟩ := X2.five; clear hi0 hz0 hz1 hz2 X1
  go_enter Tryz.func29, Tryz.ntmps29
  go_upto_region 1 with fail
  rw [← hW]; clear hW; go_wp2
  go_loopw [3, 17] (fun v i wr => ∃ k : Nat, k ≤ n ∧ i = .int .i64 k ∧ Gi W.heap.size wr v (allI k) ∧ Below W.heap.size W wr) (fun _ i _ => n - (intOf i).toNat)
  case atStart => exact ⟨0, Nat.zero_le _, rfl, hI0, hB0⟩
  case round =>
   clear hI0 hB0 hmk X2 q0 q1 q2 q3 q4 p0 p1 p2 p3 p4; obtain ⟨k, hk, rfl, hT, hB⟩ := hrel
   have hlen := allI_len k
   have HLN : Hid ((allI k).length = k) := hlen
   have HT2 : Hid (Gi W.heap.size wr u3 (allI k)) := hT
   clear hT
   by_cases hkn : k < n
   · have i1 : (0 : Int) ≤ (k : Int) := by omega
     have i2 : (k : Int) < (n : Int) := by omega
     have HS : Hid (allI (k + 1) = allI k ++ [(k : Int)]) := allI_succ k
     obtain ⟨V, hV, c1, hbV, hlV⟩ : ∃ V, V = wr.alloc (.cells #[.int .i64 (k : Int)] 3) ∧ V.cell? ⟨wr.heap.size, 0, none⟩ = some (.int .i64 (k : Int)) ∧ Below wr.heap.size wr V ∧ wr.heap.size < V.heap.size := ⟨_, rfl, cell_of_row _ _ 0 _ _ (0, 0) (heap_alloc_new _ _), bl1 _, by simp⟩
     have hown := HT2.out.below hbV
     have hll : (allI k).length + 1 ≤ 1000000 := by omega
     have hbs : W.heap.size ≤ V.heap.size := Nat.le_trans hB.size hbV.size
     have hBV : Below W.heap.size W V := hB.trans (hbV.mono hB.size)
     have hki : I64 (k : Int) := by unfold I64; omega
     generalize allI k = L at *
     clear hlen
     go_wp2_with (at_builtin; rw [← hV]; refine wpList_append_gi rfl _ _ rfl W.heap.size u3 L rfl hown wr.heap.size (k : Int) rfl hlV c1 hki hll hbs ?_)
     intro v9 w9 hT9 hgrow _
     rw [← hV] at hgrow
     have hB9 : Below W.heap.size W w9 := hBV.grown hgrow hbs (fun g hg => (hown.lo hg).1)
     rw [← HS.out] at hT9; clear hgrow hbs hll HS hown hV c1 hlV; go_wp2
     go_roundw
     case rel => exact ⟨k + 1, by omega, by go_num, hT9, hB9⟩
     case measure => simp [intOf]; omega
   · obtain rfl : k = n := by omega
     have g4 : ¬ (k : Int) < (k : Int) := by omega
     obtain ⟨aa, cc, rfl, hra, -⟩ := HT2.out.slice
     have HRA : Hid (Ri wr aa cc (allI k)) := hra
     have hfin := hbW.trans (hB.mono hbW.size)
     clear hra HT2; go_wp2
     go_ret
     exact ⟨aa, cc, rfl, HRA.out, hfin⟩
theorem map_rnN (qs : List Rat) : qs.map rnN = (List.range qs.length).map (fun j => rnN (qs.getD j 0)) := by
 refine List.ext_getElem (by simp) (fun j h1 h2 => ?_)
 have hj : j < qs.length := by simpa using h1
 simp [List.getD, hj]
theorem urounded_any (a : Option Addr) (ca : Nat) (qs : List Rat) (w : World) (h : Rz w a ca 900 qs) (hl : qs.length ≤ 1000) :
    Calls Tryz.prog 38 #[.slice a qs.length ca] w fun e w' => ∃ a' c', e = .returned (.tuple #[.slice a' (rnL qs).length c', .int .i64 (rnE qs)]) ∧ Ri w' a' c' (rnL qs) ∧ Below w.heap.size w w' := by
 have HH : Hid (Rz w a ca 900 qs) := h
 have hcap := h.1
 have HNO : Hid (∀ k, k < qs.length → fldE (qs.getD k 0 + 1 / 2).floor = 4 → rnL qs = [] ∧ rnE qs = 4) := fun k hk h4 => by
  have := rnB_no hk (by rw [h4]; decide)
  unfold rnL rnE
  rw [this]
  exact ⟨rfl, rfl⟩
 have HYE : Hid ((∀ k, k < qs.length → fldE (qs.getD k 0 + 1 / 2).floor = 0) → rnL qs = (List.range qs.length).map (fun j => rnN (qs.getD j 0)) ∧ rnE qs = 0) := fun h0 => by
  have := rnB_yes h0
  unfold rnL rnE
  rw [this, ← map_rnN]
  exact ⟨rfl, rfl⟩
 obtain ⟨n, hnn⟩ : ∃ n, qs.length = n := ⟨_, rfl⟩
 have HL : Hid (qs.length = n) := hnn
 rw [hnn] at hl hcap HNO HYE ⊢; clear hnn h
 generalize rnL qs = RL at *
 generalize rnE qs = RE at *
 obtain ⟨i0, hi0, hz0, hz1, hz2⟩ := info_parts infoA_i64
 have hmk := run_make (P := Tryz.prog) w 29 3 i0 (.int .i64 0) Tryz.underlying29 hi0 hz0 .i64 .i64 0 (n : Int) (by omega) (by omega) (by rw [hz2]; omega) (by omega)
 rw [hz1] at hmk
 simp only [Int.toNat_zero, Int.toNat_natCast, Nat.mul_one] at hmk
 have hI0 := Gi.mk0 w n (by omega)
 have hB0 : Below w.heap.size w (w.alloc (.cells (madeCells #[.int .i64 0] n) 3)) := bl1 _
 replace hmk : (Instr.makeSlice 29 (.int .i64 0) (.int .i64 (n : Int))).run Tryz.prog w = .ok (.slice (some ⟨w.heap.size, 0, none⟩) 0 n) (w.alloc (.cells (madeCells #[.int .i64 0] n) 3)) := hmk
 generalize w.alloc (.cells (madeCells #[.int .i64 0] n) 3) = w1 at *
 clear hi0 hz0 hz1 hz2
 go_enter Tryz.func38, Tryz.ntmps38
 go_wp2
 go_loopw [4, 14] (fun v i wr => ∃ k : Nat, k ≤ n ∧ i = .int .i64 k ∧ (∀ j, j < k → fldE (qs.getD j 0 + 1 / 2).floor = 0) ∧ Gi w.heap.size wr v ((List.range k).map (fun j => rnN (qs.getD j 0))) ∧ Below w.heap.size w wr) (fun _ i _ => n - (intOf i).toNat)
 case atStart => exact ⟨0, Nat.zero_le _, rfl, (fun j hj => by omega), hI0, hB0⟩
 case round =>
  clear hI0 hB0 hmk; obtain ⟨k, hk, rfl, hok, hT, hB⟩ := hrel
  have HOK : Hid (∀ j, j < k → fldE (qs.getD j 0 + 1 / 2).floor = 0) := hok
  have HLN : Hid (((List.range k).map (fun j => rnN (qs.getD j 0))).length = k) := by show _ = _; simp
  have HT2 : Hid (Gi w.heap.size wr u4 ((List.range k).map (fun j => rnN (qs.getD j 0)))) := hT
  clear hT hok
  by_cases hkn : k < n
  · obtain ⟨b, off, x, y, z, ea, hb, d0, d1, d2, hFj⟩ := HH.out.at hB k (by rw [HL.out]; exact hkn)
    subst ea
    have HS : Hid (_) := rg_succ (fun j => rnN (qs.getD j 0)) k
    have HN := HNO.out k hkn
    have hr1 := rnN_i64 (qs.getD k 0)
    have HU := fun (h0 : fldE (qs.getD k 0 + 1 / 2).floor = 0) => upto_succ HOK.out h0
    have h04 := fldE_two (qs.getD k 0 + 1 / 2).floor
    have hrn : fldN (qs.getD k 0 + 1 / 2).floor = rnN (qs.getD k 0) := rfl
    obtain ⟨q, hq⟩ : ∃ q, qs.getD k 0 = q := ⟨_, rfl⟩
    rw [hq] at hFj HS HN hr1 HU h04 hrn; obtain ⟨n9, y1, y2, y3, y4, y5, y6, e9⟩ := hFj.cells3'
    simp only [Value.agg.injEq, Array.mk.injEq, List.cons.injEq, and_true] at e9
    obtain ⟨rfl, rfl, rfl⟩ := e9
    obtain ⟨V, hV, B4, hb4⟩ : ∃ V, V = wr.alloc (.cells #[.bool n9, .slice y1 y2 y3, .slice y4 y5 y6] 69) ∧ Box 69 V wr.heap.size (.bool n9) (.slice y1 y2 y3) (.slice y4 y5 y6) ∧ Below wr.heap.size wr V := ⟨_, rfl, Box.new _ _ _ _ _, bl1 _⟩
    have hfi := field_any 900 q _ V (hFj.below hb4).ct (by decide) (by decide)
    rw [hrn] at hfi; obtain ⟨r0, r1, r2, _⟩ := B4.cells
    have hBV : Below w.heap.size w V := hB.trans (hb4.mono hB.size)
    have i1 : (0 : Int) ≤ (k : Int) := by omega
    have i2 : (k : Int) < (n : Int) := by omega
    generalize (List.range k).map (fun j => rnN (qs.getD j 0)) = L at *
    generalize rnN q = z at *
    have HN : Hid (fldE (q + 1 / 2).floor = 4 → RL = [] ∧ RE = 4) := HN
    have HU : Hid (fldE (q + 1 / 2).floor = 0 → ∀ j, j < k + 1 → fldE (qs.getD j 0 + 1 / 2).floor = 0) := HU
    generalize fldE (q + 1 / 2).floor = E at *
    have hown := HT2.out.below hb4
    clear hq hrn hFj HT2
    go_upto_region 5 with fail
    rw [← hV]; clear hV d0 d1 d2 hb4
    go_wp2_with fail
    refine hfi.mono ?_
    rintro e m1 ⟨rfl, hb1⟩
    replace hBV := hBV.trans (hb1.mono hBV.size)
    replace hown := hown.below hb1; clear hb1 hfi r0 r1 r2
    rcases h04 with rfl | rfl
    · have HU2 : Hid (∀ j, j < k + 1 → fldE (qs.getD j 0 + 1 / 2).floor = 0) := HU.out rfl
      obtain ⟨V2, hV2, c1, hbV, hlV⟩ : ∃ V, V = m1.alloc (.cells #[.int .i64 z] 3) ∧ V.cell? ⟨m1.heap.size, 0, none⟩ = some (.int .i64 z) ∧ Below m1.heap.size m1 V ∧ m1.heap.size < V.heap.size := ⟨_, rfl, cell_of_row _ _ 0 _ _ (0, 0) (heap_alloc_new _ _), bl1 _, by simp⟩
      replace hown := hown.below hbV
      have hll : L.length + 1 ≤ 1000000 := by have := HLN.out; omega
      have hbs : w.heap.size ≤ V2.heap.size := Nat.le_trans hBV.size hbV.size
      replace hBV : Below w.heap.size w V2 := hBV.trans (hbV.mono hBV.size)
      have hki : I64 z := by unfold I64; omega
      clear HU HN
      go_wp2_with (at_builtin; rw [← hV2]; refine wpList_append_gi rfl _ _ rfl w.heap.size u4 L rfl hown m1.heap.size z rfl hlV c1 hki hll hbs ?_)
      intro v9 w9 hT9 hgrow _
      rw [← hV2] at hgrow
      have hB9 : Below w.heap.size w w9 := hBV.grown hgrow hbs (fun g hg => (hown.lo hg).1)
      rw [← HS.out] at hT9; clear hgrow hbs hll HS hown hV2 c1 hlV; go_wp2
      go_roundw
      case rel => exact ⟨k + 1, by omega, by go_num, HU2.out, hT9, hB9⟩
      case measure => simp [intOf]; omega
    · have HF : Hid (RL = [] ∧ RE = 4) := HN.out rfl
      clear HU HN; go_wp2
      go_ret2
      exact ⟨none, 0, by rw [HF.out.1, HF.out.2]; rfl, by rw [HF.out.1]; exact Gr.ri (Gr.nil El.int (fun _ => True) _ none 0 (Nat.zero_le _) (fun _ => rfl)), hBV⟩
  · obtain rfl : k = n := by omega
    have g4 : ¬ (k : Int) < (k : Int) := by omega
    obtain ⟨aa, cc, rfl, hra, -⟩ := HT2.out.slice
    have HF : Hid (_) := HYE.out HOK.out
    have HRA : Hid (Ri wr aa cc RL) := by show Ri _ _ _ _; rw [HF.out.1]; exact hra
    have HE2 : Hid ((List.range k).map (fun j => rnN (qs.getD j 0)) = RL) := HF.out.1.symm
    have HE3 : Hid (RE = 0) := HF.out.2
    clear hra HT2 HF HYE HNO HOK
    generalize (List.range k).map (fun j => rnN (qs.getD j 0)) = L at *
    go_wp2
    go_ret2
    exact ⟨aa, cc, by rw [HE3.out, ← HE2.out]; rfl, HRA.out, hB⟩
end Go.Proofs.YtngmcghmniakeaaGreat
