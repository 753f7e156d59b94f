/-
  tents.Region, tents.Everywhere, tents.Peak: the walks.
  tuples.rising, tuples.fields, tuples.namesRightly, tuples.Formed: the walks.
-/
import Derived.Test.YtngmcghmniakeaaZ22
import Derived.Laws.MakeOwn
import Derived.Test.YtngmcghmniakeaaZ20
namespace Go.Proofs.Ytngmcghmniakeaa
open Go.RowKit Go.Maps
set_option linter.unusedSimpArgs false
set_option linter.unusedVariables false

theorem all_noT {l : List Te} {p : Te → Bool} {k : Nat} (hk : k < l.length) (h : p (l.getD k Te.none) = false) : l.all p = false := by
  rw [Bool.eq_false_iff]
  intro e
  have := allT.1 e k hk
  rw [h] at this
  cases this

set_option maxHeartbeats 1000000 in
set_option maxRecDepth 100000 in
theorem cregion_any (a : Option Addr) (cap : Nat) (l : List Te) (n : Int) (w : World) (h : Tz w a cap l) :
    Calls Try.prog 18 #[.slice a l.length cap, .int .i64 n] w fun e w' => e = .returned (.bool (rgB l n)) ∧ Below w.heap.size w w' := by
  have k1 := h.1
  have k2 := h.lenB
  by_cases hl : (l.length : Int) = n
  · have HR : Hid (rgB l n = l.all tfB) := by show _ = _; rw [rgB, decide_eq_true hl, Bool.and_true]
    have g1 : ((l.length : Int) != n) = false := by simp [hl]
    have HH : Hid (Tz w a cap l) := h
    clear hl h
    go_enter Try.func18, Try.ntmps18
    go_wp2
    go_loopw [13] (fun i wr => ∃ k : Nat, k ≤ l.length ∧ i = .int .i64 k ∧ (∀ j, j < k → tfB (l.getD j Te.none) = true) ∧ Below w.heap.size w wr) (fun i _ => l.length - (intOf i).toNat)
    case atStart => exact ⟨0, Nat.zero_le _, rfl, (fun j hj => by omega), Below.refl _ _⟩
    case round =>
      obtain ⟨k, hk, rfl, hok, hB⟩ := hrel
      have HOK : Hid (∀ j, j < k → tfB (l.getD j Te.none) = true) := hok
      clear hok
      by_cases hkn : k < l.length
      · obtain ⟨b, off, ea, hb, d0, d1, d2⟩ := HH.out.at hB k hkn
        subst ea
        have hfo := fun U => cformT_any (l.getD k Te.none) U
        obtain ⟨t, ht⟩ : ∃ t, l.getD k Te.none = t := ⟨_, rfl⟩
        have HT : Hid (l.getD k Te.none = t) := ht
        rw [ht] at d0 d1 d2 hfo
        clear ht
        cases hf : tfB t with
        | false =>
          have HF : Hid (rgB l n = false) := by show _ = _; rw [HR.out]; exact all_noT hkn (by rw [HT.out]; exact hf)
          simp only [hf] at hfo
          clear hf HT HOK
          obtain ⟨st, pk, en⟩ := t
          dsimp only at *
          go_wp2_with fail
          refine (hfo _).mono ?_
          rintro e u1 ⟨rfl, hb1⟩
          replace hB := (hB.alloc hB.size _).trans (hb1.mono (hB.alloc hB.size _).size)
          clear hb1 hfo
          go_wp2
          go_ret
          exact ⟨rt_bool HF.out.symm, hB⟩
        | true =>
          have HOK2 : Hid (∀ j, j < k + 1 → tfB (l.getD j Te.none) = true) := fun j hj => by
            rcases Nat.lt_or_ge j k with h1 | h1
            · exact HOK.out j h1
            · rw [show j = k by omega, HT.out]; exact hf
          simp only [hf] at hfo
          clear hf HT HOK
          obtain ⟨st, pk, en⟩ := t
          dsimp only at *
          go_wp2_with fail
          refine (hfo _).mono ?_
          rintro e u1 ⟨rfl, hb1⟩
          replace hB := (hB.alloc hB.size _).trans (hb1.mono (hB.alloc hB.size _).size)
          clear hb1 hfo
          go_wp2
          go_roundw
          case rel => exact ⟨k + 1, by omega, by go_num, HOK2.out, hB⟩
          case measure => simp [intOf]; omega
      · obtain rfl : k = l.length := by omega
        have HF : Hid (rgB l n = true) := by show _ = _; rw [HR.out]; exact allT.2 HOK.out
        clear HOK
        go_wp2
        go_ret
        exact ⟨rt_bool HF.out.symm, hB⟩
  · have HR : Hid (rgB l n = false) := by show _ = _; rw [rgB, decide_eq_false hl, Bool.and_false]
    have g1 : ((l.length : Int) != n) = true := by simp [hl]
    clear h hl
    go_enter Try.func18, Try.ntmps18
    go_wp2
    go_ret
    exact ⟨rt_bool HR.out.symm, Below.refl _ _⟩

set_option maxHeartbeats 1000000 in
set_option maxRecDepth 100000 in
theorem ceverywhere_any (a : Option Addr) (cap : Nat) (l : List Te) (w : World) (h : Tz w a cap l) :
    Calls Try.prog 9 #[.slice a l.length cap] w fun e w' => e = .returned (.bool (evB l)) ∧ Below w.heap.size w w' := by
  have k1 := h.1
  have k2 := h.lenB
  have HH : Hid (Tz w a cap l) := h
  clear h
  go_enter Try.func9, Try.ntmps9
  go_wp2
  go_loopw [7] (fun i wr => ∃ k : Nat, k ≤ l.length ∧ i = .int .i64 k ∧ (∀ j, j < k → decide ((l.getD j Te.none).pk = 0) = true) ∧ Below w.heap.size w wr) (fun i _ => l.length - (intOf i).toNat)
  case atStart => exact ⟨0, Nat.zero_le _, rfl, (fun j hj => by omega), Below.refl _ _⟩
  case round =>
    obtain ⟨k, hk, rfl, hok, hB⟩ := hrel
    have HOK : Hid (∀ j, j < k → decide ((l.getD j Te.none).pk = 0) = true) := hok
    clear hok
    by_cases hkn : k < l.length
    · obtain ⟨b, off, ea, hb, d0, d1, d2⟩ := HH.out.at hB k hkn
      subst ea
      obtain ⟨t, ht⟩ : ∃ t, l.getD k Te.none = t := ⟨_, rfl⟩
      have HT : Hid (l.getD k Te.none = t) := ht
      rw [ht] at d0 d1 d2
      clear ht
      cases hf : decide (t.pk = 0) with
      | false =>
        have HF : Hid (evB l = false) := all_noT (p := fun t => decide (t.pk = 0)) hkn (by rw [HT.out]; exact hf)
        have g1 : (t.pk != 0) = true := by have := of_decide_eq_false hf; simp [this]
        have hB9 := fun o => hB.alloc hB.size o
        clear hf HT HOK
        obtain ⟨st, pk, en⟩ := t
        dsimp only at *
        go_wp2
        go_ret
        exact ⟨rt_bool HF.out.symm, hB9 _⟩
      | true =>
        have HOK2 : Hid (∀ j, j < k + 1 → decide ((l.getD j Te.none).pk = 0) = true) := fun j hj => by
          rcases Nat.lt_or_ge j k with h1 | h1
          · exact HOK.out j h1
          · rw [show j = k by omega, HT.out]; exact hf
        have g1 : (t.pk != 0) = false := by have := of_decide_eq_true hf; simp [this]
        have hB9 := fun o => hB.alloc hB.size o
        clear hf HT HOK
        obtain ⟨st, pk, en⟩ := t
        dsimp only at *
        go_wp2
        go_roundw
        case rel => exact ⟨k + 1, by omega, by go_num, HOK2.out, hB9 _⟩
        case measure => simp [intOf]; omega
    · obtain rfl : k = l.length := by omega
      have HF : Hid (evB l = true) := allT.2 HOK.out
      clear HOK
      go_wp2
      go_ret
      exact ⟨rt_bool HF.out.symm, hB⟩

end Go.Proofs.Ytngmcghmniakeaa

namespace Go.Proofs.Ytngmcghmniakeaa
open Go.RowKit Go.Maps
set_option linter.unusedSimpArgs false
set_option linter.unusedVariables false

set_option maxHeartbeats 1000000 in
set_option maxRecDepth 100000 in
theorem urising_any (a : Option Addr) (ca : Nat) (pts : List Int) (n : Nat) (w : World) (h : Ri w a ca pts) (hn : n ≤ 1000000) :
    Calls Try.prog 36 #[.slice a pts.length ca, .int .i64 (n : Int)] w fun e w' => e = .returned (.bool (risB pts n)) ∧ w = w' := by
  have k2 := h.lenB
  have HH : Hid (Ri w a ca pts) := h
  clear h
  go_enter Try.func36, Try.ntmps36
  go_wp2
  go_loopw [5, 10] (fun l i wr => ∃ k : Nat, k ≤ pts.length ∧ i = .int .i64 k ∧ l = .int .i64 (lastI pts k) ∧ (∀ j, j < k → risP pts n j) ∧ w = wr) (fun _ i _ => pts.length - (intOf i).toNat)
  case atStart => exact ⟨0, Nat.zero_le _, rfl, rfl, (fun j hj => by omega), rfl⟩
  case round =>
    obtain ⟨k, hk, rfl, rfl, hok, rfl⟩ := hrel
    have HOK : Hid (∀ j, j < k → risP pts n j) := hok
    clear hok
    by_cases hkn : k < pts.length
    · obtain ⟨b, off, ea, hb, d0⟩ := HH.out.at (Below.refl _ _) k hkn
      have hzi := HH.out.i64 hkn
      subst ea
      have HL : Hid (lastI pts (k + 1) = pts.getD k 0) := by show _ = _; unfold lastI; rw [if_neg (by omega), Nat.add_sub_cancel]
      obtain ⟨z, hzz⟩ : ∃ z, pts.getD k 0 = z := ⟨_, rfl⟩
      obtain ⟨l, hll⟩ : ∃ z, lastI pts k = z := ⟨_, rfl⟩
      have HP : Hid (risP pts n k ↔ l < z ∧ z < (n : Int)) := by show _ ↔ _; unfold risP; rw [hzz, hll]
      rw [hzz] at d0 HL hzi
      rw [hll]
      have i1 : (0 : Int) ≤ (k : Int) := by omega
      have i2 : (k : Int) < (pts.length : Int) := by omega
      clear hzz hll
      by_cases h1 : l < z
      · have g1 : ¬ z ≤ l := by omega
        have g1b : decide (z ≤ l) = false := decide_eq_false g1
        by_cases h2 : z < (n : Int)
        · have g2 : decide (z ≥ (n : Int)) = false := decide_eq_false (by omega)
          have HOK2 : Hid (∀ j, j < k + 1 → risP pts n j) := upto_succ HOK.out (HP.out.2 ⟨h1, h2⟩)
          clear HOK HP
          go_wp2
          go_roundw
          case rel => exact ⟨k + 1, by omega, by go_num, by rw [HL.out], HOK2.out, trivial⟩
          case measure => simp [intOf]; omega
        · have g2 : decide (z ≥ (n : Int)) = true := decide_eq_true (by omega)
          have HF : Hid (risB pts n = false) := risB_no hkn (fun h => h2 (HP.out.1 h).2)
          clear HOK HP
          go_wp2
          go_ret
          exact ⟨rt_bool HF.out.symm, rfl⟩
      · have g1 : z ≤ l := by omega
        have g1b : decide (z ≤ l) = true := decide_eq_true g1
        have HF : Hid (risB pts n = false) := risB_no hkn (fun h => h1 (HP.out.1 h).1)
        clear HOK HP
        go_wp2
        go_ret
        exact ⟨rt_bool HF.out.symm, rfl⟩
    · obtain rfl : k = pts.length := by omega
      have HF : Hid (risB pts n = true) := risB_yes HOK.out
      have g1 : ¬ (pts.length : Int) < (pts.length : Int) := by omega
      clear HOK
      go_wp2
      go_ret
      exact ⟨rt_bool HF.out.symm, rfl⟩

set_option maxHeartbeats 1000000 in
set_option maxRecDepth 100000 in
theorem ufields_any (a : Option Addr) (cap : Nat) (r : List Int) (w : World) (h : Ri w a cap r) :
    Calls Try.prog 20 #[.slice a r.length cap] w fun e w' => e = .returned (.bool (r.all fdB)) ∧ w = w' := by
  have k2 := h.lenB
  have HH : Hid (Ri w a cap r) := h
  clear h
  go_enter Try.func20, Try.ntmps20
  go_wp2
  go_loopw [7] (fun i wr => ∃ k : Nat, k ≤ r.length ∧ i = .int .i64 k ∧ (∀ j, j < k → fdB (r.getD j 0) = true) ∧ w = wr) (fun i _ => r.length - (intOf i).toNat)
  case atStart => exact ⟨0, Nat.zero_le _, rfl, (fun j hj => by omega), rfl⟩
  case round =>
    obtain ⟨k, hk, rfl, hok, rfl⟩ := hrel
    have HOK : Hid (∀ j, j < k → fdB (r.getD j 0) = true) := hok
    clear hok
    by_cases hkn : k < r.length
    · obtain ⟨b, off, ea, hb, d0⟩ := HH.out.at (Below.refl _ _) k hkn
      subst ea
      obtain ⟨z, hzz⟩ : ∃ z, r.getD k 0 = z := ⟨_, rfl⟩
      have HZ : Hid (r.getD k 0 = z) := hzz
      rw [hzz] at d0
      have i1 : (0 : Int) ≤ (k : Int) := by omega
      have i2 : (k : Int) < (r.length : Int) := by omega
      have hw1 := wrap64_16 z
      have hw2 := wrap16_fd' z
      clear hzz
      cases hf : fdB z with
      | false =>
        have HF : Hid (r.all fdB = false) := all_no' hkn (by rw [HZ.out]; exact hf)
        rw [hf] at hw2
        clear hf HZ HOK
        go_wp2
        go_ret
        exact ⟨rt_bool HF.out.symm, rfl⟩
      | true =>
        have HOK2 : Hid (∀ j, j < k + 1 → fdB (r.getD j 0) = true) := upto_succ HOK.out (by rw [HZ.out]; exact hf)
        rw [hf] at hw2
        clear hf HZ HOK
        go_wp2
        go_roundw
        case rel => exact ⟨k + 1, by omega, by go_num, HOK2.out, trivial⟩
        case measure => simp [intOf]; omega
    · obtain rfl : k = r.length := by omega
      have HF : Hid (r.all fdB = true) := all_yes' HOK.out
      have g1 : ¬ (r.length : Int) < (r.length : Int) := by omega
      clear HOK
      go_wp2
      go_ret
      exact ⟨rt_bool HF.out.symm, rfl⟩

theorem nm_all {t : Tu} {n : Nat} (ha : t.al = true) : nmB t n = (decide (t.pts.length = 0) && (decide (t.dx.length = n) && decide (t.dy.length = n))) := by
  unfold nmB
  rw [if_pos ha]
  by_cases h1 : t.pts.length = 0 <;> by_cases h2 : t.dx.length = n <;> by_cases h3 : t.dy.length = n <;> simp [h1, h2, h3]
theorem nm_some {t : Tu} {n : Nat} (ha : t.al = false) : nmB t n = (decide (0 < t.pts.length) && (risB t.pts n && (decide (t.dx.length = t.pts.length) && decide (t.dy.length = t.pts.length)))) := by
  unfold nmB
  rw [if_neg (by rw [ha]; decide)]
  by_cases h2 : t.dx.length = t.pts.length <;> by_cases h3 : t.dy.length = t.pts.length <;> simp [h2, h3]

set_option maxHeartbeats 2000000 in
set_option maxRecDepth 100000 in
theorem cnames_any (S : Nat → Prop) (ra : Option Addr) (rc : Nat) (pa : Option Addr) (pc : Nat) (xa : Option Addr) (xc : Nat) (ya : Option Addr) (yc : Nat) (t : Tu) (n : Nat) (w : World) (h : TuC S w ra rc pa pc xa xc ya yc t) (hn : n ≤ 1000000) :
    Calls Try.prog 19 #[.agg #[.slice ra t.rg.length rc, .bool t.al, .slice pa t.pts.length pc, .slice xa t.dx.length xc, .slice ya t.dy.length yc], .int .i64 (n : Int)] w fun e w' => e = .returned (.bool (nmB t n)) ∧ Below w.heap.size w w' := by
  obtain ⟨b0, b1, b2, b3⟩ := h.len
  obtain ⟨W, hW, X1, hbW⟩ : ∃ W, W = w.alloc (.cells #[.slice ra t.rg.length rc, .bool t.al, .slice pa t.pts.length pc, .slice xa t.dx.length xc, .slice ya t.dy.length yc] 36) ∧ Bk 36 W w.heap.size [.slice ra t.rg.length rc, .bool t.al, .slice pa t.pts.length pc, .slice xa t.dx.length xc, .slice ya t.dy.length yc] ∧ Below w.heap.size w W := ⟨_, rfl, Bk.new _ _ _, bl1 _⟩
  obtain ⟨p0, p1, p2, p3, p4, _⟩ := X1.five
  have hP := (h.below hbW).pts
  cases ha : t.al with
  | true =>
    have HE : Hid (_) := nm_all (n := n) ha
    rw [ha] at hW X1 p1
    clear ha X1 hP h
    generalize t.pts.length = m at *
    generalize t.dx.length = x at *
    generalize t.dy.length = y at *
    generalize nmB t n = Q at *
    go_enter Try.func19, Try.ntmps19
    go_upto_region 1 with fail
    rw [← hW]
    clear hW
    by_cases h1 : m = 0
    rotate_left
    · have g1 : ((m : Int) == 0) = false := beq_eq_false_iff_ne.2 (by omega)
      have HF : Hid (Q = false) := by show _ = _; rw [HE.out, decide_eq_false h1]; rfl
      clear HE
      go_wp2
      go_ret
      exact ⟨rt_bool HF.out.symm, hbW⟩
    have g1 : ((m : Int) == 0) = true := beq_iff_eq.2 (by omega)
    by_cases h2 : x = n
    rotate_left
    · have g2 : ((x : Int) == (n : Int)) = false := beq_eq_false_iff_ne.2 (by omega)
      have HF : Hid (Q = false) := by show _ = _; rw [HE.out, decide_eq_true h1, decide_eq_false h2]; rfl
      clear HE h1
      go_wp2
      go_ret
      exact ⟨rt_bool HF.out.symm, hbW⟩
    have g2 : ((x : Int) == (n : Int)) = true := beq_iff_eq.2 (by omega)
    by_cases h3 : y = n
    · have g3 : ((y : Int) == (n : Int)) = true := beq_iff_eq.2 (by omega)
      have HF : Hid (Q = true) := by show _ = _; rw [HE.out, decide_eq_true h1, decide_eq_true h2, decide_eq_true h3]; rfl
      clear HE h1 h2 h3
      go_wp2
      go_ret
      exact ⟨rt_bool HF.out.symm, hbW⟩
    · have g3 : ((y : Int) == (n : Int)) = false := beq_eq_false_iff_ne.2 (by omega)
      have HF : Hid (Q = false) := by show _ = _; rw [HE.out, decide_eq_true h1, decide_eq_true h2, decide_eq_false h3]; rfl
      clear HE h1 h2 h3
      go_wp2
      go_ret
      exact ⟨rt_bool HF.out.symm, hbW⟩
  | false =>
    have HE : Hid (_) := nm_some (n := n) ha
    have hr := urising_any pa pc t.pts n W hP hn
    rw [ha] at hW X1 p1
    clear ha X1 hP h
    generalize risB t.pts n = r at *
    generalize t.pts.length = m at *
    generalize t.dx.length = x at *
    generalize t.dy.length = y at *
    generalize nmB t n = Q at *
    go_enter Try.func19, Try.ntmps19
    go_upto_region 1 with fail
    rw [← hW]
    clear hW
    by_cases h1 : 0 < m
    rotate_left
    · have g1 : decide ((m : Int) > 0) = false := decide_eq_false (by omega)
      have HF : Hid (Q = false) := by show _ = _; rw [HE.out, decide_eq_false h1]; rfl
      clear HE hr
      go_wp2
      go_ret
      exact ⟨rt_bool HF.out.symm, hbW⟩
    have g1 : decide ((m : Int) > 0) = true := decide_eq_true (by omega)
    cases r with
    | false =>
      have HF : Hid (Q = false) := by show _ = _; rw [HE.out, decide_eq_true h1]; rfl
      clear HE
      go_wp2_with fail
      refine hr.mono ?_
      rintro e u ⟨rfl, rfl⟩
      go_wp2
      go_ret
      exact ⟨rt_bool HF.out.symm, hbW⟩
    | true =>
    by_cases h2 : x = m
    rotate_left
    · have g2 : ((x : Int) == (m : Int)) = false := beq_eq_false_iff_ne.2 (by omega)
      have HF : Hid (Q = false) := by show _ = _; rw [HE.out, decide_eq_true h1, decide_eq_false h2]; rfl
      clear HE
      go_wp2_with fail
      refine hr.mono ?_
      rintro e u ⟨rfl, rfl⟩
      go_wp2
      go_ret
      exact ⟨rt_bool HF.out.symm, hbW⟩
    have g2 : ((x : Int) == (m : Int)) = true := beq_iff_eq.2 (by omega)
    by_cases h3 : y = m
    · have g3 : ((y : Int) == (m : Int)) = true := beq_iff_eq.2 (by omega)
      have HF : Hid (Q = true) := by show _ = _; rw [HE.out, decide_eq_true h1, decide_eq_true h2, decide_eq_true h3]; rfl
      clear HE h2 h3
      go_wp2_with fail
      refine hr.mono ?_
      rintro e u ⟨rfl, rfl⟩
      go_wp2
      go_ret
      exact ⟨rt_bool HF.out.symm, hbW⟩
    · have g3 : ((y : Int) == (m : Int)) = false := beq_eq_false_iff_ne.2 (by omega)
      have HF : Hid (Q = false) := by show _ = _; rw [HE.out, decide_eq_true h1, decide_eq_true h2, decide_eq_false h3]; rfl
      clear HE h2 h3
      go_wp2_with fail
      refine hr.mono ?_
      rintro e u ⟨rfl, rfl⟩
      go_wp2
      go_ret
      exact ⟨rt_bool HF.out.symm, hbW⟩

theorem foT_1 {o : Ol} {l : List Tu} {ax : Int} (h : foB o = false) : foT o l ax = false := by unfold foT; rw [h]; rfl
theorem foT_2 {o : Ol} {l : List Tu} {ax : Int} (h : ¬ (0 ≤ ax ∧ ax ≤ 4)) : foT o l ax = false := by unfold foT; rw [decide_eq_false h]; simp
theorem foT_3 {o : Ol} {l : List Tu} {ax : Int} (h : ¬ l.length ≤ 40) : foT o l ax = false := by unfold foT; rw [decide_eq_false h]; simp
theorem foT_4 {o : Ol} {l : List Tu} {ax : Int} {k : Nat} (hk : k < l.length) (h : tuB (l.getD k Tu.none) (cntO o) ax = false) : foT o l ax = false :=
  foT_no (fun hc => by have := hc.2.2.2 k hk; rw [h] at this; cases this)

set_option maxHeartbeats 4000000 in
set_option maxRecDepth 100000 in
theorem cformU_any (S : Nat → Prop) (a : Option Addr) (ca : Nat) (b : Option Addr) (cb : Nat) (o : Ol) (S2 : Nat → Prop) (la : Option Addr) (lc : Nat) (l : List Tu) (ax : Int) (w : World) (hc : Gr PnE.row S w a ca o.cs) (hp : Gr PaE S w b cb o.ps) (hl : Gr TuE S2 w la lc l) (hi : I64 ax) :
    Calls Try.prog 8 #[.agg #[.slice a o.cs.length ca, .slice b o.ps.length cb], .slice la l.length lc, .int .i64 ax] w fun e w' => e = .returned (.bool (foT o l ax)) ∧ Below w.heap.size w w' := by
  have kl := hl.lenB
  obtain ⟨W, hW, X1, hbW⟩ : ∃ W, W = w.alloc (.cells #[.slice a o.cs.length ca, .slice b o.ps.length cb] 25) ∧ Bk 25 W w.heap.size [.slice a o.cs.length ca, .slice b o.ps.length cb] ∧ Below w.heap.size w W := ⟨_, rfl, Bk.new _ _ _, bl1 _⟩
  replace hc := hc.below hbW
  replace hp := hp.below hbW
  replace hl := hl.below hbW
  obtain ⟨p0, p1, _⟩ := X1.two
  have hf1 := cformO_any S a ca b cb o W hc hp
  unfold I64 at hi
  obtain ⟨Q, hQ⟩ : ∃ q, foT o l ax = q := ⟨_, rfl⟩
  have HQQ : Hid (foT o l ax = Q) := hQ
  rw [hQ]
  clear hQ
  go_enter Try.func8, Try.ntmps8
  go_upto_region 1 with fail
  rw [← hW]
  clear hW
  cases hfo : foB o with
  | false =>
    have HF : Hid (Q = false) := by show _ = _; rw [← HQQ.out]; exact foT_1 hfo
    rw [hfo] at hf1
    clear hfo
    go_wp2_with fail
    refine hf1.mono ?_
    rintro e m2 ⟨rfl, hb1⟩
    have hfin := hbW.trans (hb1.mono hbW.size)
    clear hb1 hf1
    go_wp2
    go_ret
    exact ⟨rt_bool HF.out.symm, hfin⟩
  | true =>
  rw [hfo] at hf1
  have HFO : Hid (foB o = true) := hfo
  have HOL : Hid (o.cs.flatten.length ≤ 100000 ∧ o.ps.length ≤ 100000) := by have := foB_iff.1 hfo; exact ⟨by have := this.2.2.2.2.1; omega, by have := this.2.2.1; omega⟩
  have HCN : Hid (cntO o ≤ 86) := cnt_le hfo
  clear hfo
  go_wp2_with fail
  refine hf1.mono ?_
  rintro e m1 ⟨rfl, hb1⟩
  replace hc := hc.below hb1
  replace hp := hp.below hb1
  replace hl := hl.below hb1
  replace X1 := X1.below hb1
  replace hbW := hbW.trans (hb1.mono hbW.size)
  clear hb1 hf1 p0 p1
  obtain ⟨p0, p1, _⟩ := X1.two
  by_cases h0 : ax < 0
  · have g0 : decide (ax < 0) = true := decide_eq_true h0
    have HF : Hid (Q = false) := by show _ = _; rw [← HQQ.out]; exact foT_2 (by omega)
    go_wp2
    go_ret
    exact ⟨rt_bool HF.out.symm, hbW⟩
  have g0 : decide (ax < 0) = false := decide_eq_false h0
  by_cases h4 : ax > 4
  · have g4 : decide (ax > 4) = true := decide_eq_true h4
    have HF : Hid (Q = false) := by show _ = _; rw [← HQQ.out]; exact foT_2 (by omega)
    go_wp2
    go_ret
    exact ⟨rt_bool HF.out.symm, hbW⟩
  have g4 : decide (ax > 4) = false := decide_eq_false h4
  by_cases h40 : l.length ≤ 40
  rotate_left
  · have g5 : decide ((l.length : Int) > 40) = true := decide_eq_true (by omega)
    have HF : Hid (Q = false) := by show _ = _; rw [← HQQ.out]; exact foT_3 h40
    clear hl
    generalize l.length = n at *
    go_wp2
    go_ret
    exact ⟨rt_bool HF.out.symm, hbW⟩
  have g5 : decide ((l.length : Int) > 40) = false := decide_eq_false (by omega)
  have HAX : Hid (0 ≤ ax ∧ ax ≤ 4) := ⟨by omega, by omega⟩
  go_wp2_with fail
  refine (ccount_any S a ca b cb o _ hc hp HOL.out.1 HOL.out.2).mono ?_
  rintro e m2 ⟨rfl, hb1⟩
  replace hl := hl.below hb1
  replace hbW := hbW.trans (hb1.mono hbW.size)
  clear hb1 p0 p1 X1 hc hp g0 g4 h0 h4
  have HL : Hid (Gr TuE S2 m2 la lc l) := hl
  have HBW : Hid (Below w.heap.size w m2) := hbW
  clear hl hbW
  obtain ⟨cn, hcn⟩ : ∃ n, cntO o = n := ⟨_, rfl⟩
  have HCO : Hid (cntO o = cn) := hcn
  rw [hcn] at HCN ⊢
  clear hcn
  have HQN : Hid (∀ k, k < l.length → tuB (l.getD k Tu.none) cn ax = false → Q = false) := fun k hk h => by rw [← HQQ.out]; exact foT_4 hk (by rw [HCO.out]; exact h)
  have HQY : Hid ((∀ k, k < l.length → tuB (l.getD k Tu.none) cn ax = true) → Q = true) := fun h => by rw [← HQQ.out]; exact foT_iff.2 ⟨HFO.out, HAX.out, h40, fun k hk => by rw [HCO.out]; exact h k hk⟩
  clear HFO HAX HOL HCO
  go_wp2
  clear g5
  go_loopw [30] (fun i wr => ∃ k : Nat, k ≤ l.length ∧ i = .int .i64 k ∧ (∀ j, j < k → tuB (l.getD j Tu.none) cn ax = true) ∧ Below m2.heap.size m2 wr) (fun i _ => l.length - (intOf i).toNat)
  case atStart => exact ⟨0, Nat.zero_le _, rfl, (fun j hj => by omega), Below.refl _ _⟩
  case round =>
    obtain ⟨k, hk, rfl, hok, hB⟩ := hrel
    have HOK : Hid (∀ j, j < k → tuB (l.getD j Tu.none) cn ax = true) := hok
    clear hok
    by_cases hkn : k < l.length
    · obtain ⟨b0, off, ra, rc, pa, pc, xa, xc, ya, yc, ea, hb, ht, d0, d1, d2, d3, d4⟩ := HL.out.tu hB k hkn
      subst ea
      have HN := fun (h : tuB (l.getD k Tu.none) cn ax = false) => HQN.out k hkn h
      have HY := fun (h : tuB (l.getD k Tu.none) cn ax = true) => upto_succ HOK.out h
      obtain ⟨t, htt⟩ : ∃ t, l.getD k Tu.none = t := ⟨_, rfl⟩
      rw [htt] at ht d0 d1 d2 d3 d4 HN HY
      have HY : Hid (tuB t cn ax = true → ∀ j, j < k + 1 → tuB (l.getD j Tu.none) cn ax = true) := HY
      have HN : Hid (tuB t cn ax = false → Q = false) := HN
      clear htt HOK
      have i1 : (0 : Int) ≤ (k : Int) := by omega
      have i2 : (k : Int) < (l.length : Int) := by omega
      obtain ⟨V, hV, X0, hb0⟩ : ∃ V, V = wr.alloc (.cells #[.slice ra t.rg.length rc, .bool t.al, .slice pa t.pts.length pc, .slice xa t.dx.length xc, .slice ya t.dy.length yc] 36) ∧ Bk 36 V wr.heap.size [.slice ra t.rg.length rc, .bool t.al, .slice pa t.pts.length pc, .slice xa t.dx.length xc, .slice ya t.dy.length yc] ∧ Below wr.heap.size wr V := ⟨_, rfl, Bk.new _ _ _, bl1 _⟩
      replace ht := ht.below hb0
      replace hB := hB.trans (hb0.mono hB.size)
      obtain ⟨q0, q1, q2, q3, q4, _⟩ := X0.five
      go_upto_region 7 with fail
      rw [← hV]
      clear hV d0 d1 d2 d3 d4 hb0
      have c1 := cregion_any ra rc t.rg ax V ht.tz
      cases h1 : rgB t.rg ax with
      | false =>
        have HF : Hid (Q = false) := HN.out (by unfold tuB; rw [h1]; rfl)
        rw [h1] at c1
        clear h1 HN HY HQN HQY
        go_wp2_with fail
        refine c1.mono ?_
        rintro e y1 ⟨rfl, hb1⟩
        have hfin := HBW.out.trans ((hB.trans (hb1.mono hB.size)).mono HBW.out.size)
        clear hb1 c1 hB
        go_wp2
        go_ret
        exact ⟨rt_bool HF.out.symm, hfin⟩
      | true =>
      rw [h1] at c1
      go_wp2_with fail
      refine c1.mono ?_
      rintro e y1 ⟨rfl, hb1⟩
      replace ht := ht.below hb1
      replace hB := hB.trans (hb1.mono hB.size)
      replace X0 := X0.below hb1
      clear q0 q1 q2 q3 q4 hb1 c1
      obtain ⟨q0, q1, q2, q3, q4, _⟩ := X0.five
      have c1 := cnames_any S2 ra rc pa pc xa xc ya yc t cn y1 ht (by have := HCN.out; omega)
      cases h2 : nmB t cn with
      | false =>
        have HF : Hid (Q = false) := HN.out (by unfold tuB; rw [h1, h2]; rfl)
        rw [h2] at c1
        clear h1 h2 HN HY HQN HQY
        go_wp2_with fail
        refine c1.mono ?_
        rintro e y2 ⟨rfl, hb1⟩
        have hfin := HBW.out.trans ((hB.trans (hb1.mono hB.size)).mono HBW.out.size)
        clear hb1 c1 hB
        go_wp2
        go_ret
        exact ⟨rt_bool HF.out.symm, hfin⟩
      | true =>
      rw [h2] at c1
      go_wp2_with fail
      refine c1.mono ?_
      rintro e y2 ⟨rfl, hb1⟩
      replace ht := ht.below hb1
      replace hB := hB.trans (hb1.mono hB.size)
      replace X0 := X0.below hb1
      clear q0 q1 q2 q3 q4 hb1 c1
      obtain ⟨q0, q1, q2, q3, q4, _⟩ := X0.five
      have c1 := ufields_any xa xc t.dx y2 ht.dx
      have c2 := ufields_any ya yc t.dy y2 ht.dy
      cases h3 : t.dx.all fdB with
      | false =>
        have HF : Hid (Q = false) := HN.out (by unfold tuB; rw [h1, h2, h3]; rfl)
        rw [h3] at c1
        clear h1 h2 h3 HN HY HQN HQY
        go_wp2_with fail
        refine c1.mono ?_
        rintro e y3 ⟨rfl, rfl⟩
        have hfin := HBW.out.trans (hB.mono HBW.out.size)
        clear c1 hB
        go_wp2
        go_ret
        exact ⟨rt_bool HF.out.symm, hfin⟩
      | true =>
      rw [h3] at c1
      go_wp2_with fail
      refine c1.mono ?_
      rintro e y3 ⟨rfl, rfl⟩
      clear c1
      cases h5 : t.dy.all fdB with
      | false =>
        have HF : Hid (Q = false) := HN.out (by unfold tuB; rw [h1, h2, h3, h5]; rfl)
        rw [h5] at c2
        clear h1 h2 h3 h5 HN HY HQN HQY
        go_wp2_with fail
        refine c2.mono ?_
        rintro e y3 ⟨rfl, rfl⟩
        have hfin := HBW.out.trans (hB.mono HBW.out.size)
        clear c2 hB
        go_wp2
        go_ret
        exact ⟨rt_bool HF.out.symm, hfin⟩
      | true =>
      rw [h5] at c2
      have HY2 : Hid (∀ j, j < k + 1 → tuB (l.getD j Tu.none) cn ax = true) := HY.out (by unfold tuB; rw [h1, h2, h3, h5]; rfl)
      have HB2 : Hid (Below m2.heap.size m2 y2) := hB
      clear h1 h2 h3 h5 HN HY HQN HQY hB
      go_wp2_with fail
      refine c2.mono ?_
      rintro e y3 ⟨rfl, rfl⟩
      clear c2
      go_wp2
      go_roundw
      case rel => exact ⟨k + 1, by omega, by go_num, HY2.out, HB2.out⟩
      case measure => simp [intOf]; omega
    · obtain rfl : k = l.length := by omega
      have g9 : ¬ (l.length : Int) < (l.length : Int) := by omega
      have HF : Hid (Q = true) := HQY.out HOK.out
      have hfin := HBW.out.trans (hB.mono HBW.out.size)
      clear HOK HQN HQY
      go_wp2
      go_ret
      exact ⟨rt_bool HF.out.symm, hfin⟩

end Go.Proofs.Ytngmcghmniakeaa
