/-
  foundrylaw05.SfntBack: the walk.
-/
import Derived.Test.YtijehnfadpoapaaLawS0
namespace Go.Proofs.Ytijehnfadpoapaa
open Go.RowKit Go.Maps
set_option linter.unusedSimpArgs false
set_option linter.unusedVariables false

theorem fnd_mem {l : List Tb} (hd : Dis l) {t : Tb} (ht : t ∈ l) : fndB l t.tx = t.bs ∧ fndE l t.tx = 0 := by
  obtain ⟨k, hk, he⟩ := idx_of_mem ht
  have h1 := fnd_at (l := l) (t := t.tx) hk (fun j hj => by rw [← he]; exact Dis.iff.1 hd j k hj hk) (by rw [he])
  rw [he] at h1
  exact ⟨by rw [fndB, h1]; rfl, by rw [fndE, h1]; rfl⟩
theorem pck_few {l : List Tb} (h : fewT l = true) (hf : Frm l) : pckE l = 0 ∧ pckB l = fileS l := by
  have h1 := frB_iff.2 hf
  have h2 := few_file h hf
  have h3 : ¬ 1048576 < (fileS l).length := by omega
  simp [pckE, pckB, h1, h3]
theorem pck_bad {l : List Tb} (hf : ¬ Frm l) : pckE l = 1 ∧ pckB l = [] := by
  have h1 := frB_no hf
  simp [pckE, pckB, h1]

set_option maxHeartbeats 2000000 in
set_option maxRecDepth 100000 in
theorem sfntBack_any (C : Cod) (a : Option Addr) (cap : Nat) (l : List Tb) (w : World) (h : Ts w a cap l) :
    Calls Try.prog 5 #[.slice a l.length cap] w fun e w' => e = .returned (.bool true) ∧ Below w.heap.size w w' := by
  have HT : Hid (∀ u, Below w.heap.size w u → Ts u a cap l) := fun u hu => h.below hu
  clear h
  by_cases hf : fewT l = true
  rotate_left
  · have hf : fewT l = false := by simpa using hf
    go_enter Try.func5, Try.ntmps5
    go_wp2_with fail
    refine (awake5_any C _).mono ?_
    rintro e u ⟨rfl, hb⟩
    go_wp2_with fail
    refine (few5_any a cap l _ (HT.out u hb)).mono ?_
    rintro e u' ⟨rfl, rfl⟩
    rw [hf]
    go_wp2_with fail
    refine (awake5_any C _).mono ?_
    rintro e u2 ⟨rfl, hb2⟩
    go_wp2
    go_ret
    exact ⟨rfl, hb.trans (hb2.mono hb.size)⟩
  have hl60 : l.length ≤ 60 := by simp [fewT] at hf; exact hf.2
  have HS : Hid (∀ s ∈ l, s.bs.length ≤ 1000000000) := fun s hs => by have := few_mem hf s hs; omega
  by_cases hfr : Frm l
  rotate_left
  · obtain ⟨p1, p2⟩ := pck_bad hfr
    have p3 := frB_no hfr
    have hP := fun w h => C.pack a cap l w h
    rw [p1, p2] at hP
    go_enter Try.func5, Try.ntmps5
    go_wp2_with fail
    refine (awake5_any C _).mono ?_
    rintro e u ⟨rfl, hb⟩
    go_wp2_with fail
    refine (few5_any a cap l _ (HT.out u hb)).mono ?_
    rintro e u' ⟨rfl, rfl⟩
    rw [hf]
    go_wp2_with fail
    refine (hP _ (HT.out u hb)).mono ?_
    rintro e u2 ⟨a2, c2, rfl, hr2, hb2⟩
    have B2 : Below w.heap.size w u2 := hb.trans (hb2.mono hb.size)
    clear hr2 hb2 hP
    go_wp2_with fail
    refine (C.formed a cap l _ (HT.out u2 B2)).mono ?_
    rintro e u3 ⟨rfl, hb3⟩
    rw [p3]
    have B3 : Below w.heap.size w u3 := B2.trans (hb3.mono B2.size)
    go_wp2
    go_ret
    exact ⟨rt_bool (by first | rfl | simp), B3⟩
  obtain ⟨p1, p2⟩ := pck_few hf hfr
  have hfl := few_file hf hfr
  obtain ⟨f1, f2⟩ := fil_of hfr (by omega)
  obtain ⟨q1, q2⟩ := unp_ok f2 (by omega)
  rw [f1] at q2
  have hP := fun w h => C.pack a cap l w h
  rw [p1, p2] at hP
  have hU := fun a c w h => C.unpack a c (fileS l) w h
  rw [q1, q2] at hU
  have hsl := srt_len l
  have HFN : Hid (∀ i, i < l.length → fndB l ((srt l).getD i Tb.none).tx = ((srt l).getD i Tb.none).bs ∧ fndE l ((srt l).getD i Tb.none).tx = 0) := fun i hi => fnd_mem hfr.2.2.2 ((srt_perm l).subset (getD_mem (by rw [hsl]; exact hi)))
  have HRI : Hid (∀ i, i + 1 < l.length → tlt ((srt l).getD i Tb.none).tx ((srt l).getD (i + 1) Tb.none).tx) := fun i hi => (srt_ris hfr.2.2.2).lt (by omega) (by rw [hsl]; exact hi)
  rw [hsl] at hU
  have HSL : Hid ((srt l).length = l.length) := hsl
  have HP : Hid (∀ (w : World), Ts w a cap l → Calls Try.prog 11 #[.slice a l.length cap] w fun e w' => ∃ a' cap', e = .returned (.tuple #[.slice a' (fileS l).length cap', .int .i64 0]) ∧ Rb w' a' cap' (fileS l) ∧ Below w.heap.size w w') := hP
  have HU : Hid (∀ (a : Option Addr) (c : Nat) (w : World), Rb w a c (fileS l) → Calls Try.prog 21 #[.slice a (fileS l).length c] w fun e w' => ∃ a' cap', e = .returned (.tuple #[.slice a' l.length cap', .int .i64 0]) ∧ Ts w' a' cap' (srt l) ∧ Below w.heap.size w w') := hU
  clear p1 p2 q1 q2 f1 f2 hfr hfl hP hU hsl
  generalize fileS l = fs at *
  generalize srt l = m at *
  go_enter Try.func5, Try.ntmps5
  go_wp2_with fail
  refine (awake5_any C _).mono ?_
  rintro e u ⟨rfl, hb⟩
  go_wp2_with fail
  refine (few5_any a cap l _ (HT.out u hb)).mono ?_
  rintro e u' ⟨rfl, rfl⟩
  rw [hf]
  clear hf
  go_wp2_with fail
  refine (HP.out _ (HT.out u hb)).mono ?_
  rintro e u2 ⟨a2, c2, rfl, hr2, hb2⟩
  have B2 : Below w.heap.size w u2 := hb.trans (hb2.mono hb.size)
  clear hb2
  go_wp2_with fail
  refine (HU.out a2 c2 _ hr2).mono ?_
  rintro e u3 ⟨a3, c3, rfl, ht3, hb3⟩
  have B3 : Below w.heap.size w u3 := B2.trans (hb3.mono B2.size)
  have HM : Hid (Ts u3 a3 c3 m) := ht3
  have k1 := ht3.1
  have k2 := ht3.2.1
  rw [HSL.out] at k1
  unfold maxLen at k2
  have hne : ((l.length : Int) != (l.length : Int)) = false := by simp
  clear hb3 ht3 hr2
  go_wp2
  go_loopw [7] (fun i wr => ∃ k : Nat, k ≤ l.length ∧ i = .int .i64 k ∧ Below u3.heap.size u3 wr) (fun i _ => l.length - (intOf i).toNat)
  case atStart => exact ⟨0, Nat.zero_le _, rfl, Below.refl _ _⟩
  case round =>
    obtain ⟨k, hk, rfl, hnx⟩ := hrel
    have BW : Below w.heap.size w wr := B3.trans (hnx.mono B3.size)
    by_cases hkn : k < l.length
    · obtain ⟨b, off, c0, c, rfl, hbb, d1, d2, r1⟩ := HM.out.at hnx k (by rw [HSL.out]; exact hkn)
      obtain ⟨e1, e2⟩ := HFN.out k hkn
      have htz := HM.out.tx (k := k) (by rw [HSL.out]; exact hkn)
      obtain ⟨s, hs⟩ : ∃ s, m.getD k Tb.none = s := ⟨_, rfl⟩
      rw [hs] at d1 d2 r1 e1 e2 htz
      have HK : Hid (m.getD k Tb.none = s) := hs
      clear hs
      obtain ⟨tx, bs⟩ := s
      dsimp only at *
      have hFi := C.find a cap l tx wr (HT.out wr BW) HS.out htz
      rw [e1, e2] at hFi
      clear e1 e2
      have R1 : Hid (Rb wr c0 c bs) := r1
      clear r1
      go_wp2_with fail
      refine hFi.mono ?_
      rintro e u5 ⟨a5, c5, rfl, hr5, hb5⟩
      clear d1 d2 hFi
      have hn5 : Below u3.heap.size u3 u5 := hnx.trans (hb5.mono hnx.size)
      have R15 : Hid (Rb u5 c0 c bs) := R1.out.below hb5
      have R5 : Hid (Rb u5 a5 c5 bs) := hr5
      obtain ⟨b', off', c0', c', ee, hbb', d1, d2, r1⟩ := HM.out.at hn5 k (by rw [HSL.out]; exact hkn)
      cases ee
      obtain ⟨b6, off6, c06, c6, ee, hbb6, f1, f2, r6⟩ := HM.out.at hnx k (by rw [HSL.out]; exact hkn)
      cases ee
      have e5 : some (Value.slice c0' (m.getD k Tb.none).bs.length c') = some (Value.slice c06 (m.getD k Tb.none).bs.length c6) := by rw [← d2, ← f2]; exact hb5.cell (p := ⟨b, off + k * 2 + 1, none⟩) (Nat.lt_of_lt_of_le hbb hnx.size)
      cases e5
      rw [HK.out] at d1 d2 r1
      dsimp only at d1 d2 r1
      have R15 : Hid (Rb u5 c0' c' bs) := r1
      clear r1 r6 f1 f2 hr5 hb5
      have i1 : (0 : Int) ≤ (k : Int) := by omega
      have i2 : (k : Int) < (l.length : Int) := by omega
      rcases Nat.eq_zero_or_pos k with rfl | hk0
      · have g5 : decide ((0 : Int) > 0) = false := by decide
        clear HT HFN HRI HP HU HM R1 hbb hbb' hbb6 htz
        go_wp2_with fail
        go_quiet (refine Calls.quiet_of (same8q_any _ _ _ _ bs _ (R5.out.below (below_drewN (Below.refl _ _) _)) (R15.out.below (below_drewN (Below.refl _ _) _))))
        go_wp2
        go_roundw
        case rel => exact ⟨0 + 1, by omega, by go_num, below_drewN hn5 _⟩
        case measure => simp [intOf]; omega
      · obtain ⟨p, rfl⟩ : ∃ p, k = p + 1 := ⟨k - 1, by omega⟩
        have hri := HRI.out p hkn
        rw [HK.out] at hri
        obtain ⟨b7, off7, x7, y7, ee, n7, d7, o7, p7⟩ := HM.out.at hn5 p (by rw [HSL.out]; omega)
        cases ee
        obtain ⟨s, hs⟩ : ∃ s, m.getD p Tb.none = s := ⟨_, rfl⟩
        rw [hs] at hri d7
        clear hs n7 o7 p7
        obtain ⟨tp, bp⟩ := s
        dsimp only at *
        have g5 : decide ((0 : Int) < (p : Int) + 1) = true := decide_eq_true (by omega)
        have i5 : (0 : Int) ≤ (p : Int) := by omega
        have i6 : (p : Int) < (l.length : Int) := by omega
        have i7 : IntKind.i64.wrap (p : Int) = p := by unfold IntKind.wrap; simp [IntKind.bits, IntKind.signed]; omega
        have hb2 := tlt_no (fun h' : tlt tx tp => tlt_irrefl _ (tlt_trans hri h'))
        have hb3 := teq_no (a := tx) (b := tp) (fun e => tlt_irrefl tp (by rw [e] at hri; exact hri))
        clear hri
        clear HT HFN HRI HP HU HM R1 hbb hbb' hbb6 htz
        go_wp2_with fail
        go_quiet (refine Calls.quiet_of (same8q_any _ _ _ _ bs _ (R5.out.below (below_drewN (Below.refl _ _) _)) (R15.out.below (below_drewN (Below.refl _ _) _))))
        go_wp2
        go_roundw
        case rel => exact ⟨(p + 1) + 1, by omega, by go_num, below_drewN hn5 _⟩
        case measure => simp [intOf]; omega
    · obtain rfl : k = l.length := by omega
      go_wp2
      go_ret
      exact ⟨rfl, BW⟩

end Go.Proofs.Ytijehnfadpoapaa
