/-
  foundrylaw22.FeatsConds: the walk.
-/
import Derived.Test.YtaejlopkdkaphaaZE11
namespace Go.Proofs.Ytaejlopkdkaphaa
open Go.RowKit Go.Maps
set_option linter.unusedSimpArgs false
set_option linter.unusedVariables false

theorem hoB_take {cs : List Int} {l : List Cn} {k : Nat} (hk : k < l.length) : hoB cs (l.take (k + 1)) = (hoB cs (l.take k) && hoC cs (l.getD k Cn.none)) := by
  rw [take_snocF (d := Cn.none) hk]
  unfold hoB
  rw [List.all_append]
  simp
theorem hoC_lone (n : Int) : hoB [n] [⟨0, n, n⟩] = true := by simp [hoB, hoC]
theorem hoC_none (n : Int) : hoB [] [⟨0, n, n⟩] = decide (n = 0) := by
  rw [Bool.eq_iff_iff]
  simp [hoB, hoC]
  omega

set_option maxHeartbeats 8000000 in
set_option maxRecDepth 100000 in
theorem featsConds_any (S S2 : Nat → Prop) (a : Option Addr) (ca : Nat) (l : List Cn) (c : Option Addr) (cc : Nat) (cs : List Int) (n : Int) (w : World) (hl : Gr CnE S w a ca l) (hc : Gr El.int S2 w c cc cs) (hn : I64 n) :
    Calls Try.prog 7 #[.slice a l.length ca, .slice c cs.length cc, .int .i64 n] w fun e w' => e = .returned (.bool true) ∧ Below w.heap.size w w' := by
  have kl := hl.lenB
  have kc := hc.lenB
  have HL : Hid (Gr CnE S w a ca l) := hl
  have HC : Hid (Gr El.int S2 w c cc cs) := hc
  have HN : Hid (I64 n) := hn
  clear hl hc hn
  go_enter Try.func7, Try.ntmps7
  go_wp2_with fail
  refine (awake22_any _).mono ?_
  rintro e y1 ⟨rfl, hbW⟩
  by_cases hx1 : 50 < l.length
  · have g1 : decide ((50 : Int) < (l.length : Int)) = true := decide_eq_true (by omega)
    have g1n : decide (50 < l.length) = true := decide_eq_true hx1
    go_wp2_with fail
    refine (awake22_any _).mono ?_
    rintro e uz ⟨rfl, hbz⟩
    have hfin := hbW.trans (hbz.mono hbW.size)
    clear hbz
    go_wp2
    go_ret
    exact ⟨rfl, hfin⟩
  have g1 : decide ((50 : Int) < (l.length : Int)) = false := decide_eq_false (by omega)
  have g1n : decide (50 < l.length) = false := decide_eq_false hx1
  by_cases hx2 : 20 < cs.length
  · have g2 : decide ((20 : Int) < (cs.length : Int)) = true := decide_eq_true (by omega)
    have g2n : decide (20 < cs.length) = true := decide_eq_true hx2
    go_wp2_with fail
    refine (awake22_any _).mono ?_
    rintro e uz ⟨rfl, hbz⟩
    have hfin := hbW.trans (hbz.mono hbW.size)
    clear hbz
    go_wp2
    go_ret
    exact ⟨rfl, hfin⟩
  have g2 : decide ((20 : Int) < (cs.length : Int)) = false := decide_eq_false (by omega)
  have g2n : decide (20 < cs.length) = false := decide_eq_false hx2
  have HBW : Hid (Below w.heap.size w y1) := hbW
  clear hbW
  go_wp2
  clear g1 g1n g2 g2n
  go_loopw [7, 8] (fun v i wr => ∃ (k : Nat) (q : Bool), k ≤ l.length ∧ v = .bool q ∧ i = .int .i64 (k : Int) ∧ Hid (q = hoB cs (l.take k)) ∧ Below w.heap.size w wr) (fun _ i _ => l.length - (intOf i).toNat)
  case atStart => exact ⟨0, true, Nat.zero_le _, rfl, rfl, (rfl : true = hoB cs (l.take 0)), HBW.out⟩
  case round =>
    clear HBW
    obtain ⟨k, q, hk, rfl, rfl, HQ, hB⟩ := hrel
    by_cases hkn : k < l.length
    · obtain ⟨b1, off, rfl, hb, ⟨m1, m2, m3⟩, d0, d1, d2⟩ := HL.out.cn hB k hkn
      have hca : k < ca := Nat.lt_of_lt_of_le hkn HL.out.1
      have hcm := HL.out.2.1
      unfold maxLen at hcm
      have hone : Gr CnE S wr (some ⟨b1, off + k * 3, none⟩) (ca - k) [l.getD k Cn.none] := by
        have h := ((HL.out.below hB).from k (Nat.le_of_lt hkn)).take 1
        have e1 : (l.drop k).take 1 = [l.getD k Cn.none] := by
          rw [List.drop_eq_getElem_cons hkn, List.getD_eq_getElem?_getD, List.getElem?_eq_getElem hkn]
          rfl
        rw [e1] at h
        exact h
      have hp := holdsF_any S S2 (some ⟨b1, off + k * 3, none⟩) (ca - k) [l.getD k Cn.none] c cc cs wr hone (HC.out.below hB)
      rw [hoB_one] at hp
      have HSU : Hid (hoB cs (l.take (k + 1)) = (q && hoC cs (l.getD k Cn.none))) := by show _ = _; rw [hoB_take hkn, ← HQ.out]
      generalize l.getD k Cn.none = x at *
      obtain ⟨x1, x2, x3⟩ := x
      dsimp only at d0 d1 d2 m1 m2 m3
      have HHO : Hid (hoC cs ⟨x1, x2, x3⟩ = (decide (0 ≤ x1) && (decide (x2 ≤ cs.getD x1.toNat 0) && decide (cs.getD x1.toNat 0 ≤ x3)))) := rfl
      have i1 : (0 : Int) ≤ (k : Int) := by omega
      have i2 : (k : Int) < (l.length : Int) := by omega
      have hck : ¬ ca = k := by omega
      have HCK : Hid (∀ U, Below wr.heap.size wr U → U.cell? ⟨b1, off + k * 3, none⟩ = some (.int .i64 x1) ∧ U.cell? ⟨b1, off + k * 3 + 1, none⟩ = some (.int .i64 x2) ∧ U.cell? ⟨b1, off + k * 3 + 2, none⟩ = some (.int .i64 x3)) := fun U hU => by
        have hbl := Nat.lt_of_lt_of_le hb hB.size
        exact ⟨(hU.cell (p := ⟨b1, off + k * 3, none⟩) hbl).trans d0, (hU.cell (p := ⟨b1, off + k * 3 + 1, none⟩) hbl).trans d1, (hU.cell (p := ⟨b1, off + k * 3 + 2, none⟩) hbl).trans d2⟩
      obtain ⟨h, hh⟩ : ∃ h, hoC cs ⟨x1, x2, x3⟩ = h := ⟨_, rfl⟩
      rw [hh] at hp HSU HHO
      clear hh HQ hone d0 d1 d2
      go_wp2_with fail
      refine hp.mono ?_
      rintro e y2 ⟨rfl, hb2⟩
      obtain ⟨d0, d1, d2⟩ := HCK.out y2 hb2
      replace hB := hB.trans (hb2.mono hB.size)
      clear hp hb2 hck hcm HCK
      by_cases f1 : 0 ≤ x1
      rotate_left
      · have g1 : decide (0 ≤ x1) = false := decide_eq_false f1
        clear f1 HHO
        go_wp2_with fail
        go_quiet (fail)
        have hBn := hB.trans ((below_drewN (Below.refl y2.heap.size y2) nq).mono hB.size)
        generalize y2.drewN nq = uf at hBn
        clear d0 d1 d2 hB
        cases q with
        | false =>
          have HSN : Hid (false = hoB cs (l.take (k + 1))) := by show _ = _; rw [HSU.out]; rfl
          clear HSU
          go_wp2
          go_roundw
          case rel => exact ⟨k + 1, false, by omega, rfl, by go_num, HSN, hBn⟩
          case measure => simp [intOf]; omega
        | true =>
          have HSN : Hid (h = hoB cs (l.take (k + 1))) := by show _ = _; rw [HSU.out]; rfl
          clear HSU
          go_wp2
          go_roundw
          case rel => exact ⟨k + 1, h, by omega, rfl, by go_num, HSN, hBn⟩
          case measure => simp [intOf]; omega
      have g1 : decide (0 ≤ x1) = true := decide_eq_true f1
      obtain ⟨m, rfl⟩ : ∃ m : Nat, x1 = (m : Int) := ⟨x1.toNat, by omega⟩
      rw [Int.toNat_natCast, g1, Bool.true_and] at HHO
      have i3 : (0 : Int) ≤ (m : Int) := by omega
      by_cases f2 : m < cs.length
      rotate_left
      · have g2 : decide ((m : Int) < (cs.length : Int)) = false := decide_eq_false (by omega)
        have g2n : decide (m < cs.length) = false := decide_eq_false f2
        clear f1 f2 HHO
        go_wp2_with fail
        go_quiet (fail)
        have hBn := hB.trans ((below_drewN (Below.refl y2.heap.size y2) nq).mono hB.size)
        generalize y2.drewN nq = uf at hBn
        clear d0 d1 d2 hB
        cases q with
        | false =>
          have HSN : Hid (false = hoB cs (l.take (k + 1))) := by show _ = _; rw [HSU.out]; rfl
          clear HSU
          go_wp2
          go_roundw
          case rel => exact ⟨k + 1, false, by omega, rfl, by go_num, HSN, hBn⟩
          case measure => simp [intOf]; omega
        | true =>
          have HSN : Hid (h = hoB cs (l.take (k + 1))) := by show _ = _; rw [HSU.out]; rfl
          clear HSU
          go_wp2
          go_roundw
          case rel => exact ⟨k + 1, h, by omega, rfl, by go_num, HSN, hBn⟩
          case measure => simp [intOf]; omega
      have g2 : decide ((m : Int) < (cs.length : Int)) = true := decide_eq_true (by omega)
      have g2n : decide (m < cs.length) = true := decide_eq_true f2
      have i4 : (m : Int) < (cs.length : Int) := by omega
      obtain ⟨b3, o3, rfl, hb3, hI3, d3⟩ := HC.out.in1 hB m f2
      generalize cs.getD m 0 = z at *
      by_cases f3 : x2 ≤ z
      rotate_left
      · have g3 : decide (x2 ≤ z) = false := decide_eq_false f3
        have hh : h = false := by rw [HHO.out, g3]; rfl
        subst hh
        clear f1 f2 f3 HHO
        go_wp2_with fail
        go_quiet (fail)
        have hBn := hB.trans ((below_drewN (Below.refl y2.heap.size y2) nq).mono hB.size)
        generalize y2.drewN nq = uf at hBn
        clear d0 d1 d2 hB
        cases q with
        | false =>
          have HSN : Hid (false = hoB cs (l.take (k + 1))) := by show _ = _; rw [HSU.out]; rfl
          clear HSU
          go_wp2
          go_roundw
          case rel => exact ⟨k + 1, false, by omega, rfl, by go_num, HSN, hBn⟩
          case measure => simp [intOf]; omega
        | true =>
          have HSN : Hid (false = hoB cs (l.take (k + 1))) := by show _ = _; rw [HSU.out]; rfl
          clear HSU
          go_wp2
          go_roundw
          case rel => exact ⟨k + 1, false, by omega, rfl, by go_num, HSN, hBn⟩
          case measure => simp [intOf]; omega
      have g3 : decide (x2 ≤ z) = true := decide_eq_true f3
      by_cases f4 : z ≤ x3
      rotate_left
      · have g4 : decide (z ≤ x3) = false := decide_eq_false f4
        have hh : h = false := by rw [HHO.out, g3, g4]; rfl
        subst hh
        clear f1 f2 f3 f4 HHO
        go_wp2_with fail
        go_quiet (fail)
        have hBn := hB.trans ((below_drewN (Below.refl y2.heap.size y2) nq).mono hB.size)
        generalize y2.drewN nq = uf at hBn
        clear d0 d1 d2 hB
        cases q with
        | false =>
          have HSN : Hid (false = hoB cs (l.take (k + 1))) := by show _ = _; rw [HSU.out]; rfl
          clear HSU
          go_wp2
          go_roundw
          case rel => exact ⟨k + 1, false, by omega, rfl, by go_num, HSN, hBn⟩
          case measure => simp [intOf]; omega
        | true =>
          have HSN : Hid (false = hoB cs (l.take (k + 1))) := by show _ = _; rw [HSU.out]; rfl
          clear HSU
          go_wp2
          go_roundw
          case rel => exact ⟨k + 1, false, by omega, rfl, by go_num, HSN, hBn⟩
          case measure => simp [intOf]; omega
      have g4 : decide (z ≤ x3) = true := decide_eq_true f4
      have hh : h = true := by rw [HHO.out, g3, g4]; rfl
      subst hh
      clear f1 f2 f3 f4 HHO
      go_wp2_with fail
      go_quiet (fail)
      have hBn := hB.trans ((below_drewN (Below.refl y2.heap.size y2) nq).mono hB.size)
      generalize y2.drewN nq = uf at hBn
      clear d0 d1 d2 hB
      cases q with
      | false =>
        have HSN : Hid (false = hoB cs (l.take (k + 1))) := by show _ = _; rw [HSU.out]; rfl
        clear HSU
        go_wp2
        go_roundw
        case rel => exact ⟨k + 1, false, by omega, rfl, by go_num, HSN, hBn⟩
        case measure => simp [intOf]; omega
      | true =>
        have HSN : Hid (true = hoB cs (l.take (k + 1))) := by show _ = _; rw [HSU.out]; rfl
        clear HSU
        go_wp2
        go_roundw
        case rel => exact ⟨k + 1, true, by omega, rfl, by go_num, HSN, hBn⟩
        case measure => simp [intOf]; omega
    · have hkl : k = l.length := by omega
      have HQE : Hid (q = hoB cs l) := by show _ = _; rw [HQ.out, hkl, List.take_length]
      have g4 : ¬ (k : Int) < (l.length : Int) := by omega
      obtain ⟨V, hV, X1, hbV⟩ : ∃ V, V = wr.alloc (.cells #[.int .i64 0, .int .i64 n, .int .i64 n] 46) ∧ Bk 46 V wr.heap.size [.int .i64 0, .int .i64 n, .int .i64 n] ∧ Below wr.heap.size wr V := ⟨_, rfl, Bk.new _ _ _, bl1 _⟩
      replace hB := hB.trans (hbV.mono hB.size)
      have hcon : CnE.rep (fun _ => True) V [.int .i64 0, .int .i64 n, .int .i64 n] ⟨0, n, n⟩ := CnE_rep.2 ⟨rfl, ⟨by show (_ : Int) ≤ 0; omega, by show (0 : Int) ≤ _; omega⟩, HN.out, HN.out⟩
      have HLO : Hid (Gr CnE (fun _ => True) V (some ⟨wr.heap.size, 0, none⟩) 1 [⟨0, n, n⟩]) := gr1E X1 hcon
      have hp1 := holdsF_any S S2 a ca l c cc cs V (HL.out.below hB) (HC.out.below hB)
      rw [← HQE.out] at hp1
      have HP2 : Hid (∀ U, Below V.heap.size V U → Calls Try.prog 21 #[.slice none 0 0, .slice c cs.length cc] U fun e w' => e = .returned (.bool true) ∧ Below U.heap.size U w') := fun U hU => holdsF_any (fun _ => True) S2 none 0 [] c cc cs U (Gr.nil _ _ _ _ _ (Nat.zero_le _) (fun _ => rfl)) (HC.out.below (hB.trans (hU.mono hB.size)))
      obtain ⟨gl, hgl⟩ : ∃ g, wr.heap.size = g := ⟨_, rfl⟩
      have HP3 : Hid (∀ U b2, Below V.heap.size V U → Gr El.int (fun _ => True) U (some ⟨b2, 0, none⟩) 1 [n] → Calls Try.prog 21 #[.slice (some ⟨gl, 0, none⟩) 1 1, .slice (some ⟨b2, 0, none⟩) 1 1] U fun e w' => e = .returned (.bool true) ∧ Below U.heap.size U w') := fun U b2 hU hG => by
        have h := holdsF_any (fun _ => True) (fun _ => True) (some ⟨gl, 0, none⟩) 1 [⟨0, n, n⟩] (some ⟨b2, 0, none⟩) 1 [n] U (by rw [← hgl]; exact HLO.out.below hU) hG
        rw [hoC_lone] at h
        exact h
      have HP4 : Hid (∀ U, Below V.heap.size V U → Calls Try.prog 21 #[.slice (some ⟨gl, 0, none⟩) 1 1, .slice none 0 0] U fun e w' => e = .returned (.bool (decide (n = 0))) ∧ Below U.heap.size U w') := fun U hU => by
        have h := holdsF_any (fun _ => True) (fun _ => True) (some ⟨gl, 0, none⟩) 1 [⟨0, n, n⟩] none 0 [] U (by rw [← hgl]; exact HLO.out.below hU) (Gr.nil _ _ _ _ _ (Nat.zero_le _) (fun _ => rfl))
        rw [hoC_none] at h
        exact h
      clear hcon HQ HQE X1 hbV hkl hkn
      go_upto_region 13 with fail
      rw [← hV]
      try rw [hgl]
      clear hV hgl
      go_wp2_with fail
      refine hp1.mono ?_
      rintro e v1 ⟨rfl, hc1⟩
      have hqq : (q == q) = true := by simp
      have hV1 := hc1
      clear hp1
      have hp2 := HP2.out v1 hV1
      cases q
      all_goals
        go_wp2_with fail
        refine hp2.mono ?_
        rintro e v2 ⟨rfl, hc2⟩
        have hV2 := hV1.trans (hc2.mono hV1.size)
        obtain ⟨V3, hV3, X3, hb3⟩ : ∃ W, W = v2.alloc (.cells #[.int .i64 n] 3) ∧ Bk 3 W v2.heap.size [.int .i64 n] ∧ Below v2.heap.size v2 W := ⟨_, rfl, Bk.new _ _ _, bl1 _⟩
        have hV4 := hV2.trans (hb3.mono hV2.size)
        have hg3 : Gr El.int (fun _ => True) V3 (some ⟨v2.heap.size, 0, none⟩) 1 [n] := gr1E X3 (El.int_rep.2 ⟨rfl, HN.out⟩)
        have hp3 := HP3.out V3 _ hV4 hg3
        clear hp2 hc2 X3 hb3 hg3
        go_wp2_with fail
        rw [← hV3]
        clear hV3
        refine hp3.mono ?_
        rintro e v4 ⟨rfl, hc4⟩
        have hV5 := hV4.trans (hc4.mono hV4.size)
        have hp4 := HP4.out v4 hV5
        clear hp3 hc4
        by_cases hn0 : n = 0
        · have g5 : decide (n = 0) = true := decide_eq_true hn0
          have g6 : (n == 0) = true := beq_iff_eq.2 hn0
          rw [g5] at hp4
          clear hn0
          go_wp2_with fail
          refine hp4.mono ?_
          rintro e v5 ⟨rfl, hc5⟩
          have hV6 := hV5.trans (hc5.mono hV5.size)
          have hfin := hB.trans (hV6.mono hB.size)
          clear hp4 hc5
          go_wp2
          go_ret
          exact ⟨rfl, hfin⟩
        · have g5 : decide (n = 0) = false := decide_eq_false hn0
          have g6 : (n == 0) = false := beq_eq_false_iff_ne.2 hn0
          rw [g5] at hp4
          clear hn0
          go_wp2_with fail
          refine hp4.mono ?_
          rintro e v5 ⟨rfl, hc5⟩
          have hV6 := hV5.trans (hc5.mono hV5.size)
          have hfin := hB.trans (hV6.mono hB.size)
          clear hp4 hc5
          go_wp2
          go_ret
          exact ⟨rfl, hfin⟩

end Go.Proofs.Ytaejlopkdkaphaa
