/-
  foundrylaw08.NormUsual: the walk.
-/
import Derived.Test.YtdpafdeoepbhaaaZ25
import Derived.Deep.QuietTactic
import Derived.BigQuiet
namespace Go.Proofs.Ytdpafdeoepbhaaa
open Go.RowKit Go.Maps
set_option linter.unusedSimpArgs false
set_option linter.unusedVariables false

set_option maxHeartbeats 4000000 in
set_option maxRecDepth 100000 in
theorem normUsual_any (a : Option Addr) (cap : Nat) (l : List Ax) (b : Option Addr) (bc : Nat) (m : List (List Pr)) (w : World) (h : As w a cap l) (hm : Pzz w b bc m) :
    Calls Try.prog 3 #[.slice a l.length cap, .slice b m.length bc] w fun e w' => e = .returned (.bool true) ∧ Below w.heap.size w w' := by
  have z1 := h.lenB
  have z2 := hm.lenB
  go_enter Try.func3, Try.ntmps3
  go_wp2_with fail
  refine (awake8_any _).mono ?_
  rintro e u1 ⟨rfl, hb1⟩
  have hbW := hb1
  replace h := h.below hb1
  replace hm := hm.below hb1
  clear hb1
  go_wp2_with fail
  refine (few8_any a cap l.length b bc m none 0 0 _ hm z1 (by decide)).mono ?_
  rintro e u2 ⟨q, rfl, _, hb2⟩
  replace h := h.below hb2
  replace hm := hm.below hb2
  replace hbW := hbW.trans (hb2.mono hbW.size)
  clear hb2
  cases q with
  | false =>
    clear h hm
    go_wp2_with fail
    refine (awake8_any _).mono ?_
    rintro e u3 ⟨rfl, hb3⟩
    replace hbW := hbW.trans (hb3.mono hbW.size)
    clear hb3
    go_wp2
    go_ret
    exact ⟨rfl, hbW⟩
  | true =>
    have hfi := cfit_any a cap l b bc m u2 h hm
    cases hf : fiB l m with
    | false =>
      rw [hf] at hfi
      clear h hm hf
      go_wp2_with fail
      refine hfi.mono ?_
      rintro e u3 ⟨rfl, hb3⟩
      replace hbW := hbW.trans (hb3.mono hbW.size)
      clear hb3 hfi
      go_wp2_with fail
      refine (awake8_any _).mono ?_
      rintro e u4 ⟨rfl, hb4⟩
      replace hbW := hbW.trans (hb4.mono hbW.size)
      clear hb4
      go_wp2
      go_ret
      exact ⟨rfl, hbW⟩
    | true =>
      have hl4 := (fiB_len hf).1
      rw [hf] at hfi
      have HE : Hid (exE l m = 0) := exE_yes hf
      have HLA : Hid (∀ ps, (atL l m ps).length = l.length) := fun ps => atL_yes hf ps
      have HUS : Hid (∀ i, i < l.length → (atL l m (usK l l.length)).getD i 0 = 0) := fun i hi => by rw [atL_get hf _ hi, at_us hf hi (clV_us hf hi)]
      have HNI : Hid (∀ i, i < l.length → (atL l m []).getD i 0 = 0) := fun i hi => by rw [atL_get hf _ hi, at_us hf hi (clV_nil _ _)]
      have HHI : Hid (∀ i, i < l.length → (atL l m (hiK l l.length)).getD i 0 = if (l.getD i Ax.none).hi = (l.getD i Ax.none).us then 0 else 16384) := fun i hi => by rw [atL_get hf _ hi, at_hi hf hi (clV_hi hf hi)]
      clear hf
      go_wp2_with fail
      refine hfi.mono ?_
      rintro e u3 ⟨rfl, hb3⟩
      replace h := h.below hb3
      replace hm := hm.below hb3
      replace hbW := hbW.trans (hb3.mono hbW.size)
      clear hb3 hfi
      have hus := cusual_any a cap l u3 h (by omega)
      go_wp2_with fail
      refine hus.mono ?_
      rintro e u4 ⟨ua, uc, rfl, hU, hb4⟩
      replace h := h.below hb4
      replace hm := hm.below hb4
      replace hbW := hbW.trans (hb4.mono hbW.size)
      clear hb4 hus
      have hat := cat_any a cap l b bc m ua uc (usK l l.length) u4 h hm hU (by rw [usK_len (Nat.le_refl _)]; omega)
      rw [HE.out, HLA.out] at hat
      go_wp2_with fail
      refine hat.mono ?_
      rintro e u5 ⟨ra, rc, rfl, hR1, hb5⟩
      replace h := h.below hb5
      replace hm := hm.below hb5
      replace hbW := hbW.trans (hb5.mono hbW.size)
      clear hb5 hat hU
      have hat := cat_any a cap l b bc m none 0 [] u5 h hm (Ri.nil _ _ _ (Nat.zero_le _)) (by decide)
      rw [HE.out, HLA.out] at hat
      simp only [List.length_nil] at hat
      go_wp2_with fail
      refine hat.mono ?_
      rintro e u6 ⟨sa, sc, rfl, hR2, hb6⟩
      replace h := h.below hb6
      replace hm := hm.below hb6
      replace hR1 := hR1.below hb6
      replace hbW := hbW.trans (hb6.mono hbW.size)
      clear hb6 hat
      have HH : Hid (As u6 a cap l) := h
      have HM : Hid (Pzz u6 b bc m) := hm
      have HR1 : Hid (Ri u6 ra rc (atL l m (usK l l.length))) := hR1
      have HR2 : Hid (Ri u6 sa sc (atL l m [])) := hR2
      clear h hm hR1 hR2
      have hI0 : Io u6.heap.size u6 (.slice none 0 0) (hiK l 0) := Io.nil _ _
      go_wp2
      go_loopw [9, 10] (fun v i wr => ∃ k : Nat, k ≤ l.length ∧ i = .int .i64 k ∧ Io u6.heap.size wr v (hiK l k) ∧ Below u6.heap.size u6 wr) (fun _ i _ => l.length - (intOf i).toNat)
      case atStart => exact ⟨0, Nat.zero_le _, rfl, hI0, Below.refl _ _⟩
      case round =>
        obtain ⟨k, hk, rfl, hT, hB⟩ := hrel
        obtain ⟨a2, c2, rfl, hts⟩ := hT.slice
        have hlen := hiK_len hk
        rw [hlen] at hT ⊢
        have hll : (hiK l k).length + 1 ≤ 1000000 := by omega
        have HT : Hid (Io u6.heap.size wr (.slice a2 k c2) (hiK l k)) := hT
        clear hT hlen hI0
        by_cases hkn : k < l.length
        · clear hts
          obtain ⟨b0, off, ea, hb, d0, d1, d2, d3⟩ := HH.out.at hB k hkn
          subst ea
          have HI : Hid (I64 (l.getD k Ax.none).hi) := (HH.out.w hkn).2.2.2
          have HS : Hid (hiK l (k + 1) = hiK l k ++ [(l.getD k Ax.none).hi]) := hiK_succ hkn
          generalize (l.getD k Ax.none).hi = hi at *
          have hT5 := HT.out.below (bl1 (.cells #[.int .i64 hi] 3))
          have hN := heap_alloc_new wr (.cells #[.int .i64 hi] 3)
          have n0 := cell_of_row _ wr.heap.size 0 _ _ (0, 0) hN
          have hbs : u6.heap.size ≤ (wr.alloc (.cells #[.int .i64 hi] 3)).heap.size := by have := hB.size; simp at this ⊢; omega
          clear hN
          go_wp2_with (at_builtin; refine wpList_append_int rfl _ _ rfl u6.heap.size _ (hiK l k) rfl hT5 wr.heap.size hi rfl n0 HI.out hll hbs ?_)
          intro v' w9 hT9 hgrow
          have hB9 : Below u6.heap.size u6 w9 := (hB.alloc hB.size _).grown hgrow hbs (fun k hk => HT.out.lo hk)
          rw [← HS.out] at hT9
          clear hgrow hT5 n0 hbs
          go_wp2
          go_roundw
          case rel => exact ⟨k + 1, by omega, by go_num, hT9, hB9⟩
          case measure => simp [intOf]; omega
        · obtain rfl : k = l.length := by omega
          have hat := cat_any a cap l b bc m a2 c2 (hiK l l.length) wr (HH.out.below hB) (HM.out.below hB) hts (by rw [hiK_len (Nat.le_refl _)]; omega)
          rw [HE.out, HLA.out, hiK_len (Nat.le_refl _)] at hat
          clear hts HT
          go_wp2_with fail
          refine hat.mono ?_
          rintro e u7 ⟨ta, tc, rfl, hR3, hb7⟩
          have hB7 : Below u6.heap.size u6 u7 := hB.trans (hb7.mono hB.size)
          have HR3 : Hid (Ri u7 ta tc (atL l m (hiK l l.length))) := hR3
          have HA : Hid (As u7 a cap l) := HH.out.below hB7
          have HA1 : Hid (Ri u7 ra rc (atL l m (usK l l.length))) := HR1.out.below hB7
          have HA2 : Hid (Ri u7 sa sc (atL l m [])) := HR2.out.below hB7
          have hbX : Below w.heap.size w u7 := hbW.trans (hB7.mono hbW.size)
          clear hat hb7 hB hR3 HR1 HR2 HH HM hbW hB7
          have g9 : ((l.length : Int) != (l.length : Int)) = false := by simp
          go_wp2
          go_loopw [13] (fun i wr => ∃ k : Nat, k ≤ l.length ∧ i = .int .i64 k ∧ Below u7.heap.size u7 wr) (fun i _ => l.length - (intOf i).toNat)
          case atStart => exact ⟨0, Nat.zero_le _, rfl, Below.refl _ _⟩
          case round =>
            obtain ⟨j, hj, rfl, hB⟩ := hrel
            by_cases hjn : j < l.length
            · obtain ⟨b0, off, ea, hb, d0, d1, d2, d3⟩ := HA.out.at hB j hjn
              subst ea
              obtain ⟨b1, o1, e1, _, x1⟩ := HA1.out.at hB j (by rw [HLA.out]; exact hjn)
              subst e1
              obtain ⟨b2, o2, e2, _, x2⟩ := HA2.out.at hB j (by rw [HLA.out]; exact hjn)
              subst e2
              obtain ⟨b3, o3, e3, _, x3⟩ := HR3.out.at hB j (by rw [HLA.out]; exact hjn)
              subst e3
              rw [HUS.out j hjn] at x1
              rw [HNI.out j hjn] at x2
              rw [HHI.out j hjn] at x3
              generalize (l.getD j Ax.none).hi = hi at *
              generalize (l.getD j Ax.none).us = us at *
              clear d0 d1
              have hj2 : IntKind.i64.wrap (j : Int) = j := wrapi64 (by omega) (by omega)
              by_cases hq : hi = us
              · rw [if_pos hq] at x3
                have gq : (hi == us) = true := by simp [hq]
                clear hq
                go_wp2_with fail
                go_quiet (fail)
                go_wp2
                go_roundw
                case rel => exact ⟨j + 1, by omega, by go_num, below_drewN hB _⟩
                case measure => simp [intOf]; omega
              · rw [if_neg hq] at x3
                have gq : (hi == us) = false := by simp [hq]
                clear hq
                go_wp2_with fail
                go_quiet (fail)
                go_wp2
                go_roundw
                case rel => exact ⟨j + 1, by omega, by go_num, below_drewN hB _⟩
                case measure => simp [intOf]; omega
            · obtain rfl : j = l.length := by omega
              go_wp2
              go_ret
              exact ⟨rfl, hbX.trans (hB.mono hbX.size)⟩

end Go.Proofs.Ytdpafdeoepbhaaa
