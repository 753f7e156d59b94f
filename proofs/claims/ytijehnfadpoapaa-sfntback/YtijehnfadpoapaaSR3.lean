/-
  foundryref05.risen: the walk.
-/
import Derived.Test.YtijehnfadpoapaaSR2
import Derived.Laws.Cover1
namespace Go.Proofs.Ytijehnfadpoapaa
open Go.RowKit Go.Maps
set_option linter.unusedSimpArgs false
set_option linter.unusedVariables false

/-- Behind the last of the first k. -/
def Cand (l : List Tb) (k : Nat) (t : Tb) : Prop := k = 0 ∨ tlt ((srt l).getD (k - 1) Tb.none).tx t.tx
/-- The least of those, among the first m. -/
def Bst (l : List Tb) (k m : Nat) (z : Int) : Prop :=
  (z = -1 ∧ ∀ j, j < m → ¬ Cand l k (l.getD j Tb.none)) ∨
  ∃ j : Nat, j < m ∧ z = j ∧ Cand l k (l.getD j Tb.none) ∧ ∀ i, i < m → Cand l k (l.getD i Tb.none) → ¬ tlt (l.getD i Tb.none).tx (l.getD j Tb.none).tx
theorem Bst.zero (l : List Tb) (k : Nat) : Bst l k 0 (-1) := .inl ⟨rfl, fun j hj => by omega⟩
theorem lt_succ_or {i m : Nat} (h : i < m + 1) : i < m ∨ i = m := by omega
theorem Bst.skip {l : List Tb} {k m : Nat} {z : Int} (h : Bst l k m z) (hc : ¬ Cand l k (l.getD m Tb.none)) : Bst l k (m + 1) z := by
  rcases h with ⟨e, h⟩ | ⟨j, hj, e, h1, h2⟩
  · refine .inl ⟨e, fun i hi => ?_⟩
    rcases lt_succ_or hi with hi | rfl
    · exact h i hi
    · exact hc
  · refine .inr ⟨j, by omega, e, h1, fun i hi => ?_⟩
    rcases lt_succ_or hi with hi | rfl
    · exact h2 i hi
    · exact fun h => absurd h hc
theorem Bst.first {l : List Tb} {k m : Nat} (h : Bst l k m (-1)) (hc : Cand l k (l.getD m Tb.none)) : Bst l k (m + 1) m := by
  rcases h with ⟨e, h⟩ | ⟨j, hj, e, h1, h2⟩
  · refine .inr ⟨m, by omega, rfl, hc, fun i hi hci => ?_⟩
    rcases lt_succ_or hi with hi | rfl
    · exact absurd hci (h i hi)
    · exact tlt_irrefl _
  · omega
theorem Bst.less {l : List Tb} {k m j : Nat} (h : Bst l k m (j : Int)) (hc : Cand l k (l.getD m Tb.none)) (hl : tlt (l.getD m Tb.none).tx (l.getD j Tb.none).tx) : Bst l k (m + 1) m := by
  rcases h with ⟨e, h⟩ | ⟨j', hj, e, h1, h2⟩
  · omega
  · have : j = j' := by omega
    subst this
    refine .inr ⟨m, by omega, rfl, hc, fun i hi hci => ?_⟩
    rcases lt_succ_or hi with hi | rfl
    · exact fun h => h2 i hi hci (tlt_trans h hl)
    · exact tlt_irrefl _
theorem Bst.stay {l : List Tb} {k m j : Nat} (h : Bst l k m (j : Int)) (hl : ¬ tlt (l.getD m Tb.none).tx (l.getD j Tb.none).tx) : Bst l k (m + 1) j := by
  rcases h with ⟨e, h⟩ | ⟨j', hj, e, h1, h2⟩
  · omega
  · have : j = j' := by omega
    subst this
    refine .inr ⟨j, by omega, rfl, h1, fun i hi hci => ?_⟩
    rcases lt_succ_or hi with hi | rfl
    · exact h2 i hi hci
    · exact hl
theorem Ris.lt {l : List Tb} (h : Ris l) {i j : Nat} (hij : i < j) (hj : j < l.length) : tlt (l.getD i Tb.none).tx (l.getD j Tb.none).tx := by
  have := List.pairwise_iff_getElem.1 h i j (by omega) hj hij
  simpa [List.getD, hj, show i < l.length by omega] using this
theorem idx_of_mem {l : List Tb} {t : Tb} (h : t ∈ l) : ∃ i, i < l.length ∧ l.getD i Tb.none = t := by
  obtain ⟨i, hi, e⟩ := List.getElem_of_mem h
  exact ⟨i, hi, by simp [List.getD, hi, e]⟩
theorem Bst.done {l : List Tb} (hd : Dis l) {k : Nat} (hk : k < l.length) {z : Int} (h : Bst l k l.length z) : ∃ j : Nat, j < l.length ∧ z = j ∧ l.getD j Tb.none = (srt l).getD k Tb.none := by
  have hr := srt_ris hd
  have hlen := srt_len l
  have hks : k < (srt l).length := by omega
  obtain ⟨i, hi, he⟩ := idx_of_mem ((srt_perm l).subset (getD_mem hks))
  have hci : Cand l k (l.getD i Tb.none) := by
    rw [he]
    rcases Nat.eq_zero_or_pos k with h0 | h0
    · exact .inl h0
    · exact .inr (hr.lt (by omega) hks)
  rcases h with ⟨e, h⟩ | ⟨j, hj, e, h1, h2⟩
  · exact absurd hci (h i hi)
  · refine ⟨j, hj, e, ?_⟩
    obtain ⟨m, hm, hme⟩ := idx_of_mem ((srt_perm l).symm.subset (getD_mem hj))
    rw [← hme]
    rcases Nat.lt_trichotomy m k with hmk | hmk | hmk
    · exfalso
      rw [← hme] at h1
      rcases h1 with h1 | h1
      · omega
      · rcases Nat.lt_or_ge m (k - 1) with h3 | h3
        · exact tlt_irrefl _ (tlt_trans h1 (hr.lt h3 (by omega)))
        · rw [show k - 1 = m by omega] at h1
          exact tlt_irrefl _ h1
    · rw [hmk]
    · exfalso
      have := h2 i hi hci
      rw [he, ← hme] at this
      exact this (hr.lt hmk hm)
theorem Bst.bnd {l : List Tb} {k m : Nat} {z : Int} (h : Bst l k m z) (hm : m ≤ l.length) : z = -1 ∨ ∃ j : Nat, z = j ∧ j < m := by
  rcases h with ⟨e, _⟩ | ⟨j, hj, e, _⟩
  · exact .inl e
  · exact .inr ⟨j, e, hj⟩

set_option maxHeartbeats 2000000 in
set_option maxRecDepth 100000 in
theorem risen_any (a : Option Addr) (cap : Nat) (l : List Tb) (w : World) (h : Ts w a cap l) (hl : l.length ≤ 1000) (hd : Dis l) :
    Calls Try.prog 56 #[.slice a l.length cap] w fun e w' => ∃ a' cap', e = .returned (.slice a' l.length cap') ∧ Ts w' a' cap' (srt l) ∧ Below w.heap.size w w' := by
  obtain ⟨i0, hi, hz0, hz1, hz2⟩ := info_parts info_tab
  have k1 := h.1
  have k2 := h.2.1
  unfold maxLen at k2
  have HSL : Hid ((srt l).length = l.length) := srt_len l
  go_enter Try.func56, Try.ntmps56
  go_wp2
  go_loopw [3] (fun v wr => ∃ k : Nat, k ≤ l.length ∧ To 65 w.heap.size (· < w.heap.size) wr v ((srt l).take k) ∧ Below w.heap.size w wr) (fun v _ => l.length - lenOf v)
  case atStart => exact ⟨0, Nat.zero_le _, To.nil _ _ _ _ (fun k hk => hk), Below.refl _ _⟩
  case round =>
    obtain ⟨k, hk, hT, hB⟩ := hrel
    obtain ⟨a2, c2, rfl, hts, hlo⟩ := hT.slice
    have hlen : ((srt l).take k).length = k := by have := HSL.out; simp; omega
    rw [hlen] at hT ⊢
    have HT : Hid (To 65 w.heap.size (· < w.heap.size) wr (.slice a2 k c2) ((srt l).take k)) := hT
    have HTS : Hid (Ts wr a2 c2 ((srt l).take k)) := hts
    have hk2 := hts.1
    have hk3 := hts.2.1
    rw [hlen] at hk2
    unfold maxLen at hk3
    clear hT hts
    by_cases hkn : k < l.length
    · go_wp2
      go_loopw [4, 5] (fun z i ws => ∃ m : Nat, m ≤ l.length ∧ i = .int .i64 m ∧ (∃ zz : Int, z = .int .i64 zz ∧ Bst l k m zz) ∧ Below wr.heap.size wr ws) (fun _ i _ => l.length - (intOf i).toNat)
      case atStart => exact ⟨0, Nat.zero_le _, rfl, ⟨-1, rfl, Bst.zero l k⟩, Below.refl _ _⟩
      case round =>
        obtain ⟨m, hm, rfl, ⟨zz, rfl, hbst⟩, hB2⟩ := hrel
        replace hbst : Hid (Bst l k m zz) := hbst
        by_cases hmn : m < l.length
        · obtain ⟨b, off, c0, c, rfl, hb, d1, d2, hr⟩ := h.at (hB.trans (hB2.mono hB.size)) m hmn
          clear hr d2
          obtain ⟨s, hs⟩ : ∃ s, l.getD m Tb.none = s := ⟨_, rfl⟩
          rw [hs] at d1
          have HM : Hid (l.getD m Tb.none = s) := hs
          clear hs
          obtain ⟨tx, bs⟩ := s
          dsimp only at *
          have i1 : (0 : Int) ≤ (m : Int) := by omega
          have i2 : (m : Int) < (l.length : Int) := by omega
          rcases Nat.eq_zero_or_pos k with rfl | hk0
          · have HC : Hid (Cand l 0 (l.getD m Tb.none)) := .inl rfl
            rcases hbst.out.bnd hm with rfl | ⟨j, rfl, hjm⟩
            · have g5 : ((-1 : Int) < 0) := by decide
              clear hd hi hz0 hz1 hz2 hlo HT HTS h hb HSL
              go_wp2_with fail
              go_quiet (fail)
              go_wp2
              go_roundw
              case rel => exact ⟨m + 1, by omega, by go_num, ⟨_, rfl, hbst.out.first HC.out⟩, below_drewN hB2 _⟩
              case measure => simp [intOf]; omega
            · obtain ⟨b5, off5, x5, y5, e1, n5, d5, o5, p5⟩ := h.at (hB.trans (hB2.mono hB.size)) j (by omega)
              cases e1
              clear n5 o5 p5
              obtain ⟨s, hs⟩ : ∃ s, l.getD j Tb.none = s := ⟨_, rfl⟩
              rw [hs] at d5
              have HJ : Hid (l.getD j Tb.none = s) := hs
              clear hs
              obtain ⟨tj, bj⟩ := s
              dsimp only at *
              have i3 : (0 : Int) ≤ (j : Int) := by omega
              have i4 : (j : Int) < (l.length : Int) := by omega
              have g5 : decide ((j : Int) < 0) = false := decide_eq_false (by omega)
              by_cases hls : tlt tx tj
              · have hb1 := tlt_yes hls
                have HLS : Hid (tlt tx tj) := hls
                clear hls
                clear hd hi hz0 hz1 hz2 hlo HT HTS h hb HSL
                go_wp2_with fail
                go_quiet (fail)
                go_wp2
                go_roundw
                case rel => exact ⟨m + 1, by omega, by go_num, ⟨_, rfl, hbst.out.less HC.out (by rw [HM.out, HJ.out]; exact HLS.out)⟩, below_drewN hB2 _⟩
                case measure => simp [intOf]; omega
              · have hb1 := tlt_no hls
                have HLS : Hid (¬ tlt tx tj) := hls
                clear hls
                clear hd hi hz0 hz1 hz2 hlo HT HTS h hb HSL
                go_wp2_with fail
                go_quiet (fail)
                go_wp2
                go_roundw
                case rel => exact ⟨m + 1, by omega, by go_num, ⟨_, rfl, hbst.out.stay (by rw [HM.out, HJ.out]; exact HLS.out)⟩, below_drewN hB2 _⟩
                case measure => simp [intOf]; omega
          · obtain ⟨p, rfl⟩ : ∃ p, k = p + 1 := ⟨k - 1, by omega⟩
            have hpl : p < ((srt l).take (p + 1)).length := by have := HSL.out; simp; omega
            obtain ⟨b3, off3, x3, y3, rfl, n3, d3, o3, p3⟩ := HTS.out.at hB2 p hpl
            have e3 : ((srt l).take (p + 1)).getD p Tb.none = (srt l).getD p Tb.none := by simp [List.getD]
            rw [e3] at d3
            obtain ⟨s, hs⟩ : ∃ s, (srt l).getD p Tb.none = s := ⟨_, rfl⟩
            rw [hs] at d3
            have HP : Hid ((srt l).getD p Tb.none = s) := hs
            clear hs e3 hpl n3 o3 p3
            obtain ⟨tp, bp⟩ := s
            dsimp only at *
            have g4 : (((p : Int) + 1) == 0) = false := beq_eq_false_iff_ne.2 (by omega)
            have i5 : (0 : Int) ≤ (p : Int) := by omega
            have i7 : IntKind.i64.wrap (p : Int) = p := by unfold IntKind.wrap; simp [IntKind.bits, IntKind.signed]; omega
            have i6 : (p : Int) < (p : Int) + 1 := by omega
            by_cases hlt : tlt tp tx
            · have HC : Hid (Cand l (p + 1) (l.getD m Tb.none)) := .inr (by rw [HM.out, Nat.add_sub_cancel, HP.out]; exact hlt)
              have hb2 := tlt_no (fun h' : tlt tx tp => tlt_irrefl _ (tlt_trans hlt h'))
              have hb3 := teq_no (a := tx) (b := tp) (fun e => tlt_irrefl tp (by rw [e] at hlt; exact hlt))
              clear hlt
              rcases hbst.out.bnd hm with rfl | ⟨j, rfl, hjm⟩
              · have g5 : ((-1 : Int) < 0) := by decide
                clear hd hi hz0 hz1 hz2 hlo HT HTS h hb HSL
                go_wp2_with fail
                go_quiet (fail)
                go_wp2
                go_roundw
                case rel => exact ⟨m + 1, by omega, by go_num, ⟨_, rfl, hbst.out.first HC.out⟩, below_drewN hB2 _⟩
                case measure => simp [intOf]; omega
              · obtain ⟨b5, off5, x5, y5, e1, n5, d5, o5, p5⟩ := h.at (hB.trans (hB2.mono hB.size)) j (by omega)
                cases e1
                clear n5 o5 p5
                obtain ⟨s, hs⟩ : ∃ s, l.getD j Tb.none = s := ⟨_, rfl⟩
                rw [hs] at d5
                have HJ : Hid (l.getD j Tb.none = s) := hs
                clear hs
                obtain ⟨tj, bj⟩ := s
                dsimp only at *
                have i3 : (0 : Int) ≤ (j : Int) := by omega
                have i4 : (j : Int) < (l.length : Int) := by omega
                have g5 : decide ((j : Int) < 0) = false := decide_eq_false (by omega)
                by_cases hls : tlt tx tj
                · have hb1 := tlt_yes hls
                  have HLS : Hid (tlt tx tj) := hls
                  clear hls
                  clear hd hi hz0 hz1 hz2 hlo HT HTS h hb HSL
                  go_wp2_with fail
                  go_quiet (fail)
                  go_wp2
                  go_roundw
                  case rel => exact ⟨m + 1, by omega, by go_num, ⟨_, rfl, hbst.out.less HC.out (by rw [HM.out, HJ.out]; exact HLS.out)⟩, below_drewN hB2 _⟩
                  case measure => simp [intOf]; omega
                · have hb1 := tlt_no hls
                  have HLS : Hid (¬ tlt tx tj) := hls
                  clear hls
                  clear hd hi hz0 hz1 hz2 hlo HT HTS h hb HSL
                  go_wp2_with fail
                  go_quiet (fail)
                  go_wp2
                  go_roundw
                  case rel => exact ⟨m + 1, by omega, by go_num, ⟨_, rfl, hbst.out.stay (by rw [HM.out, HJ.out]; exact HLS.out)⟩, below_drewN hB2 _⟩
                  case measure => simp [intOf]; omega
            · have HC : Hid (¬ Cand l (p + 1) (l.getD m Tb.none)) := by
                rintro (h1 | h1)
                · omega
                · rw [HM.out, Nat.add_sub_cancel, HP.out] at h1; exact hlt h1
              by_cases heq : tx = tp
              · subst heq
                have hb2 := tlt_no (tlt_irrefl tx)
                have hb3 := teq_yes tx
                clear hlt
                clear hd hi hz0 hz1 hz2 hlo HT HTS h hb HSL
                go_wp2_with fail
                go_quiet (fail)
                go_wp2
                go_roundw
                case rel => exact ⟨m + 1, by omega, by go_num, ⟨_, rfl, hbst.out.skip HC.out⟩, below_drewN hB2 _⟩
                case measure => simp [intOf]; omega
              · have hb3 := teq_no heq
                have hb2 := tlt_yes (show tlt tx tp by rcases tlt_total heq with h1 | h1; exact h1; exact absurd h1 hlt)
                clear hlt heq
                clear hd hi hz0 hz1 hz2 hlo HT HTS h hb HSL
                go_wp2_with fail
                go_quiet (fail)
                go_wp2
                go_roundw
                case rel => exact ⟨m + 1, by omega, by go_num, ⟨_, rfl, hbst.out.skip HC.out⟩, below_drewN hB2 _⟩
                case measure => simp [intOf]; omega
        · obtain rfl : m = l.length := by omega
          obtain ⟨j, hj, rfl, he⟩ := hbst.out.done hd hkn
          have hB3 := hB.trans (hB2.mono hB.size)
          obtain ⟨b, off, c0, c, rfl, hb, d1, d2, hr⟩ := h.at hB3 j hj
          obtain ⟨_, _, c0', c', e1, _, e3, e4, hr'⟩ := h.2.2.2 j hj
          cases e1
          have e5 : some (Value.slice c0 (l.getD j Tb.none).bs.length c) = some (Value.slice c0' (l.getD j Tb.none).bs.length c') := by rw [← d2, ← e4]; exact hB3.cell (p := ⟨b, off + j * 2 + 1, none⟩) hb
          cases e5
          have hG : (l.getD j Tb.none).bs ≠ [] → ∀ b o, c0 = some ⟨b, o, none⟩ → b < w.heap.size := hr'.lt
          have htx := h.tx hj
          have hks : k < (srt l).length := by have := HSL.out; omega
          have HSN : Hid ((srt l).take (k + 1) = (srt l).take k ++ [l.getD j Tb.none]) := by
            show (srt l).take (k + 1) = (srt l).take k ++ [l.getD j Tb.none]
            rw [List.take_succ_eq_append_getElem hks, he]
            simp [List.getD, hks]
          generalize hs : l.getD j Tb.none = s at *
          clear hs e3 e4 hr' he
          obtain ⟨tx, bs⟩ := s
          dsimp only at *
          have hT2 := (HT.out.below hB2).below (bl1 (.cells #[.string tx, .slice c0 bs.length c] 65))
          have hr2 := hr.below (bl1 (.cells #[.string tx, .slice c0 bs.length c] 65))
          go_wp2_with (at_builtin; refine wpList_append_tab rfl _ _ 30 rfl w.heap.size 65 i0 Try.underlying30 hi hz0 hz1 hz2 _ _ ((srt l).take k) rfl hT2 wr.heap.size ⟨tx, bs⟩ c0 c rfl ?_ ?_ htx hr2 hG (by simp; omega) ?_ ?_)
          · have := hB3.size
            simp
            omega
          · intro v' w2 hT3 hgrow hat
            have hB4 : Below w.heap.size w w2 := (hB3.alloc hB3.size _).grown hgrow (by have := hB3.size; simp; omega) (fun k hk => ((HT.out.below hB2).lt hk).2)
            rw [← HSN.out] at hT3
            obtain ⟨a4, c4, rfl, _, _⟩ := hT3.slice
            have hl4 : ((srt l).take (k + 1)).length = k + 1 := by have := HSL.out; simp; omega
            rw [hl4] at hT3 ⊢
            clear hgrow hat hT2 hr2
            go_wp2
            go_roundw
            case rel => exact ⟨k + 1, by omega, hT3, hB4⟩
            case measure => simp [lenOf]; omega
    · obtain rfl : k = l.length := by omega
      have hts := HTS.out
      rw [show (srt l).take l.length = srt l by rw [← HSL.out, List.take_length]] at hts
      go_wp2
      go_ret
      exact ⟨a2, c2, rfl, hts, hB⟩

end Go.Proofs.Ytijehnfadpoapaa
