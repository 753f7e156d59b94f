/-
  foundryref09.Region, foundryref09.Everywhere, foundryref09.Peak: the walks.
  foundryref10.Formed: the walk.
  foundryref10.Write: the walk.
-/
import Derived.Test.YtjefaccpmoignaaZ24
import Derived.Test.YtjefaccpmoignaaZ11
import Derived.Test.YtjefaccpmoignaaZ13
import Derived.Test.YtjefaccpmoignaaZ12
import Derived.Deep.CutRange
import Derived.Test.YtjefaccpmoignaaZ20
namespace Go.Proofs.Ytjefaccpmoignaa
open Go.RowKit Go.Maps
set_option linter.unusedSimpArgs false
set_option linter.unusedVariables false

set_option maxHeartbeats 1000000 in
set_option maxRecDepth 100000 in
theorem sregion_any (a : Option Addr) (cap : Nat) (l : List Te) (n : Int) (w : World) (h : Tz w a cap l) :
    Calls Try.prog 44 #[.slice a l.length cap, .int .i64 n] w fun e w' => e = .returned (.bool (rgB l n)) ∧ Below w.heap.size w w' := by
  have k1 := h.1
  have k2 := h.lenB
  have HH : Hid (Tz w a cap l) := h
  clear h
  go_enter Try.func44, Try.ntmps44
  go_wp2
  go_loopw [5] (fun i wr => ∃ k : Nat, k ≤ l.length ∧ i = .int .i64 k ∧ (∀ j, j < k → tfB (l.getD j Te.none) = true) ∧ Below w.heap.size w wr) (fun i _ => l.length - (intOf i).toNat)
  case atStart => exact ⟨0, Nat.zero_le _, rfl, (fun j hj => by omega), Below.refl _ _⟩
  case round =>
    obtain ⟨k, hk, rfl, hok, hB⟩ := hrel
    have HOK : Hid (∀ j, j < k → tfB (l.getD j Te.none) = true) := hok
    clear hok
    by_cases hkn : k < l.length
    · obtain ⟨b, off, ea, hb, d0, d1, d2⟩ := HH.out.at hB k hkn
      subst ea
      have hfo := fun U => sformT_any (l.getD k Te.none) U
      obtain ⟨t, ht⟩ : ∃ t, l.getD k Te.none = t := ⟨_, rfl⟩
      have HT : Hid (l.getD k Te.none = t) := ht
      rw [ht] at d0 d1 d2 hfo
      clear ht
      cases hf : tfB t with
      | false =>
        have HF : Hid (rgB l n = false) := by show _ = _; rw [rgB, all_noT hkn (by rw [HT.out]; exact hf), Bool.false_and]
        simp only [hf] at hfo
        clear hf HT HOK
        obtain ⟨st, pk, en⟩ := t
        dsimp only at *
        go_wp2_with fail
        refine (hfo _).mono ?_
        rintro e u1 ⟨rfl, hb1⟩
        replace hB := hB.trans (hb1.mono hB.size)
        clear hb1 hfo
        go_wp2
        go_ret
        exact ⟨rt_bool HF.out.symm, hB⟩
      | true =>
        have HOK2 : Hid (∀ j, j < k + 1 → tfB (l.getD j Te.none) = true) := fun j hj => by
          rcases Nat.lt_or_ge j k with h1 | h1
          · exact HOK.out j h1
          · rw [show j = k by omega, HT.out]; exact hf
        simp only [hf] at hfo
        clear hf HT HOK
        obtain ⟨st, pk, en⟩ := t
        dsimp only at *
        go_wp2_with fail
        refine (hfo _).mono ?_
        rintro e u1 ⟨rfl, hb1⟩
        replace hB := hB.trans (hb1.mono hB.size)
        clear hb1 hfo
        go_wp2
        go_roundw
        case rel => exact ⟨k + 1, by omega, by go_num, HOK2.out, hB⟩
        case measure => simp [intOf]; omega
    · obtain rfl : k = l.length := by omega
      have HF : Hid (rgB l n = decide ((l.length : Int) = n)) := by show _ = _; rw [rgB, allT.2 HOK.out, Bool.true_and]
      clear HOK
      go_wp2
      go_ret
      exact ⟨rt_bool (by rw [HF.out]; by_cases e : (l.length : Int) = n <;> simp [e]), hB⟩

end Go.Proofs.Ytjefaccpmoignaa

namespace Go.Proofs.Ytjefaccpmoignaa
open Go.RowKit Go.Maps
set_option linter.unusedSimpArgs false
set_option linter.unusedVariables false

set_option maxHeartbeats 4000000 in
set_option maxRecDepth 100000 in
theorem sformS_any (a : Option Addr) (ca : Nat) (b : Option Addr) (cb : Nat) (s : Sr) (n : Int) (w : World) (hg : Tzz w a ca s.rg) (hm : Rii w b cb s.rw) :
    Calls Try.prog 17 #[.agg #[.slice a s.rg.length ca, .slice b s.rw.length cb], .int .i64 n] w fun e w' => e = .returned (.bool (stB s n)) ∧ Below w.heap.size w w' := by
  have k1 := hg.lenB
  have k2 := hm.lenB
  have HNO : Hid (∀ h : ¬ ((0 ≤ n ∧ n ≤ 4) ∧ s.rg.length ≤ 40 ∧ s.rw.length ≤ 400 ∧ (∀ l ∈ s.rg, rgB l n = true) ∧ (∀ r ∈ s.rw, r.length = s.rg.length ∧ r.all fdB = true)), stB s n = false) := fun h => stB_no h
  have HG : Hid (Tzz w a ca s.rg) := hg
  have HM : Hid (Rii w b cb s.rw) := hm
  clear hg hm
  by_cases h1 : n < 0
  · have g1 : decide (n < 0) = true := decide_eq_true h1
    have HE : Hid (stB s n = false) := HNO.out (fun h => by omega)
    go_enter Try.func17, Try.ntmps17
    go_wp2
    go_ret
    exact ⟨rt_bool HE.out.symm, bl1 _⟩
  have g1 : decide (n < 0) = false := decide_eq_false h1
  by_cases h2 : 4 < n
  · have g2 : decide (4 < n) = true := decide_eq_true h2
    have HE : Hid (stB s n = false) := HNO.out (fun h => by omega)
    go_enter Try.func17, Try.ntmps17
    go_wp2
    go_ret
    exact ⟨rt_bool HE.out.symm, bl1 _⟩
  have g2 : decide (4 < n) = false := decide_eq_false h2
  by_cases h3 : 40 < s.rg.length
  · have g3 : decide ((40 : Int) < (s.rg.length : Int)) = true := decide_eq_true (by omega)
    have HE : Hid (stB s n = false) := HNO.out (fun h => by omega)
    go_enter Try.func17, Try.ntmps17
    go_wp2
    go_ret
    exact ⟨rt_bool HE.out.symm, bl1 _⟩
  have g3 : decide ((40 : Int) < (s.rg.length : Int)) = false := decide_eq_false (by omega)
  by_cases h4 : 400 < s.rw.length
  · have g4 : decide ((400 : Int) < (s.rw.length : Int)) = true := decide_eq_true (by omega)
    have HE : Hid (stB s n = false) := HNO.out (fun h => by omega)
    go_enter Try.func17, Try.ntmps17
    go_wp2
    go_ret
    exact ⟨rt_bool HE.out.symm, bl1 _⟩
  have g4 : decide ((400 : Int) < (s.rw.length : Int)) = false := decide_eq_false (by omega)
  have HB : Hid ((0 ≤ n ∧ n ≤ 4) ∧ s.rg.length ≤ 40 ∧ s.rw.length ≤ 400) := ⟨⟨by omega, by omega⟩, by omega, by omega⟩
  obtain ⟨W, hW, X1, hbW⟩ : ∃ W, W = w.alloc (.cells #[.slice a s.rg.length ca, .slice b s.rw.length cb] 25) ∧ BxS W w.heap.size (.slice a s.rg.length ca) (.slice b s.rw.length cb) ∧ Below w.heap.size w W := ⟨_, rfl, BxS.new _ _ _, bl1 _⟩
  go_enter Try.func17, Try.ntmps17
  go_wp2
  rw [← hW]
  clear hW
  go_loopw [5] (fun i wr => ∃ k : Nat, k ≤ s.rg.length ∧ i = .int .i64 k ∧ (∀ j, j < k → rgB (s.rg.getD j []) n = true) ∧ BxS wr w.heap.size (.slice a s.rg.length ca) (.slice b s.rw.length cb) ∧ Below w.heap.size w wr) (fun i _ => s.rg.length - (intOf i).toNat)
  case atStart => exact ⟨0, Nat.zero_le _, rfl, (fun j hj => by omega), X1, hbW⟩
  case round =>
    clear X1 hbW
    obtain ⟨k, hk, rfl, hok, X1, hB⟩ := hrel
    have HOK : Hid (∀ j, j < k → rgB (s.rg.getD j []) n = true) := hok
    clear hok
    by_cases hkn : k < s.rg.length
    · obtain ⟨b1, o1, a1, c1, ea, _, d0, hp⟩ := HG.out.at hB k hkn
      have hmem := getL_mem hkn
      have hrg := sregion_any a1 c1 (s.rg.getD k []) n wr hp
      obtain ⟨l, hl⟩ : ∃ l, s.rg.getD k [] = l := ⟨_, rfl⟩
      have HL : Hid (s.rg.getD k [] = l) := hl
      rw [hl] at d0 hmem hrg
      subst ea
      clear hl hp
      obtain ⟨x0, x1, _⟩ := X1.cells
      have i1 : (0 : Int) ≤ (k : Int) := by omega
      have i2 : (k : Int) < (s.rg.length : Int) := by omega
      cases hf : rgB l n with
      | false =>
        have HE : Hid (stB s n = false) := HNO.out (fun h => by have := h.2.2.2.1 l hmem; rw [hf] at this; cases this)
        rw [hf] at hrg
        clear hf hmem HL HOK
        go_wp2_with fail
        refine hrg.mono ?_
        rintro e u1 ⟨rfl, hb1⟩
        replace hB := hB.trans (hb1.mono hB.size)
        clear hb1 hrg
        go_wp2
        go_ret
        exact ⟨rt_bool HE.out.symm, hB⟩
      | true =>
        have HOK2 : Hid (∀ j, j < k + 1 → rgB (s.rg.getD j []) n = true) := fun j hj => by
          rcases Nat.lt_or_ge j k with h1 | h1
          · exact HOK.out j h1
          · rw [show j = k by omega, HL.out]; exact hf
        rw [hf] at hrg
        clear hf hmem HL HOK
        go_wp2_with fail
        refine hrg.mono ?_
        rintro e u1 ⟨rfl, hb1⟩
        replace hB := hB.trans (hb1.mono hB.size)
        replace X1 := X1.below hb1
        clear hb1 hrg
        go_wp2
        go_roundw
        case rel => exact ⟨k + 1, by omega, by go_num, HOK2.out, X1, hB⟩
        case measure => simp [intOf]; omega
    · obtain rfl : k = s.rg.length := by omega
      obtain ⟨x0, x1, _⟩ := X1.cells
      go_wp2
      go_loopw [6] (fun i wr => ∃ k : Nat, k ≤ s.rw.length ∧ i = .int .i64 k ∧ (∀ j, j < k → (s.rw.getD j []).length = s.rg.length ∧ (s.rw.getD j []).all fdB = true) ∧ BxS wr w.heap.size (.slice a s.rg.length ca) (.slice b s.rw.length cb) ∧ Below w.heap.size w wr) (fun i _ => s.rw.length - (intOf i).toNat)
      case atStart => exact ⟨0, Nat.zero_le _, rfl, (fun j hj => by omega), X1, hB⟩
      case round =>
        clear X1 hB x0 x1 hk hkn
        obtain ⟨k, hk, rfl, hok, X1, hB⟩ := hrel
        have HOK3 : Hid (∀ j, j < k → (s.rw.getD j []).length = s.rg.length ∧ (s.rw.getD j []).all fdB = true) := hok
        clear hok
        by_cases hkn : k < s.rw.length
        · obtain ⟨b1, o1, a1, c1, ea, _, d0, hp⟩ := HM.out.at hB k hkn
          have hmem := getL_mem hkn
          have hrl := hp.lenB
          obtain ⟨r, hr⟩ : ∃ r, s.rw.getD k [] = r := ⟨_, rfl⟩
          have HL : Hid (s.rw.getD k [] = r) := hr
          rw [hr] at d0 hmem hp hrl
          have HR : Hid (Ri wr a1 c1 r) := hp
          subst ea
          clear hr hp
          have A0 : Cl wr b1 (o1 + k) (.slice a1 r.length c1) := ⟨World.block_lt_of_cell? wr _ d0, d0⟩
          have i1 : (0 : Int) ≤ (k : Int) := by omega
          have i2 : (k : Int) < (s.rw.length : Int) := by omega
          replace hbW := hB
          clear hB
          obtain ⟨x0, x1, _⟩ := X1.cells
          have q0 := A0.2
          by_cases hlen : r.length = s.rg.length
          rotate_left
          · have HE : Hid (stB s n = false) := HNO.out (fun h => hlen (h.2.2.2.2 r hmem).1)
            have g5 : ((r.length : Int) != (s.rg.length : Int)) = true := bne_iff_ne.2 (by omega)
            clear hmem HL HOK3 hlen
            go_upto_region 11 with fail
            refine wp_region_held_drew (S := (fun u => u.cell? ⟨w.heap.size, 0, none⟩ = some (.slice a s.rg.length ca) ∧ u.cell? ⟨w.heap.size, 1, none⟩ = some (.slice (some ⟨b1, o1, none⟩) s.rw.length cb) ∧ u.cell? ⟨b1, o1 + k, none⟩ = some (.slice a1 r.length c1))) (by kernel_rfl) ?_ (fun hHeld => ?_)
            · (try dsimp only)
              go_keep
            have hdr : Below wr.heap.size wr wr.drew := Below.drew1
            generalize wr.drew = ud1 at hdr hHeld ⊢
            replace A0 := A0.below hdr
            replace X1 := X1.below hdr
            replace hbW : Below w.heap.size w ud1 := hbW.trans (hdr.mono hbW.size)
            clear hdr
            clear x0 x1
            obtain ⟨p00, p01, _⟩ := X1.cells
            refine hT 0 hHeld ?_
            refine hT 1 hHeld ?_
            refine hT 2 hHeld ?_
            refine hT 3 hHeld ?_
            refine hT 4 hHeld ?_
            refine hT 5 hHeld ?_
            refine hT 6 hHeld ?_
            refine hT 7 hHeld ?_
            refine hT 8 hHeld ?_
            refine hT 9 hHeld ?_
            refine wpAnyH_done (by kernel_rfl) ?_ _
            clear hHeld
            go_wp2
            go_ret
            exact ⟨rt_bool HE.out.symm, hbW⟩
          have g5 : ((r.length : Int) != (s.rg.length : Int)) = false := by simp [hlen]
          have HLN : Hid (r.length = s.rg.length) := hlen
          clear hlen
          go_upto_region 11 with fail
          have HWR : Hid (Below wr.heap.size wr wr) := Below.refl _ _
          have hbR : Below wr.heap.size wr wr := Below.refl _ _
          refine wp_region_held_drew (S := (fun u => u.cell? ⟨w.heap.size, 0, none⟩ = some (.slice a s.rg.length ca) ∧ u.cell? ⟨w.heap.size, 1, none⟩ = some (.slice (some ⟨b1, o1, none⟩) s.rw.length cb) ∧ u.cell? ⟨b1, o1 + k, none⟩ = some (.slice a1 r.length c1))) (by kernel_rfl) ?_ (fun hHeld => ?_)
          · (try dsimp only)
            go_keep
          have hdr : Below wr.heap.size wr wr.drew := Below.drew1
          generalize wr.drew = ud2 at hdr hHeld ⊢
          replace A0 := A0.below hdr
          replace X1 := X1.below hdr
          replace hbW : Below w.heap.size w ud2 := hbW.trans (hdr.mono hbW.size)
          replace hbR : Below wr.heap.size wr ud2 := hbR.trans (hdr.mono hbR.size)
          clear hdr
          clear x0 x1
          obtain ⟨p00, p01, _⟩ := X1.cells
          refine hT 0 hHeld ?_
          refine hT 1 hHeld ?_
          refine hT 2 hHeld ?_
          refine hT 3 hHeld ?_
          refine hT 4 hHeld ?_
          refine hT 5 hHeld ?_
          refine hT 6 hHeld ?_
          refine hT 7 hHeld ?_
          refine hT 8 hHeld ?_
          refine hT 9 hHeld ?_
          refine wpAnyH_done (by kernel_rfl) ?_ _
          clear hHeld g5
          have HR2 : Hid (Ri ud2 a1 c1 r) := HR.out.below hbR
          clear hbR HWR
          have q0 := A0.2
          go_wp2
          go_loopw [7] (fun i wq => ∃ j : Nat, j ≤ r.length ∧ i = .int .i64 j ∧ (∀ j', j' < j → fdB (r.getD j' 0) = true) ∧ BxS wq w.heap.size (.slice a s.rg.length ca) (.slice (some ⟨b1, o1, none⟩) s.rw.length cb) ∧ Cl wq b1 (o1 + k) (.slice a1 r.length c1) ∧ Below ud2.heap.size ud2 wq) (fun i _ => r.length - (intOf i).toNat)
          case atStart => exact ⟨0, Nat.zero_le _, rfl, (fun j hj => by omega), X1, A0, Below.refl _ _⟩
          case round =>
            clear X1 A0 q0 p00 p01
            obtain ⟨j, hj, rfl, hok, X1, A0, hB⟩ := hrel
            have HOKJ : Hid (∀ j', j' < j → fdB (r.getD j' 0) = true) := hok
            have hbV := hbW.trans (hB.mono hbW.size)
            clear hok
            obtain ⟨x0, x1, _⟩ := X1.cells
            have q0 := A0.2
            by_cases hjn : j < r.length
            · obtain ⟨b9, o9, eb, hb9, dz⟩ := HR2.out.at hB j hjn
              subst eb
              obtain ⟨z, hz⟩ : ∃ z, r.getD j 0 = z := ⟨_, rfl⟩
              have HZ : Hid (r.getD j 0 = z) := hz
              rw [hz] at dz
              have hfd := fun U => sField_any z U
              clear hz
              have i3 : (0 : Int) ≤ (j : Int) := by omega
              have i4 : (j : Int) < (r.length : Int) := by omega
              cases hf : fdB z with
              | false =>
                have HE : Hid (stB s n = false) := HNO.out (fun h => by have := (h.2.2.2.2 r hmem).2; rw [all_noI hjn (by rw [HZ.out]; exact hf)] at this; cases this)
                simp only [hf] at hfd
                clear hf HZ hmem HOKJ
                go_wp2_with fail
                refine (hfd _).mono ?_
                rintro e v1 ⟨rfl, rfl⟩
                go_wp2
                go_ret
                exact ⟨rt_bool HE.out.symm, hbV⟩
              | true =>
                have HOKJ2 : Hid (∀ j', j' < j + 1 → fdB (r.getD j' 0) = true) := fun j' hj' => by
                  rcases Nat.lt_or_ge j' j with h1 | h1
                  · exact HOKJ.out j' h1
                  · rw [show j' = j by omega, HZ.out]; exact hf
                simp only [hf] at hfd
                clear hf HZ hmem HOKJ
                go_wp2_with fail
                refine (hfd _).mono ?_
                rintro e v1 ⟨rfl, rfl⟩
                go_wp2
                go_roundw
                case rel => exact ⟨j + 1, by omega, by go_num, HOKJ2.out, X1, A0, hB⟩
                case measure => simp [intOf]; omega
            · obtain rfl : j = r.length := by omega
              have HOK4 : Hid (∀ j, j < k + 1 → (s.rw.getD j []).length = s.rg.length ∧ (s.rw.getD j []).all fdB = true) := fun j hj => by
                rcases Nat.lt_or_ge j k with h1 | h1
                · exact HOK3.out j h1
                · rw [show j = k by omega, HL.out]; exact ⟨HLN.out, all_yesI HOKJ.out⟩
              have g6 : ¬ (r.length : Int) < (r.length : Int) := by omega
              go_wp2
              go_roundw
              case rel => exact ⟨k + 1, by omega, by go_num, HOK4.out, X1, hbV⟩
              case measure => simp [intOf]; omega
        · obtain rfl : k = s.rw.length := by omega
          have HE : Hid (stB s n = true) := stB_yes HB.out.1 HB.out.2.1 HB.out.2.2 HOK.out HOK3.out
          clear HOK HOK3
          obtain ⟨x0, x1, _⟩ := X1.cells
          go_wp2
          go_ret
          exact ⟨rt_bool HE.out.symm, hB⟩


end Go.Proofs.Ytjefaccpmoignaa

namespace Go.Proofs.Ytjefaccpmoignaa
open Go.RowKit Go.Maps
set_option linter.unusedSimpArgs false
set_option linter.unusedVariables false

set_option maxHeartbeats 8000000 in
set_option maxRecDepth 100000 in
theorem swriteS_any (a : Option Addr) (ca : Nat) (b : Option Addr) (cb : Nat) (s : Sr) (n : Int) (w : World) (hg : Tzz w a ca s.rg) (hm : Rii w b cb s.rw) (hn0 : I64 n) :
    Calls Try.prog 11 #[.agg #[.slice a s.rg.length ca, .slice b s.rw.length cb], .int .i64 n] w fun e w' => ∃ a' cap', e = .returned (.tuple #[.slice a' (wrSB s n).length cap', .int .i64 (wrSE s n)]) ∧ Rb w' a' cap' (wrSB s n) ∧ Below w.heap.size w w' := by
  have hn : I64 n := hn0
  have hfo := fun U h1 h2 => sformS_any a ca b cb s n U h1 h2
  obtain ⟨W, hW, X1, hbW⟩ : ∃ W, W = w.alloc (.cells #[.slice a s.rg.length ca, .slice b s.rw.length cb] 25) ∧ BxS W w.heap.size (.slice a s.rg.length ca) (.slice b s.rw.length cb) ∧ Below w.heap.size w W := ⟨_, rfl, BxS.new _ _ _, bl1 _⟩
  have k1 := hg.lenB
  have k2 := hm.lenB
  replace hg := hg.below hbW
  replace hm := hm.below hbW
  by_cases hst : stB s n = true
  rotate_left
  · have hst : stB s n = false := by simpa using hst
    have HE : Hid (wrSE s n = 1 ∧ wrSB s n = []) := ⟨by simp [wrSE, hst], by simp [wrSB, hst]⟩
    simp only [hst] at hfo
    clear hst
    go_enter Try.func11, Try.ntmps11
    go_wp2_with fail
    rw [← hW]
    clear hW
    refine (hfo _ hg hm).mono ?_
    rintro e u ⟨rfl, hb⟩
    replace hbW := hbW.trans (hb.mono hbW.size)
    clear hb hfo
    go_wp2
    go_ret2
    exact ⟨none, 0, by rw [HE.out.1, HE.out.2]; rfl, by rw [HE.out.2]; exact Rb.nil _ _ _ (Nat.zero_le _) (fun _ => rfl), hbW⟩
  have HE : Hid (wrSE s n = 0 ∧ wrSB s n = stE s n) := ⟨by simp [wrSE, hst], by simp [wrSB, hst]⟩
  obtain ⟨⟨hn1, hn2⟩, hl1, hl2, hr1, hr2, hrg, hrw⟩ := stB_parts hst
  have HRG : Hid (∀ k, k < s.rg.length → ((s.rg.getD k []).length : Int) = n ∧ ∀ j, j < (s.rg.getD k []).length → tfB ((s.rg.getD k []).getD j Te.none) = true) := hrg
  have HRW : Hid (∀ k, k < s.rw.length → (s.rw.getD k []).length = s.rg.length ∧ ∀ j, j < (s.rw.getD k []).length → -32768 ≤ (s.rw.getD k []).getD j 0 ∧ (s.rw.getD k []).getD j 0 ≤ 32767) := hrw
  have HT1 : Hid (∀ k, (rgsE (s.rg.take k)).length ≤ 960) := fun k => Nat.le_trans (rgsE_take_le _ _) hr1
  have HT2 : Hid (∀ k, (rowsE (s.rw.take k)).length ≤ 32000) := fun k => Nat.le_trans (rowsE_take_le _ _) hr2
  simp only [hst] at hfo
  clear hst hrg hrw hr1 hr2
  go_enter Try.func11, Try.ntmps11
  go_wp2_with fail
  rw [← hW]
  clear hW
  refine (hfo _ hg hm).mono ?_
  rintro e u ⟨rfl, hb⟩
  have HG : Hid (Tzz u a ca s.rg) := hg.below hb
  have HM : Hid (Rii u b cb s.rw) := hm.below hb
  have HX1 : Hid (BxS u w.heap.size (.slice a s.rg.length ca) (.slice b s.rw.length cb)) := X1.below hb
  have HBW : Hid (Below w.heap.size w u) := hbW.trans (hb.mono hbW.size)
  have hP0 := ps_newA u (· < u.heap.size) (fun _ h => h)
  have hB0 := bl1 (w := u) (.cells #[.slice none 0 0, .slice none 0 0, .bool false] 77)
  clear hg hm hfo hb X1 hbW
  go_wp2_with fail
  refine (sput16_any u.heap.size _ _ n _ hP0 ⟨by omega, by omega⟩ (by decide)).mono ?_
  rintro e u1 ⟨rfl, hP1, hK1⟩
  rw [show St.zero = ⟨[], [], false⟩ from rfl, put16A (by omega) (by omega), List.nil_append] at hP1
  have hB1 : Below u.heap.size u u1 := hB0.trans (hK1.below (fun k hk => hk))
  clear hP0 hK1 hB0
  obtain ⟨p0, p1, _⟩ := (HX1.out.below hB1).cells
  go_wp2_with fail
  refine (sput16_any u.heap.size _ _ (s.rg.length : Int) _ hP1 ⟨by omega, by omega⟩ (by simp [be2])).mono ?_
  rintro e u2 ⟨rfl, hP2, hK2⟩
  rw [put16A (by omega) (by omega)] at hP2
  have hB2 : Below u.heap.size u u2 := hB1.trans (hK2.below (fun k hk => hk))
  clear hP1 hK2 hB1 p0 p1
  obtain ⟨Q, hQ⟩ : ∃ Q, be2 n ++ be2 ((s.rg.length : Nat) : Int) = Q := ⟨_, rfl⟩
  have HQL : Hid (Q.length = 4) := by show _ = _; rw [← hQ]; rfl
  rw [hQ] at hP2
  have HSTE : Hid (stE s n = Q ++ rgsE s.rg ++ be2 ((s.rw.length : Nat) : Int) ++ rowsE s.rw) := by show _ = _; rw [stE_eq, hQ]
  have hI : Ps u2 u.heap.size (· < u.heap.size) ⟨Q ++ rgsE (s.rg.take 0), [], false⟩ := by
    simpa [rgsE] using hP2
  clear hP2 hQ
  generalize hBB : u.heap.size = B at *
  have HBB : Hid (u.heap.size = B) := hBB
  clear hBB
  obtain ⟨p0, p1, _⟩ := (HX1.out.below (by rw [HBB.out]; exact hB2)).cells
  go_wp2
  clear p0 p1
  go_loopw [7] (fun i wr => ∃ k : Nat, k ≤ s.rg.length ∧ i = .int .i64 k ∧ Ps wr B (· < B) ⟨Q ++ rgsE (s.rg.take k), [], false⟩ ∧ Below B u wr) (fun i _ => s.rg.length - (intOf i).toNat)
  case atStart => exact ⟨0, Nat.zero_le _, rfl, hI, hB2⟩
  case round =>
    obtain ⟨k, hk, rfl, hP, hB⟩ := hrel
    clear hI hB2
    obtain ⟨p0, p1, _⟩ := (HX1.out.below (by rw [HBB.out]; exact hB)).cells
    by_cases hkn : k < s.rg.length
    · obtain ⟨b1, o1, a1, c1, ea, hb1, d0, hp⟩ := HG.out.2.2 k hkn
      have hfl := HRG.out k hkn
      obtain ⟨l, hl⟩ : ∃ l, s.rg.getD k [] = l := ⟨_, rfl⟩
      rw [hl] at d0 hp hfl
      rw [HBB.out] at hb1
      have HPZ : Hid (Tz u a1 c1 l) := hp
      have e1 := hp.lenB
      have e3 := hfl.1
      have HTF : Hid (∀ j, j < l.length → tfB (l.getD j Te.none) = true) := hfl.2
      obtain ⟨b0, hb0⟩ : ∃ b0, Q ++ rgsE (s.rg.take k) = b0 := ⟨_, rfl⟩
      have HLN : Hid (b0.length ≤ 964) := by show b0.length ≤ _; rw [← hb0, List.length_append, HQL.out]; have := HT1.out k; omega
      have HSU : Hid (Q ++ rgsE (s.rg.take (k + 1)) = b0 ++ tesE l) := by show _ = _; rw [rgs_succ hkn hl, hb0]
      rw [hb0] at hP
      have HD0 : Hid (∀ V, Below B u V → V.cell? ⟨b1, o1 + k, none⟩ = some (.slice a1 l.length c1)) := fun V hV => (hV.cell (p := ⟨b1, o1 + k, none⟩) hb1).trans d0
      have HXA : Hid (∀ V, Below B u V → BxS V w.heap.size (.slice a s.rg.length ca) (.slice b s.rw.length cb)) := fun V hV => HX1.out.below (by rw [HBB.out]; exact hV)
      have d0' := HD0.out wr hB
      subst ea
      have hI2 : Ps wr B (· < B) ⟨b0 ++ tesE (l.take 0), [], false⟩ := by simpa [tesE] using hP
      clear hl hp hfl hb0 d0 hP
      go_wp2
      clear d0' p0 p1
      go_loopw [8] (fun i wr2 => ∃ j : Nat, j ≤ l.length ∧ i = .int .i64 j ∧ Ps wr2 B (· < B) ⟨b0 ++ tesE (l.take j), [], false⟩ ∧ Below B u wr2) (fun i _ => l.length - (intOf i).toNat)
      case atStart => exact ⟨0, Nat.zero_le _, rfl, hI2, hB⟩
      case round =>
        clear hI2 hB
        obtain ⟨j, hj, rfl, hP, hB⟩ := hrel
        by_cases hjn : j < l.length
        · obtain ⟨b9, o9, ea, hb9, d0, d1, d2⟩ := HPZ.out.2.2.2.2 j hjn
          have htf := tf_in (HTF.out j hjn)
          obtain ⟨t, ht⟩ : ∃ t, l.getD j Te.none = t := ⟨_, rfl⟩
          rw [ht] at d0 d1 d2 htf
          rw [HBB.out] at hb9
          have HSJ : Hid (b0 ++ tesE (l.take (j + 1)) = b0 ++ tesE (l.take j) ++ be2 t.st ++ be2 t.pk ++ be2 t.en) := tes_succ hjn ht b0
          have HLJ : Hid ((b0 ++ tesE (l.take j)).length ≤ 1000) := by show _ ≤ _; rw [List.length_append]; have := HLN.out; have := tes_take_len l j; omega
          obtain ⟨b2, hb2⟩ : ∃ b2, b0 ++ tesE (l.take j) = b2 := ⟨_, rfl⟩
          rw [hb2] at hP HSJ HLJ
          obtain ⟨tst, tpk, ten⟩ := t
          dsimp only at d0 d1 d2 htf HSJ
          have HAT : Hid (∀ V, Below B u V → V.cell? ⟨b9, o9 + j * 3, none⟩ = some (.int .i64 tst) ∧ V.cell? ⟨b9, o9 + j * 3 + 1, none⟩ = some (.int .i64 tpk) ∧ V.cell? ⟨b9, o9 + j * 3 + 2, none⟩ = some (.int .i64 ten)) := fun V hV => ⟨(hV.cell (p := ⟨b9, o9 + j * 3, none⟩) hb9).trans d0, (hV.cell (p := ⟨b9, o9 + j * 3 + 1, none⟩) hb9).trans d1, (hV.cell (p := ⟨b9, o9 + j * 3 + 2, none⟩) hb9).trans d2⟩
          subst ea
          clear ht hb2 d0 d1 d2
          have hlt2 : (j : Int) < n := by omega
          have i1 : (0 : Int) ≤ (k : Int) := by omega
          have i2 : (k : Int) < (s.rg.length : Int) := by omega
          obtain ⟨d0, d1, d2⟩ := HAT.out wr hB
          have q0 := HD0.out wr hB
          obtain ⟨p0, p1, _⟩ := (HXA.out wr hB).cells
          go_wp2_with fail
          refine (sput16_any B _ _ tst _ hP ⟨by omega, by omega⟩ (by have := HLJ.out; show b2.length + 4 ≤ _; omega)).mono ?_
          rintro e v2 ⟨rfl, hP2, hK2⟩
          rw [put16A (by omega) (by omega)] at hP2
          have hB2 := hB.trans (hK2.below (fun k hk => hk))
          clear hP hK2 hB d0 d1 d2 q0 p0 p1
          obtain ⟨d0, d1, d2⟩ := HAT.out v2 hB2
          have q0 := HD0.out v2 hB2
          obtain ⟨p0, p1, _⟩ := (HXA.out v2 hB2).cells
          go_wp2_with fail
          refine (sput16_any B _ _ tpk _ hP2 ⟨by omega, by omega⟩ (by have := HLJ.out; simp [be2]; omega)).mono ?_
          rintro e v3 ⟨rfl, hP3, hK3⟩
          rw [put16A (by omega) (by omega)] at hP3
          have hB3 := hB2.trans (hK3.below (fun k hk => hk))
          clear hP2 hK3 hB2 d0 d1 d2 q0 p0 p1
          obtain ⟨d0, d1, d2⟩ := HAT.out v3 hB3
          have q0 := HD0.out v3 hB3
          obtain ⟨p0, p1, _⟩ := (HXA.out v3 hB3).cells
          go_wp2_with fail
          refine (sput16_any B _ _ ten _ hP3 ⟨by omega, by omega⟩ (by have := HLJ.out; simp [be2]; omega)).mono ?_
          rintro e v4 ⟨rfl, hP4, hK4⟩
          rw [put16A (by omega) (by omega), ← HSJ.out] at hP4
          have hB4 := hB3.trans (hK4.below (fun k hk => hk))
          clear hP3 hK4 hB3 d0 d1 d2 q0 p0 p1
          have hP6 := hP4
          go_wp2
          go_roundw
          case rel => exact ⟨j + 1, by omega, by go_num, hP6, hB4⟩
          case measure => simp [intOf]; omega
        · have hje : j = l.length := by omega
          have hP6 : Ps wr B (· < B) ⟨Q ++ rgsE (s.rg.take (k + 1)), [], false⟩ := by rw [HSU.out]; rw [hje, List.take_length] at hP; exact hP
          have g3 : ¬ (j : Int) < n := by omega
          clear hje hP
          go_wp2
          go_roundw
          case rel => exact ⟨k + 1, by omega, by go_num, hP6, hB⟩
          case measure => simp [intOf]; omega
    · obtain rfl : k = s.rg.length := by omega
      rw [List.take_length] at hP
      have HLQ : Hid ((Q ++ rgsE s.rg).length ≤ 964) := by show _ ≤ _; rw [List.length_append, HQL.out]; have := HT1.out s.rg.length; rw [List.take_length] at this; omega
      obtain ⟨Q2, hQ2⟩ : ∃ Q2, Q ++ rgsE s.rg = Q2 := ⟨_, rfl⟩
      rw [hQ2] at hP HSTE HLQ
      clear hQ2
      go_wp2_with fail
      refine (sput16_any B _ _ (s.rw.length : Int) _ hP ⟨by omega, by omega⟩ (by have := HLQ.out; show Q2.length + 4 ≤ _; omega)).mono ?_
      rintro e u3 ⟨rfl, hP3, hK3⟩
      rw [put16A (by omega) (by omega)] at hP3
      have hB3 : Below B u u3 := hB.trans (hK3.below (fun k hk => hk))
      clear hP hK3 hB p0 p1
      obtain ⟨Q3, hQ3⟩ : ∃ Q3, Q2 ++ be2 ((s.rw.length : Nat) : Int) = Q3 := ⟨_, rfl⟩
      rw [hQ3] at hP3 HSTE
      have HLQ3 : Hid (Q3.length ≤ 966) := by show _ ≤ _; rw [← hQ3, List.length_append, be2L]; have := HLQ.out; omega
      have hI : Ps u3 B (· < B) ⟨Q3 ++ rowsE (s.rw.take 0), [], false⟩ := by simpa [rowsE] using hP3
      clear hP3 hQ3
      obtain ⟨p0, p1, _⟩ := (HX1.out.below (by rw [HBB.out]; exact hB3)).cells
      go_wp2
      clear p0 p1
      go_loopw [9] (fun i wr => ∃ k : Nat, k ≤ s.rw.length ∧ i = .int .i64 k ∧ Ps wr B (· < B) ⟨Q3 ++ rowsE (s.rw.take k), [], false⟩ ∧ Below B u wr) (fun i _ => s.rw.length - (intOf i).toNat)
      case atStart => exact ⟨0, Nat.zero_le _, rfl, hI, hB3⟩
      case round =>
        clear hI hB3 hk hkn
        obtain ⟨k, hk, rfl, hP, hB⟩ := hrel
        obtain ⟨p0, p1, _⟩ := (HX1.out.below (by rw [HBB.out]; exact hB)).cells
        by_cases hkn : k < s.rw.length
        · obtain ⟨b1, o1, a1, c1, ea, hb1, d0, hp⟩ := HM.out.2.2 k hkn
          have hfl := HRW.out k hkn
          obtain ⟨r, hr⟩ : ∃ r, s.rw.getD k [] = r := ⟨_, rfl⟩
          rw [hr] at d0 hp hfl
          rw [HBB.out] at hb1
          have HPZ : Hid (Ri u a1 c1 r) := hp
          have e1 := hp.lenB
          have e3 := hfl.1
          have HTF : Hid (∀ j, j < r.length → -32768 ≤ r.getD j 0 ∧ r.getD j 0 ≤ 32767) := hfl.2
          obtain ⟨b0, hb0⟩ : ∃ b0, Q3 ++ rowsE (s.rw.take k) = b0 := ⟨_, rfl⟩
          have HLN : Hid (b0.length ≤ 33000) := by show b0.length ≤ _; rw [← hb0, List.length_append]; have := HLQ3.out; have := HT2.out k; omega
          have HSU : Hid (Q3 ++ rowsE (s.rw.take (k + 1)) = b0 ++ numE r) := by show _ = _; rw [rows_succ hkn hr, hb0]
          rw [hb0] at hP
          have HD0 : Hid (∀ V, Below B u V → V.cell? ⟨b1, o1 + k, none⟩ = some (.slice a1 r.length c1)) := fun V hV => (hV.cell (p := ⟨b1, o1 + k, none⟩) hb1).trans d0
          have HXA : Hid (∀ V, Below B u V → BxS V w.heap.size (.slice a s.rg.length ca) (.slice b s.rw.length cb)) := fun V hV => HX1.out.below (by rw [HBB.out]; exact hV)
          have d0' := HD0.out wr hB
          subst ea
          have hI2 : Ps wr B (· < B) ⟨b0 ++ numE (r.take 0), [], false⟩ := by simpa [numE] using hP
          clear hr hp hfl hb0 d0 hP
          go_wp2
          clear d0' p0 p1
          go_loopw [10] (fun i wr2 => ∃ j : Nat, j ≤ r.length ∧ i = .int .i64 j ∧ Ps wr2 B (· < B) ⟨b0 ++ numE (r.take j), [], false⟩ ∧ Below B u wr2) (fun i _ => r.length - (intOf i).toNat)
          case atStart => exact ⟨0, Nat.zero_le _, rfl, hI2, hB⟩
          case round =>
            clear hI2 hB
            obtain ⟨j, hj, rfl, hP, hB⟩ := hrel
            obtain ⟨p0, p1, _⟩ := (HXA.out wr hB).cells
            have q0 := HD0.out wr hB
            by_cases hjn : j < r.length
            · obtain ⟨b9, o9, ea, hb9, d0⟩ := HPZ.out.at (by rw [HBB.out]; exact hB) j hjn
              have htf := HTF.out j hjn
              obtain ⟨z, hz⟩ : ∃ z, r.getD j 0 = z := ⟨_, rfl⟩
              rw [hz] at d0 htf
              have HSJ : Hid (b0 ++ numE (r.take (j + 1)) = b0 ++ numE (r.take j) ++ be2 z) := num_succ hjn hz b0
              have HLJ : Hid ((b0 ++ numE (r.take j)).length ≤ 34000) := by show _ ≤ _; rw [List.length_append]; have := HLN.out; have := num_take_len r j; omega
              obtain ⟨b2, hb2⟩ : ∃ b2, b0 ++ numE (r.take j) = b2 := ⟨_, rfl⟩
              rw [hb2] at hP HSJ HLJ
              subst ea
              have i1 : (0 : Int) ≤ (k : Int) := by omega
              have i2 : (k : Int) < (s.rw.length : Int) := by omega
              have hlt2 : (j : Int) < (s.rg.length : Int) := by omega
              clear hz hb2
              go_wp2_with fail
              refine (sput16_any B _ _ z _ hP ⟨by omega, by omega⟩ (by have := HLJ.out; show b2.length + 4 ≤ _; omega)).mono ?_
              rintro e v2 ⟨rfl, hP2, hK2⟩
              rw [put16A (by omega) (by omega), ← HSJ.out] at hP2
              have hB2 := hB.trans (hK2.below (fun k hk => hk))
              clear hP hK2 hB d0 p0 p1 q0
              go_wp2
              go_roundw
              case rel => exact ⟨j + 1, by omega, by go_num, hP2, hB2⟩
              case measure => simp [intOf]; omega
            · have hje : j = r.length := by omega
              have hP6 : Ps wr B (· < B) ⟨Q3 ++ rowsE (s.rw.take (k + 1)), [], false⟩ := by rw [HSU.out]; rw [hje, List.take_length] at hP; exact hP
              have g3 : ¬ (j : Int) < (s.rg.length : Int) := by omega
              clear hje hP
              go_wp2
              go_roundw
              case rel => exact ⟨k + 1, by omega, by go_num, hP6, hB⟩
              case measure => simp [intOf]; omega
        · obtain rfl : k = s.rw.length := by omega
          rw [List.take_length, ← HSTE.out] at hP
          have hl := HT2.out s.rw.length
          rw [List.take_length] at hl
          have HLE : Hid ((stE s n).length ≤ 33000) := by show _ ≤ _; rw [HSTE.out, List.length_append]; have := HLQ3.out; omega
          have hall := sall_any B _ _ _ hP (Nat.le_trans HLE.out (by decide))
          have ea : allB ⟨stE s n, [], false⟩ = stE s n := by simp [allB]
          have eb : allE ⟨stE s n, [], false⟩ = 0 := rfl
          rw [ea, eb] at hall
          have hbw := HBW.out.size
          rw [HBB.out] at hbw
          have hBw : Below w.heap.size w wr := HBW.out.trans (hB.mono hbw)
          clear hP ea eb hl
          generalize stE s n = fl at *
          go_wp2_with fail
          refine hall.mono ?_
          rintro e u9 ⟨a9, c9, rfl, hr9, hb9⟩
          have hB9 := hBw.trans (hb9.mono hBw.size)
          clear hall
          go_wp2
          go_ret2
          exact ⟨a9, c9, by rw [HE.out.1, HE.out.2]; rfl, by rw [HE.out.2]; exact hr9.rd, hB9⟩

end Go.Proofs.Ytjefaccpmoignaa
