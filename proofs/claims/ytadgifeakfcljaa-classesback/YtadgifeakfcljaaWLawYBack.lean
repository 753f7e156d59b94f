/-
  foundrylaw19.ClassesBack: the walk.
-/
import Derived.Test.YtadgifeakfcljaaZ3
import Derived.Test.YtadgifeakfcljaaZ4
namespace Go.Proofs.Ytadgifeakfcljaa
open Go.RowKit Go.Maps
set_option linter.unusedSimpArgs false
set_option linter.unusedVariables false

theorem three_cY {n b p q g j : Nat} {w U : World} {v0 v1 v2 : Value} (hb : Below n w U) (hlt : b < n) (hg : g < n) (hC : w.cell? ⟨b, p, none⟩ = some v0 ∧ w.cell? ⟨b, q, none⟩ = some v1 ∧ w.cell? ⟨g, j, none⟩ = some v2) : U.cell? ⟨b, p, none⟩ = some v0 ∧ U.cell? ⟨b, q, none⟩ = some v1 ∧ U.cell? ⟨g, j, none⟩ = some v2 :=
  ⟨(hb.cell (p := ⟨b, p, none⟩) hlt).trans hC.1, (hb.cell (p := ⟨b, q, none⟩) hlt).trans hC.2.1, (hb.cell (p := ⟨g, j, none⟩) hg).trans hC.2.2⟩

set_option maxHeartbeats 8000000 in
set_option maxRecDepth 100000 in
theorem classesBack_any (S : Nat → Prop) (a : Option Addr) (ca : Nat) (L : List Int) (b : Option Addr) (cb : Nat) (ms : List Bool) (i : Int) (w : World) (hL : Ri w a ca L) (hm : Gr El.bool S w b cb ms) (hi : I64 i) :
    Calls Try.prog 7 #[.agg #[.slice a L.length ca, .slice b ms.length cb], .int .i64 i] w fun e w' => e = .returned (.bool true) ∧ Below w.heap.size w w' := by
  have k1 := hL.lenB
  have k2 := hm.lenB
  obtain ⟨W0, hW0, X1, hbW⟩ : ∃ W0, W0 = w.alloc (.cells #[.slice a L.length ca, .slice b ms.length cb] 25) ∧ Bk 25 W0 w.heap.size [.slice a L.length ca, .slice b ms.length cb] ∧ Below w.heap.size w W0 := ⟨_, rfl, Bk.new _ _ _, bl1 _⟩
  obtain ⟨x0, x1, -⟩ := X1.two
  have HL : Hid (∀ U, Below w.heap.size w U → Ri U a ca L) := fun U hU => hL.below hU
  have HM : Hid (∀ U, Below w.heap.size w U → Gr El.bool S U b cb ms) := fun U hU => hm.below hU
  have HCL : Hid (∀ U, Below w.heap.size w U → ∀ j, j < L.length → ∃ b0 off, a = some ⟨b0, off, none⟩ ∧ b0 < w.heap.size ∧ U.cell? ⟨b0, off + j, none⟩ = some (.int .i64 (L.getD j 0))) := fun U hU j hj => hL.at hU j hj
  have HLI : Hid (∀ j, j < L.length → I64 (L.getD j 0)) := fun j hj => hL.i64 hj
  have HI : Hid (I64 i) := hi
  obtain ⟨hi1, hi2⟩ := hi
  clear hL hm
  go_enter Try.func7, Try.ntmps7
  go_upto_region 1 with fail
  rw [← hW0]
  clear hW0
  go_wp2_with fail
  refine (awake19_any _).mono ?_
  rintro e y1 ⟨rfl, hb1⟩
  replace hbW := hbW.trans (hb1.mono hbW.size)
  replace X1 := X1.below hb1
  clear hb1 x0 x1
  obtain ⟨x0, x1, -⟩ := X1.two
  have hfe := few19_any a ca L b cb ms y1 k1 k2
  cases hf : feB L ms with
  | false =>
    rw [hf] at hfe
    clear hf
    go_wp2_with fail
    refine hfe.mono ?_
    rintro e y2 ⟨rfl, hb2⟩
    replace hbW := hbW.trans (hb2.mono hbW.size)
    clear hfe hb2 x0 x1 X1
    go_wp2_with fail
    refine (awake19_any _).mono ?_
    rintro e y3 ⟨rfl, hb3⟩
    have hfin := hbW.trans (hb3.mono hbW.size)
    clear hb3
    go_wp2
    go_ret
    exact ⟨rfl, hfin⟩
  | true =>
  rw [hf] at hfe
  clear hf
  go_wp2_with fail
  refine hfe.mono ?_
  rintro e y2 ⟨rfl, hb2⟩
  replace hbW := hbW.trans (hb2.mono hbW.size)
  replace X1 := X1.below hb2
  clear hfe hb2 x0 x1
  obtain ⟨x0, x1, -⟩ := X1.two
  by_cases hn1 : i < 0
  · have d1 : decide (i < 0) = true := decide_eq_true hn1
    clear hn1 X1
    go_wp2_with fail
    refine (awake19_any _).mono ?_
    rintro e y3 ⟨rfl, hb3⟩
    have hfin := hbW.trans (hb3.mono hbW.size)
    clear hb3
    go_wp2
    go_ret
    exact ⟨rfl, hfin⟩
  have d1 : decide (i < 0) = false := decide_eq_false hn1
  by_cases hn2 : (L.length : Int) ≤ i
  · have d2 : decide ((L.length : Int) ≤ i) = true := decide_eq_true hn2
    clear hn1 hn2 X1
    go_wp2_with fail
    refine (awake19_any _).mono ?_
    rintro e y3 ⟨rfl, hb3⟩
    have hfin := hbW.trans (hb3.mono hbW.size)
    clear hb3
    go_wp2
    go_ret
    exact ⟨rfl, hfin⟩
  obtain ⟨k, rfl⟩ : ∃ k : Nat, i = (k : Int) := ⟨i.toNat, by omega⟩
  have hk : k < L.length := by omega
  have d2 : decide ((L.length : Int) ≤ (k : Int)) = false := decide_eq_false hn2
  have d2n : decide (L.length ≤ k) = false := decide_eq_false (by omega)
  have HIS : Hid (_) := nxQ_is (ms := ms) (sk := true) hk
  have hnx := cnext_any S a ca L b cb ms (k : Int) true y2 (HL.out _ hbW) (HM.out _ hbW) HI.out
  obtain ⟨z, hz⟩ : ∃ z, nxQ ms L true (k : Int) = z := ⟨_, rfl⟩
  rw [hz] at hnx HIS
  clear hz hn1 hn2
  go_wp2_with fail
  refine hnx.mono ?_
  rintro e y3 ⟨rfl, hb3⟩
  replace hbW := hbW.trans (hb3.mono hbW.size)
  replace X1 := X1.below hb3
  clear hnx hb3 x0 x1 d1 d2 d2n
  have hxl := X1.lt
  obtain ⟨x0, x1, -⟩ := X1.two
  obtain ⟨b0, off, rfl, hb0, -⟩ := HCL.out _ hbW k hk
  have HB3 : Hid (Below w.heap.size w y3) := hbW
  rcases HIS.out with ⟨rfl, hall⟩ | ⟨m, rfl, hkm, hmL, hpm, hall⟩
  · have HALL : Hid (∀ j, k < j → j < L.length → mkB ms (L.getD j 0) = true) := fun j h1 h2 => by rw [← psB_yes (ms := ms) (L := L) (i := j) rfl]; exact hall j h1 h2
    have HX : Hid (Bk 25 y3 w.heap.size [.slice (some ⟨b0, off, none⟩) L.length ca, .slice b ms.length cb]) := X1
    clear hall HIS X1 hbW
    go_wp2
    clear x0 x1
    go_loopw [6] (fun v wr => ∃ (j : Nat), j ≤ L.length ∧ k < j ∧ v = .int .i64 j ∧ Below y3.heap.size y3 wr) (fun v _ => L.length - (intOf v).toNat)
    case atStart => exact ⟨k + 1, by omega, by omega, by go_num, Below.refl _ _⟩
    case round =>
      obtain ⟨j, hj, hkj, rfl, hB⟩ := hrel
      obtain ⟨x0, x1, -⟩ := (HX.out.below hB).two
      have hBW := HB3.out.trans (hB.mono HB3.out.size)
      by_cases hjn : j < L.length
      · obtain ⟨b9, o9, e9, -, c0⟩ := HCL.out _ hBW j hjn
        cases e9
        have HMK : Hid (_) := HALL.out j hkj hjn
        have HGI : Hid (_) := HLI.out j hjn
        obtain ⟨g, hg⟩ : ∃ g, L.getD j 0 = g := ⟨_, rfl⟩
        rw [hg] at c0 HMK HGI
        have HCM : Hid (∀ U, Below w.heap.size w U → Calls Try.prog 14 #[.slice b ms.length cb, .int .i64 g] U fun e w' => e = .returned (.bool true) ∧ Below U.heap.size U w') := fun U hU => by
          have := cmark_any S b cb ms g U (HM.out U hU) HGI.out
          rw [HMK.out] at this
          exact this
        have HC0 : Hid (_) := And.intro x0 (And.intro x1 c0)
        have HBX : Hid (Below w.heap.size w wr) := hBW
        have i1 : (0 : Int) ≤ (j : Int) := by omega
        have i2 : (j : Int) < (L.length : Int) := by omega
        have hxr : w.heap.size < wr.heap.size := Nat.lt_of_lt_of_le hxl hB.size
        have hbr : b0 < wr.heap.size := Nat.lt_of_lt_of_le hb0 HBX.out.size
        clear hg HMK hBW
        go_upto_region 8 with fail
        refine wp_region_held_drew (S := fun w9 => w9.cell? ⟨w.heap.size, 0, none⟩ = some (.slice (some ⟨b0, off, none⟩) L.length ca) ∧ w9.cell? ⟨w.heap.size, 1, none⟩ = some (.slice b ms.length cb) ∧ w9.cell? ⟨b0, off + j, none⟩ = some (.int .i64 g)) (by kernel_rfl) ?_ (fun hHeld => ?_)
        · (try dsimp only)
          go_keep
        have hdr : Below wr.heap.size wr wr.drew := (Below.refl _ _).drew
        generalize wr.drew = Z at hdr hHeld ⊢
        clear x0 x1 c0
        refine hT 0 hHeld ?_
        refine hT 1 hHeld ?_
        refine hT 2 hHeld ?_
        refine hT 3 hHeld ?_
        refine hT 4 hHeld ?_
        refine hT 5 hHeld ?_
        refine hT 6 hHeld ?_
        refine hCall (i := 7) rfl (by kernel_rfl) (by rfl) (fun K hK => ?_)
        go_simp
        refine (HCM.out _ (HBX.out.trans (hdr.mono HBX.out.size))).mono ?_
        rintro e v7 ⟨rfl, hb7⟩
        replace hdr := hdr.trans (hb7.mono hdr.size)
        clear hb7
        go_wp2_with fail
        refine hK.out _ _ ?_ (fun hHeld => ?_)
        · (try dsimp only)
          exact three_cY hdr hxr hbr HC0.out
        clear hK K
        try simp only [Act.put, List.setIfInBounds_toArray, List.set_cons_zero, List.set_cons_succ]
        refine hT 8 hHeld ?_
        refine wpAnyH_done (by kernel_rfl) ?_ _
        have hB9 := hB.trans (hdr.mono hB.size)
        clear hHeld HC0 hdr hB HCM HBX
        go_wp2
        go_roundw
        case rel => exact ⟨j + 1, by omega, by omega, by go_num, hB9⟩
        case measure => simp [intOf]; omega
      · have g4 : ¬ (j : Int) < (L.length : Int) := by omega
        go_wp2
        go_ret
        exact ⟨rfl, hBW⟩
  · have HMF : Hid (mkB ms (L.getD m 0) = false) := by show _ = _; rw [← psB_yes (ms := ms) (L := L) (i := m) rfl]; exact hpm
    have HBK : Hid (mkB ms (L.getD k 0) = false → bkQ ms L (m : Int) = (k : Int)) := fun h => by
      rw [bkQ_yes hmL]
      exact bk_next m hkm h (fun j h1 h2 => by rw [← psB_yes (ms := ms) (L := L) (i := j) rfl]; exact hall j h1 h2)
    obtain ⟨b9, o9, e9, -, c0⟩ := HCL.out _ hbW m hmL
    cases e9
    have HGI : Hid (_) := HLI.out m hmL
    obtain ⟨g, hg⟩ : ∃ g, L.getD m 0 = g := ⟨_, rfl⟩
    rw [hg] at c0 HMF HGI
    have HCM : Hid (∀ U, Below w.heap.size w U → Calls Try.prog 14 #[.slice b ms.length cb, .int .i64 g] U fun e w' => e = .returned (.bool false) ∧ Below U.heap.size U w') := fun U hU => by
      have := cmark_any S b cb ms g U (HM.out U hU) HGI.out
      rw [HMF.out] at this
      exact this
    have HC0 : Hid (_) := And.intro x0 (And.intro x1 c0)
    have n1 : ¬ (m : Int) = -1 := by omega
    have d3 : decide ((m : Int) ≤ (k : Int)) = false := decide_eq_false (by omega)
    have d3n : decide (m ≤ k) = false := decide_eq_false (by omega)
    have d4 : decide ((L.length : Int) ≤ (m : Int)) = false := decide_eq_false (by omega)
    have d4n : decide (L.length ≤ m) = false := decide_eq_false (by omega)
    have i1 : (0 : Int) ≤ (m : Int) := by omega
    have i2 : (m : Int) < (L.length : Int) := by omega
    have i3 : (0 : Int) ≤ (k : Int) := by omega
    have i4 : (k : Int) < (L.length : Int) := by omega
    have hxr : w.heap.size < y3.heap.size := hxl
    have hbr : b0 < y3.heap.size := Nat.lt_of_lt_of_le hb0 HB3.out.size
    clear hg HMF hall HIS hpm hbW
    go_upto_region 11 with fail
    refine wp_region_held_drew (S := fun w9 => w9.cell? ⟨w.heap.size, 0, none⟩ = some (.slice (some ⟨b0, off, none⟩) L.length ca) ∧ w9.cell? ⟨w.heap.size, 1, none⟩ = some (.slice b ms.length cb) ∧ w9.cell? ⟨b0, off + m, none⟩ = some (.int .i64 g)) (by kernel_rfl) ?_ (fun hHeld => ?_)
    · (try dsimp only)
      go_keep
    have hdr : Below y3.heap.size y3 y3.drew := (Below.refl _ _).drew
    generalize y3.drew = Z at hdr hHeld ⊢
    clear x0 x1 c0
    refine hT 0 hHeld ?_
    refine hT 1 hHeld ?_
    refine hT 2 hHeld ?_
    refine hT 3 hHeld ?_
    refine hT 4 hHeld ?_
    refine hT 5 hHeld ?_
    refine hT 6 hHeld ?_
    refine hT 7 hHeld ?_
    refine hT 8 hHeld ?_
    refine hT 9 hHeld ?_
    refine hT 10 hHeld ?_
    refine hT 11 hHeld ?_
    refine hT 12 hHeld ?_
    refine hT 13 hHeld ?_
    refine hT 14 hHeld ?_
    refine hT 15 hHeld ?_
    refine hT 16 hHeld ?_
    refine hT 17 hHeld ?_
    refine hCall (i := 18) rfl (by kernel_rfl) (by rfl) (fun K hK => ?_)
    go_simp
    refine (HCM.out _ (HB3.out.trans (hdr.mono HB3.out.size))).mono ?_
    rintro e v18 ⟨rfl, hb18⟩
    replace hdr := hdr.trans (hb18.mono hdr.size)
    clear hb18
    go_wp2_with fail
    refine hK.out _ _ ?_ (fun hHeld => ?_)
    · (try dsimp only)
      exact three_cY hdr hxr hbr HC0.out
    clear hK K
    try simp only [Act.put, List.setIfInBounds_toArray, List.set_cons_zero, List.set_cons_succ]
    refine hT 19 hHeld ?_
    refine wpAnyH_done (by kernel_rfl) ?_ _
    have hBZ := HB3.out.trans (hdr.mono HB3.out.size)
    rename World => y4
    have XZ := X1.below hdr
    clear hHeld HC0 hdr HCM HGI
    obtain ⟨x0, x1, -⟩ := XZ.two
    obtain ⟨b9, o9, e9, -, c0⟩ := HCL.out _ hBZ k hk
    cases e9
    have HGI : Hid (_) := HLI.out k hk
    obtain ⟨g2, hg⟩ : ∃ g, L.getD k 0 = g := ⟨_, rfl⟩
    rw [hg] at c0 HBK HGI
    obtain ⟨q, hq⟩ : ∃ q, mkB ms g2 = q := ⟨_, rfl⟩
    have HCM : Hid (∀ U, Below w.heap.size w U → Calls Try.prog 14 #[.slice b ms.length cb, .int .i64 g2] U fun e w' => e = .returned (.bool q) ∧ Below U.heap.size U w') := fun U hU => by
      have := cmark_any S b cb ms g2 U (HM.out U hU) HGI.out
      rw [hq] at this
      exact this
    rw [hq] at HBK
    have HCB : Hid (q = false → ∀ U, Below w.heap.size w U → Calls Try.prog 12 #[.slice (some ⟨b0, off, none⟩) L.length ca, .slice b ms.length cb, .int .i64 (m : Int)] U fun e w' => e = .returned (.int .i64 (k : Int)) ∧ Below U.heap.size U w') := fun h U hU => by
      have := cback_any S (some ⟨b0, off, none⟩) ca L b cb ms (m : Int) U (HL.out U hU) (HM.out U hU) ⟨by omega, by omega⟩
      rw [HBK.out h] at this
      exact this
    have HC0 : Hid (_) := And.intro x0 (And.intro x1 c0)
    have HB4 : Hid (Below w.heap.size w y4) := hBZ
    have hxr4 := XZ.lt
    have hbr4 : b0 < y4.heap.size := Nat.lt_of_lt_of_le hb0 hBZ.size
    have e1 : ((k : Int) == (k : Int)) = true := by simp
    clear hg hq hBZ XZ X1 HBK hxr hbr
    cases q with
    | true =>
      go_upto_region 13 with fail
      refine wp_region_held_drew (S := fun w9 => w9.cell? ⟨w.heap.size, 0, none⟩ = some (.slice (some ⟨b0, off, none⟩) L.length ca) ∧ w9.cell? ⟨w.heap.size, 1, none⟩ = some (.slice b ms.length cb) ∧ w9.cell? ⟨b0, off + k, none⟩ = some (.int .i64 g2)) (by kernel_rfl) ?_ (fun hHeld => ?_)
      · (try dsimp only)
        go_keep
      have hdr : Below y4.heap.size y4 y4.drew := (Below.refl _ _).drew
      generalize y4.drew = Z at hdr hHeld ⊢
      clear x0 x1 c0
      refine hT 0 hHeld ?_
      refine hT 1 hHeld ?_
      refine hT 2 hHeld ?_
      refine hT 3 hHeld ?_
      refine hT 4 hHeld ?_
      refine hT 5 hHeld ?_
      refine hT 6 hHeld ?_
      refine hCall (i := 7) rfl (by kernel_rfl) (by rfl) (fun K hK => ?_)
      go_simp
      refine (HCM.out _ (HB4.out.trans (hdr.mono HB4.out.size))).mono ?_
      rintro e v7 ⟨rfl, hb7⟩
      replace hdr := hdr.trans (hb7.mono hdr.size)
      clear hb7
      go_wp2_with fail
      refine hK.out _ _ ?_ (fun hHeld => ?_)
      · (try dsimp only)
        exact three_cY hdr hxr4 hbr4 HC0.out
      clear hK K
      try simp only [Act.put, List.setIfInBounds_toArray, List.set_cons_zero, List.set_cons_succ]
      refine hT 8 hHeld ?_
      refine hN 9 hHeld ?_
      refine hN 10 hHeld ?_
      refine hN 11 hHeld ?_
      refine hN 12 hHeld ?_
      refine hN 13 hHeld ?_
      refine hN 14 hHeld ?_
      refine hN 15 hHeld ?_
      refine hN 16 hHeld ?_
      refine hT 17 hHeld ?_
      refine hT 18 hHeld ?_
      refine wpAnyH_done (by kernel_rfl) ?_ _
      have hfin := HB4.out.trans (hdr.mono HB4.out.size)
      clear hHeld HC0 hdr
      go_wp2
      go_ret
      exact ⟨rfl, hfin⟩
    | false =>
      go_upto_region 13 with fail
      refine wp_region_held_drew (S := fun w9 => w9.cell? ⟨w.heap.size, 0, none⟩ = some (.slice (some ⟨b0, off, none⟩) L.length ca) ∧ w9.cell? ⟨w.heap.size, 1, none⟩ = some (.slice b ms.length cb) ∧ w9.cell? ⟨b0, off + k, none⟩ = some (.int .i64 g2)) (by kernel_rfl) ?_ (fun hHeld => ?_)
      · (try dsimp only)
        go_keep
      have hdr : Below y4.heap.size y4 y4.drew := (Below.refl _ _).drew
      generalize y4.drew = Z at hdr hHeld ⊢
      clear x0 x1 c0
      refine hT 0 hHeld ?_
      refine hT 1 hHeld ?_
      refine hT 2 hHeld ?_
      refine hT 3 hHeld ?_
      refine hT 4 hHeld ?_
      refine hT 5 hHeld ?_
      refine hT 6 hHeld ?_
      refine hCall (i := 7) rfl (by kernel_rfl) (by rfl) (fun K hK => ?_)
      go_simp
      refine (HCM.out _ (HB4.out.trans (hdr.mono HB4.out.size))).mono ?_
      rintro e v7 ⟨rfl, hb7⟩
      replace hdr := hdr.trans (hb7.mono hdr.size)
      clear hb7
      go_wp2_with fail
      refine hK.out _ _ ?_ (fun hHeld => ?_)
      · (try dsimp only)
        exact three_cY hdr hxr4 hbr4 HC0.out
      clear hK K
      try simp only [Act.put, List.setIfInBounds_toArray, List.set_cons_zero, List.set_cons_succ]
      refine hT 8 hHeld ?_
      refine hT 9 hHeld ?_
      refine hT 10 hHeld ?_
      refine hT 11 hHeld ?_
      refine hT 12 hHeld ?_
      refine hT 13 hHeld ?_
      refine hT 15 hHeld ?_
      refine hCall (i := 14) rfl (by kernel_rfl) (by rfl) (fun K hK => ?_)
      go_simp
      refine (HCB.out (by simp) _ (HB4.out.trans (hdr.mono HB4.out.size))).mono ?_
      rintro e v14 ⟨rfl, hb14⟩
      replace hdr := hdr.trans (hb14.mono hdr.size)
      clear hb14
      go_wp2_with fail
      refine hK.out _ _ ?_ (fun hHeld => ?_)
      · (try dsimp only)
        exact three_cY hdr hxr4 hbr4 HC0.out
      clear hK K
      try simp only [Act.put, List.setIfInBounds_toArray, List.set_cons_zero, List.set_cons_succ]
      refine hT 16 hHeld ?_
      refine hT 17 hHeld ?_
      refine hT 18 hHeld ?_
      refine wpAnyH_done (by kernel_rfl) ?_ _
      have hfin := HB4.out.trans (hdr.mono HB4.out.size)
      clear hHeld HC0 hdr
      go_wp2
      go_ret
      exact ⟨rfl, hfin⟩

end Go.Proofs.Ytadgifeakfcljaa
