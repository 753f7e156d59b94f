/-
  foundrylaw20.SubstLengths: the walk.
-/
import Derived.Test.YtechkkefpigcaaaDoorZM9
import Derived.Test.YtechkkefpigcaaaDoorZM8
namespace Go.Proofs.YtechkkefpigcaaaDoor
open Go.RowKit Go.Maps
set_option linter.unusedSimpArgs false
set_option linter.unusedVariables false

set_option maxHeartbeats 8000000 in
set_option maxRecDepth 100000 in
theorem substLengths_any (Sl Sm S : Nat → Prop) (la : Option Addr) (lc : Nat) (l : List Lk) (k : Int) (a : Option Addr) (ca : Nat) (L : List Int) (b : Option Addr) (cb : Nat) (ms : List Bool) (w : World)
    (hl : Gr LkE Sl w la lc l) (hk : I64 k) (hL : Gr El.int S w a ca L) (hm : Gr El.bool Sm w b cb ms) (hT : Spn w) :
    Calls Tryd.prog 5 #[.slice la l.length lc, .int .i64 k, .agg #[.slice a L.length ca, .slice b ms.length cb]] w fun e w' => e = .returned (.bool true) ∧ Below w.heap.size w w' := by
  have k1 := hL.lenB
  have k2 := hm.lenB
  have k3 := hl.lenB
  obtain ⟨W0, hW0, X1, hbW⟩ : ∃ W0, W0 = w.alloc (.cells #[.slice a L.length ca, .slice b ms.length cb] 26) ∧ Bk 26 W0 w.heap.size [.slice a L.length ca, .slice b ms.length cb] ∧ Below w.heap.size w W0 := ⟨_, rfl, Bk.new _ _ _, bl1 _⟩
  have HX : Hid (∀ U, Below W0.heap.size W0 U → U.cell? ⟨w.heap.size, 0, none⟩ = some (.slice a L.length ca) ∧ U.cell? ⟨w.heap.size, 1, none⟩ = some (.slice b ms.length cb)) := fun U hU => by
    obtain ⟨e0, e1, -⟩ := (X1.below hU).two
    exact ⟨e0, e1⟩
  have HLK : Hid (∀ U, Below w.heap.size w U → Gr LkE Sl U la lc l) := fun U hU => hl.below hU
  have HL : Hid (∀ U, Below w.heap.size w U → Gr El.int S U a ca L) := fun U hU => hL.below hU
  have HM : Hid (∀ U, Below w.heap.size w U → Gr El.bool Sm U b cb ms) := fun U hU => hm.below hU
  have HT : Hid (∀ U, Below w.heap.size w U → Spn U) := fun U hU => hT.below hU
  have HAW : Hid (∀ U, Below w.heap.size w U → Calls Tryd.prog 9 #[] U fun e w' => e = .returned (.bool true) ∧ Below U.heap.size U w') := fun U hU => awake20_any U (hT.below hU)
  go_enter Tryd.func5, Tryd.ntmps5
  go_upto_region 1 with fail
  rw [← hW0]
  clear hW0 hl hL hm hT X1
  go_wp2_with fail
  refine (HAW.out _ hbW).mono ?_
  rintro e y1 ⟨rfl, hy1⟩
  have hb1 := hbW.trans (hy1.mono hbW.size)
  obtain ⟨x0, x1⟩ := HX.out y1 hy1
  have hfe := few20_any Sl la lc l a ca L b cb ms y1 (HLK.out _ hb1) k1 k2
  go_wp2_with fail
  refine hfe.mono ?_
  rintro e y2 ⟨⟨q, rfl, hq⟩, hc2⟩
  have hy2 := hy1.trans (hc2.mono hy1.size)
  have hb2 := hb1.trans (hc2.mono hb1.size)
  clear hfe hc2 hb1 hy1 x0 x1
  obtain ⟨x0, x1⟩ := HX.out y2 hy2
  cases q with
  | false =>
    clear hq x0 x1
    go_wp2_with fail
    refine (HAW.out _ hb2).mono ?_
    rintro e y9 ⟨rfl, hb9⟩
    have hfin := hb2.trans (hb9.mono hb2.size)
    clear hb9
    go_wp2
    go_ret
    exact ⟨rfl, hfin⟩
  | true =>
  obtain ⟨f1, f2⟩ := hq rfl
  clear hq
  by_cases n1 : k < 0
  · have d1 : decide (k < 0) = true := decide_eq_true n1
    clear n1 x0 x1
    go_wp2_with fail
    refine (HAW.out _ hb2).mono ?_
    rintro e y9 ⟨rfl, hb9⟩
    have hfin := hb2.trans (hb9.mono hb2.size)
    clear hb9
    go_wp2
    go_ret
    exact ⟨rfl, hfin⟩
  have d1 : decide (k < 0) = false := decide_eq_false n1
  by_cases n2 : (l.length : Int) ≤ k
  · have d2 : decide ((l.length : Int) ≤ k) = true := decide_eq_true n2
    clear n1 n2 x0 x1
    go_wp2_with fail
    refine (HAW.out _ hb2).mono ?_
    rintro e y9 ⟨rfl, hb9⟩
    have hfin := hb2.trans (hb9.mono hb2.size)
    clear hb9
    go_wp2
    go_ret
    exact ⟨rfl, hfin⟩
  have d2 : decide ((l.length : Int) ≤ k) = false := decide_eq_false n2
  obtain ⟨q, rfl⟩ : ∃ q : Nat, k = (q : Int) := ⟨k.toNat, by omega⟩
  have hq : q < l.length := by omega
  have h1 := cformU_any Sl la lc l 65536 y2 (HLK.out _ hb2) ⟨by omega, by omega⟩ (HT.out _ hb2)
  cases hf : foU l 65536 with
  | false =>
    rw [hf] at h1
    clear hf n1 n2
    go_wp2_with fail
    refine h1.mono ?_
    rintro e u1 ⟨rfl, hc1⟩
    have hb3 := hb2.trans (hc1.mono hb2.size)
    clear h1 hc1 x0 x1 d1 d2
    go_wp2_with fail
    refine (HAW.out _ hb3).mono ?_
    rintro e y9 ⟨rfl, hb9⟩
    have hfin := hb3.trans (hb9.mono hb3.size)
    clear hb9
    go_wp2
    go_ret
    exact ⟨rfl, hfin⟩
  | true =>
  rw [hf] at h1
  go_wp2_with fail
  refine h1.mono ?_
  rintro e u1 ⟨rfl, hc1⟩
  have hy3 := hy2.trans (hc1.mono hy2.size)
  have hb3 := hb2.trans (hc1.mono hb2.size)
  clear h1 hc1 x0 x1 d1 d2 hb2 hy2
  obtain ⟨x0, x1⟩ := HX.out u1 hy3
  by_cases g20 : 100 < L.length
  · have d1 : decide ((100 : Int) < (L.length : Int)) = true := decide_eq_true (by omega)
    clear g20 hf n1 n2
    go_wp2_with fail
    refine (HAW.out _ hb3).mono ?_
    rintro e y9 ⟨rfl, hb9⟩
    have hfin := hb3.trans (hb9.mono hb3.size)
    clear hb9
    go_wp2
    go_ret
    exact ⟨rfl, hfin⟩
  have d1 : decide ((100 : Int) < (L.length : Int)) = false := decide_eq_false (by omega)
  have hqk : I64 (q : Int) := ⟨by omega, by omega⟩
  have h2 := clineU_any l ms Sl Sm S la lc b cb (q : Int) a ca L u1 (HLK.out _ hb3) (HM.out _ hb3) (HL.out _ hb3) hqk (by omega) (HT.out _ hb3)
  have h3 : ∀ U, Below w.heap.size w U → Calls Tryd.prog 18 #[.slice la l.length lc, .int .i64 q, .slice b ms.length cb, .slice none 0 0] U fun e w' => LiA l ms (q : Int) [] w' e ∧ Below U.heap.size U w' := fun U hU =>
    clineU_any l ms Sl Sm (fun _ => True) la lc b cb (q : Int) none 0 [] U (HLK.out _ hU) (HM.out _ hU) (Gr.nil _ _ _ _ _ (Nat.zero_le _) (fun _ => rfl)) hqk (by simp) (HT.out _ hU)
  have HN : Hid (liL l ms (q : Int) [] = [] ∧ liE l ms (q : Int) [] = 0) := by
    cases hp : puB (l.getD q Lk.none).kd with
    | false => exact li_other hf (by simp) hq hp
    | true => exact li_through hf (by simp) hq hp (liQ_end (by omega) (by simp))
  have HONE : Hid ((l.getD q Lk.none).kd = 1 → liE l ms (q : Int) L = 0 ∧ (liL l ms (q : Int) L).length = L.length) := fun h => by
    obtain ⟨o, h4, h5⟩ := liQ_single (ms := ms) hf hq h (L := L) (by omega)
    obtain ⟨h6, h7⟩ := li_through hf (by omega) hq (puB_iff.2 (.inl h)) h4
    exact ⟨h7, by rw [h6]; exact h5⟩
  have HTHR : Hid ((l.getD q Lk.none).kd = 3 → liE l ms (q : Int) L = 0 ∧ (liL l ms (q : Int) L).length ≤ L.length) := fun h => by
    obtain ⟨o, h4, h5⟩ := liQ_lig (ms := ms) hf hq h (L := L) (by omega)
    obtain ⟨h6, h7⟩ := li_through hf (by omega) hq (puB_iff.2 (.inr (.inr (.inl h)))) h4
    exact ⟨h7, by rw [h6]; exact h5⟩
  have HANY : Hid (liE l ms (q : Int) L = 0 ∨ liE l ms (q : Int) L = 3) := by
    cases hp : puB (l.getD q Lk.none).kd with
    | false => exact .inl (li_other hf (by omega) hq hp).2
    | true =>
      cases h4 : liQ l ms q L 0 with
      | none => exact .inr (li_stuck hf (by omega) hq hp h4).2
      | some o => exact .inl (li_through hf (by omega) hq hp h4).2
  have HKC : Hid (∀ U, Below w.heap.size w U → ∃ lb lo, la = some ⟨lb, lo, none⟩ ∧ I64 (l.getD q Lk.none).kd ∧ U.cell? ⟨lb, lo + q * 3, none⟩ = some (.int .i64 (l.getD q Lk.none).kd)) := fun U hU => by
    obtain ⟨lb, lo, _, _, e, hi, hall⟩ := (HLK.out U hU).lkAll q hq
    exact ⟨lb, lo, e, hi, (hall U (Below.refl _ _)).2.1⟩
  have i1 : (0 : Int) ≤ (q : Int) := by omega
  have i2 : (q : Int) < (l.length : Int) := by omega
  clear hf n1 n2 g20
  go_wp2_with fail
  refine h2.mono ?_
  rintro e u2 ⟨⟨pa, pc, rfl, hp⟩, hc2⟩
  have hy4 := hy3.trans (hc2.mono hy3.size)
  have hb4 := hb3.trans (hc2.mono hb3.size)
  clear h2 hc2 x0 x1 d1 hb3 hy3 hp
  obtain ⟨x0, x1⟩ := HX.out u2 hy4
  replace h3 := h3 u2 hb4
  go_wp2_with fail
  refine h3.mono ?_
  rintro e u3 ⟨⟨qa, qc, he, -⟩, hc3⟩
  rw [HN.out.1, HN.out.2] at he
  obtain rfl : e = .returned (.tuple #[.slice qa 0 qc, .int .i64 0]) := he
  have hy5 := hy4.trans (hc3.mono hy4.size)
  have hb5 := hb4.trans (hc3.mono hb4.size)
  clear h3 hc3 x0 x1 hb4 hy4
  obtain ⟨x0, x1⟩ := HX.out u3 hy5
  obtain ⟨lb, lo, rfl, hkd, c0⟩ := HKC.out u3 hb5
  have HNL : Hid ((liL l ms (q : Int) L).length = (liL l ms (q : Int) L).length) := rfl
  generalize (liL l ms (q : Int) L).length = on at HONE HTHR
  generalize liE l ms (q : Int) L = oe at HONE HTHR HANY
  generalize (l.getD q Lk.none).kd = kd at HONE HTHR hkd c0
  clear HKC HNL
  by_cases m1 : kd = 1
  · subst m1
    obtain ⟨rfl, rfl⟩ := HONE.out rfl
    have g1 : ((L.length : Int) == (L.length : Int)) = true := by simp
    clear HONE HTHR HANY
    go_wp2
    go_ret
    exact ⟨rfl, hb5⟩
  have g1 : (kd == 1) = false := beq_eq_false_iff_ne.2 m1
  by_cases m3 : kd = 3
  · subst m3
    obtain ⟨rfl, m4⟩ := HTHR.out rfl
    have g2 : decide ((on : Int) ≤ (L.length : Int)) = true := decide_eq_true (by omega)
    have g3 : decide (on ≤ L.length) = true := decide_eq_true m4
    clear HONE HTHR HANY m4
    go_wp2
    go_ret
    exact ⟨rfl, hb5⟩
  have g3 : (kd == 3) = false := beq_eq_false_iff_ne.2 m3
  rcases HANY.out with rfl | rfl
  · clear HONE HTHR HANY m1 m3
    go_wp2
    go_ret
    exact ⟨rfl, hb5⟩
  · clear HONE HTHR HANY m1 m3
    go_wp2
    go_ret
    exact ⟨rfl, hb5⟩

end Go.Proofs.YtechkkefpigcaaaDoor
