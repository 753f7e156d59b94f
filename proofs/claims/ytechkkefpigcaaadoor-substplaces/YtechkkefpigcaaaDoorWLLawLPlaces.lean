/-
  foundrylaw20.SubstPlaces: the walk.
-/
import Derived.Test.YtechkkefpigcaaaDoorZL9
import Derived.Test.YtechkkefpigcaaaDoorZL10
import Derived.Test.YtechkkefpigcaaaDoorZL13
namespace Go.Proofs.YtechkkefpigcaaaDoor
open Go.RowKit Go.Maps
set_option linter.unusedSimpArgs false
set_option linter.unusedVariables false

set_option maxHeartbeats 8000000 in
set_option maxRecDepth 100000 in
theorem substPlaces_any (Sl Sm S : Nat → Prop) (la : Option Addr) (lc : Nat) (l : List Lk) (k : Int) (a : Option Addr) (ca : Nat) (L : List Int) (b : Option Addr) (cb : Nat) (ms : List Bool) (w : World)
    (hl : Gr LkE Sl w la lc l) (hk : I64 k) (hL : Gr El.int S w a ca L) (hm : Gr El.bool Sm w b cb ms) (hT : Spn w) :
    Calls Tryd.prog 3 #[.slice la l.length lc, .int .i64 k, .agg #[.slice a L.length ca, .slice b ms.length cb]] w fun e w' => e = .returned (.bool true) ∧ Below w.heap.size w w' := by
  have k1 := hL.lenB
  have k2 := hm.lenB
  have k3 := hl.lenB
  obtain ⟨W0, hW0, X1, hbW⟩ : ∃ W0, W0 = w.alloc (.cells #[.slice a L.length ca, .slice b ms.length cb] 26) ∧ Bk 26 W0 w.heap.size [.slice a L.length ca, .slice b ms.length cb] ∧ Below w.heap.size w W0 := ⟨_, rfl, Bk.new _ _ _, bl1 _⟩
  have HX : Hid (∀ U, Below W0.heap.size W0 U → U.cell? ⟨w.heap.size, 0, none⟩ = some (.slice a L.length ca) ∧ U.cell? ⟨w.heap.size, 1, none⟩ = some (.slice b ms.length cb)) := fun U hU => by
    obtain ⟨e0, e1, -⟩ := (X1.below hU).two
    exact ⟨e0, e1⟩
  have HLK : Hid (∀ U, Below w.heap.size w U → Gr LkE Sl U la lc l) := fun U hU => hl.below hU
  have HL : Hid (∀ U, Below w.heap.size w U → Gr El.int S U a ca L) := fun U hU => hL.below hU
  have HM : Hid (∀ U, Below w.heap.size w U → Gr El.bool Sm U b cb ms) := fun U hU => hm.below hU
  have HT : Hid (∀ U, Below w.heap.size w U → Spn U) := fun U hU => hT.below hU
  have HAW : Hid (∀ U, Below w.heap.size w U → Calls Tryd.prog 9 #[] U fun e w' => e = .returned (.bool true) ∧ Below U.heap.size U w') := fun U hU => awake20_any U (hT.below hU)
  go_enter Tryd.func3, Tryd.ntmps3
  go_upto_region 1 with fail
  rw [← hW0]
  clear hW0 hl hL hm hT X1
  go_wp2_with fail
  refine (HAW.out _ hbW).mono ?_
  rintro e y1 ⟨rfl, hy1⟩
  have hb1 := hbW.trans (hy1.mono hbW.size)
  obtain ⟨x0, x1⟩ := HX.out y1 hy1
  have hfe := few20_any Sl la lc l a ca L b cb ms y1 (HLK.out _ hb1) k1 k2
  go_wp2_with fail
  refine hfe.mono ?_
  rintro e y2 ⟨⟨q, rfl, hq⟩, hc2⟩
  have hy2 := hy1.trans (hc2.mono hy1.size)
  have hb2 := hb1.trans (hc2.mono hb1.size)
  clear hfe hc2 hb1 hy1 x0 x1
  obtain ⟨x0, x1⟩ := HX.out y2 hy2
  cases q with
  | false =>
    clear hq x0 x1
    go_wp2_with fail
    refine (HAW.out _ hb2).mono ?_
    rintro e y9 ⟨rfl, hb9⟩
    have hfin := hb2.trans (hb9.mono hb2.size)
    clear hb9
    go_wp2
    go_ret
    exact ⟨rfl, hfin⟩
  | true =>
  obtain ⟨f1, f2⟩ := hq rfl
  clear hq
  by_cases g20 : 20 < L.length
  · have d1 : decide ((20 : Int) < (L.length : Int)) = true := decide_eq_true (by omega)
    clear g20
    go_wp2_with fail
    refine (HAW.out _ hb2).mono ?_
    rintro e y9 ⟨rfl, hb9⟩
    have hfin := hb2.trans (hb9.mono hb2.size)
    clear hb9
    go_wp2
    go_ret
    exact ⟨rfl, hfin⟩
  have d1 : decide ((20 : Int) < (L.length : Int)) = false := decide_eq_false (by omega)
  have HHK : Hid (I64 k) := hk
  clear hk
  go_wp2
  clear d1 x0 x1
  go_loopw [7] (fun v wr => ∃ z : Int, v = .int .i64 z ∧ -1 ≤ z ∧ z ≤ (L.length : Int) + 1 ∧ Below W0.heap.size W0 wr) (fun v _ => ((L.length : Int) + 1 - intOf v).toNat)
  case atStart => exact ⟨-1, rfl, by omega, by omega, hy2⟩
  case round =>
    clear hb2 hy2
    obtain ⟨z, rfl, hz1, hz2, hy⟩ := hrel
    have hb := hbW.trans (hy.mono hbW.size)
    obtain ⟨x0, x1⟩ := HX.out wr hy
    by_cases hz : z ≤ (L.length : Int)
    · have d1 : decide (z ≤ (L.length : Int)) = true := decide_eq_true hz
      have hIz : I64 z := ⟨by omega, by omega⟩
      have h1 := coneU_any l ms Sl Sm S la lc b cb k a ca L z wr (HLK.out _ hb) (HM.out _ hb) (HL.out _ hb) HHK.out hIz (by omega) (HT.out _ hb)
      go_wp2_with fail
      refine h1.mono ?_
      rintro e u1 ⟨⟨pa, pc, rfl, hp⟩, hc1⟩
      have hy1 := hy.trans (hc1.mono hy.size)
      have hb1 := hb.trans (hc1.mono hb.size)
      clear h1 x0 x1 hc1
      obtain ⟨x0, x1⟩ := HX.out u1 hy1
      have h2 := sone20_any l ms Sl Sm S la lc b cb k a ca L z u1 (HLK.out _ hb1) (HM.out _ hb1) (HL.out _ hb1) HHK.out hIz (by omega)
      have HP : Hid (∀ U, Below u1.heap.size u1 U → Ri U pa pc (onL l ms k L z)) := fun U hU => (hp.below hU).ri
      clear hp
      go_wp2_with fail
      refine h2.mono ?_
      rintro e u2 ⟨⟨qa, qc, rfl, hq⟩, hc2⟩
      have hy2 := hy1.trans (hc2.mono hy1.size)
      have h3 := ssameI_any pa qa pc qc (onL l ms k L z) u2 (HP.out _ hc2) hq.ri
      generalize onL l ms k L z = o at h3
      generalize onO l ms k L z = on
      generalize onB l ms k L z = od
      clear h2 x0 x1 hc2 hq HP
      have g1 : (on != on) = false := by simp
      have g2 : (od != od) = false := by simp
      go_wp2_with fail
      refine h3.mono ?_
      rintro e u3 ⟨rfl, hc3⟩
      have hy3 := hy2.trans (hc3.mono hy2.size)
      clear h3 hc3 g1 g2
      go_wp2
      go_roundw
      case rel => exact ⟨z + 1, by first | rfl | go_num, by omega, by omega, hy3⟩
      case measure => simp only [intOf]; omega
    · have d1 : decide (z ≤ (L.length : Int)) = false := decide_eq_false hz
      clear hz
      go_wp2
      go_ret
      exact ⟨rfl, hb⟩

end Go.Proofs.YtechkkefpigcaaaDoor
