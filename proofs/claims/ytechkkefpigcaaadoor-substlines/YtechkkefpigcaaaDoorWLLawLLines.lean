/-
  foundrylaw20.SubstLines: the walk.
-/
import Derived.Test.YtechkkefpigcaaaDoorZL9
import Derived.Test.YtechkkefpigcaaaDoorZL14
import Derived.Test.YtechkkefpigcaaaDoorZL12
namespace Go.Proofs.YtechkkefpigcaaaDoor
open Go.RowKit Go.Maps
set_option linter.unusedSimpArgs false
set_option linter.unusedVariables false

set_option maxHeartbeats 8000000 in
set_option maxRecDepth 100000 in
theorem substLines_any (Sl Sm S : Nat → Prop) (la : Option Addr) (lc : Nat) (l : List Lk) (ka : Option Addr) (kc : Nat) (ks : List Int) (a : Option Addr) (ca : Nat) (L : List Int) (b : Option Addr) (cb : Nat) (ms : List Bool) (w : World)
    (hl : Gr LkE Sl w la lc l) (hk : Ri w ka kc ks) (hL : Gr El.int S w a ca L) (hm : Gr El.bool Sm w b cb ms) (hT : Spn w) :
    Calls Tryd.prog 4 #[.slice la l.length lc, .slice ka ks.length kc, .agg #[.slice a L.length ca, .slice b ms.length cb]] w fun e w' => e = .returned (.bool true) ∧ Below w.heap.size w w' := by
  have k1 := hL.lenB
  have k2 := hm.lenB
  have k3 := hl.lenB
  have k4 := hk.lenB
  have HK : Hid (∀ U, Below w.heap.size w U → Ri U ka kc ks) := fun U hU => hk.below hU
  clear hk
  obtain ⟨W0, hW0, X1, hbW⟩ : ∃ W0, W0 = w.alloc (.cells #[.slice a L.length ca, .slice b ms.length cb] 26) ∧ Bk 26 W0 w.heap.size [.slice a L.length ca, .slice b ms.length cb] ∧ Below w.heap.size w W0 := ⟨_, rfl, Bk.new _ _ _, bl1 _⟩
  have HX : Hid (∀ U, Below W0.heap.size W0 U → U.cell? ⟨w.heap.size, 0, none⟩ = some (.slice a L.length ca) ∧ U.cell? ⟨w.heap.size, 1, none⟩ = some (.slice b ms.length cb)) := fun U hU => by
    obtain ⟨e0, e1, -⟩ := (X1.below hU).two
    exact ⟨e0, e1⟩
  have HLK : Hid (∀ U, Below w.heap.size w U → Gr LkE Sl U la lc l) := fun U hU => hl.below hU
  have HL : Hid (∀ U, Below w.heap.size w U → Gr El.int S U a ca L) := fun U hU => hL.below hU
  have HM : Hid (∀ U, Below w.heap.size w U → Gr El.bool Sm U b cb ms) := fun U hU => hm.below hU
  have HT : Hid (∀ U, Below w.heap.size w U → Spn U) := fun U hU => hT.below hU
  have HAW : Hid (∀ U, Below w.heap.size w U → Calls Tryd.prog 9 #[] U fun e w' => e = .returned (.bool true) ∧ Below U.heap.size U w') := fun U hU => awake20_any U (hT.below hU)
  go_enter Tryd.func4, Tryd.ntmps4
  go_upto_region 1 with fail
  rw [← hW0]
  clear hW0 hl hL hm hT X1
  go_wp2_with fail
  refine (HAW.out _ hbW).mono ?_
  rintro e y1 ⟨rfl, hy1⟩
  have hb1 := hbW.trans (hy1.mono hbW.size)
  obtain ⟨x0, x1⟩ := HX.out y1 hy1
  have hfe := few20_any Sl la lc l a ca L b cb ms y1 (HLK.out _ hb1) k1 k2
  go_wp2_with fail
  refine hfe.mono ?_
  rintro e y2 ⟨⟨q, rfl, hq⟩, hc2⟩
  have hy2 := hy1.trans (hc2.mono hy1.size)
  have hb2 := hb1.trans (hc2.mono hb1.size)
  clear hfe hc2 hb1 hy1 x0 x1
  obtain ⟨x0, x1⟩ := HX.out y2 hy2
  cases q with
  | false =>
    clear hq x0 x1
    go_wp2_with fail
    refine (HAW.out _ hb2).mono ?_
    rintro e y9 ⟨rfl, hb9⟩
    have hfin := hb2.trans (hb9.mono hb2.size)
    clear hb9
    go_wp2
    go_ret
    exact ⟨rfl, hfin⟩
  | true =>
  obtain ⟨f1, f2⟩ := hq rfl
  clear hq
  by_cases g20 : 20 < ks.length
  · have d1 : decide ((20 : Int) < (ks.length : Int)) = true := decide_eq_true (by omega)
    clear g20
    go_wp2_with fail
    refine (HAW.out _ hb2).mono ?_
    rintro e y9 ⟨rfl, hb9⟩
    have hfin := hb2.trans (hb9.mono hb2.size)
    clear hb9
    go_wp2
    go_ret
    exact ⟨rfl, hfin⟩
  have d1 : decide ((20 : Int) < (ks.length : Int)) = false := decide_eq_false (by omega)
  have h1 := callU_any l ms Sl Sm S la lc b cb ka kc ks a ca L y2 (HLK.out _ hb2) (HM.out _ hb2) (HK.out _ hb2) (HL.out _ hb2) (by omega) (HT.out _ hb2)
  go_wp2_with fail
  refine h1.mono ?_
  rintro e u1 ⟨⟨pa, pc, rfl, hp⟩, hc1⟩
  have hy3 := hy2.trans (hc1.mono hy2.size)
  have hb3 := hb2.trans (hc1.mono hb2.size)
  clear h1 x0 x1 hc1 d1
  obtain ⟨x0, x1⟩ := HX.out u1 hy3
  have h2 := sallU_any l ms Sl Sm S la lc b cb ka kc ks a ca L u1 (HLK.out _ hb3) (HM.out _ hb3) (HK.out _ hb3) (HL.out _ hb3) (by omega)
  have HP : Hid (∀ U, Below u1.heap.size u1 U → Ri U pa pc (alP l ms ks L).2) := fun U hU => (hp.below hU).ri
  clear hp
  go_wp2_with fail
  refine h2.mono ?_
  rintro e u2 ⟨⟨qa, qc, rfl, hq⟩, hc2⟩
  have hb4 := hb3.trans (hc2.mono hb3.size)
  have h3 := ssameI_any pa qa pc qc (alP l ms ks L).2 u2 (HP.out _ hc2) hq.ri
  generalize (alP l ms ks L).2 = o at h3
  generalize (alP l ms ks L).1 = oe
  have g1 : (oe == oe) = true := by simp
  clear h2 x0 x1 hc2 hq HP
  go_wp2_with fail
  refine h3.mono ?_
  rintro e u3 ⟨rfl, hc3⟩
  have hb5 := hb4.trans (hc3.mono hb4.size)
  have h4 := cformU_any Sl la lc l 50 u3 (HLK.out _ hb5) ⟨by omega, by omega⟩ (HT.out _ hb5)
  clear h3 hc3 g1
  go_wp2_with fail
  refine h4.mono ?_
  rintro e u4 ⟨rfl, hc4⟩
  have hb6 := hb5.trans (hc4.mono hb5.size)
  have h5 := sformU_any Sl la lc l 50 u4 (HLK.out _ hb6) ⟨by omega, by omega⟩
  clear h4 hc4
  generalize foU l 50 = fq at h5
  go_wp2_with fail
  refine h5.mono ?_
  rintro e u5 ⟨rfl, hc5⟩
  have hfin := hb6.trans (hc5.mono hb6.size)
  have g2 : (fq == fq) = true := by simp
  clear h5 hc5
  go_wp2
  go_ret
  exact ⟨rfl, hfin⟩

end Go.Proofs.YtechkkefpigcaaaDoor
