/-
  foundrylaw20.SubstSingle: the walk.
-/
import Derived.Test.YtechkkefpigcaaaDoorZM9
import Derived.Deep.CutBlock
import Derived.Deep.CutRange
import Derived.Test.YtechkkefpigcaaaDoorZM8
namespace Go.Proofs.YtechkkefpigcaaaDoor
open Go.RowKit Go.Maps
set_option linter.unusedSimpArgs false
set_option linter.unusedVariables false

set_option maxHeartbeats 8000000 in
set_option maxRecDepth 100000 in
theorem substSingle_any (Sm S : Nat → Prop) (a : Option Addr) (ca : Nat) (L : List Int) (b : Option Addr) (cb : Nat) (ms : List Bool) (g0 g1 : Int) (sk : Bool) (w : World)
    (hL : Gr El.int S w a ca L) (hm : Gr El.bool Sm w b cb ms) (hg0 : 0 ≤ g0 ∧ g0 < 256) (hg1 : 0 ≤ g1 ∧ g1 < 256) (hT : Spn w) :
    Calls Tryd.prog 6 #[.agg #[.slice a L.length ca, .slice b ms.length cb], .agg #[.int .u8 g0, .int .u8 g1], .bool sk] w fun e w' => e = .returned (.bool true) ∧ Below w.heap.size w w' := by
  have k1 := hL.lenB
  have k2 := hm.lenB
  obtain ⟨p0, p1⟩ := hg0
  obtain ⟨p2, p3⟩ := hg1
  obtain ⟨W0, hW0, X1, X2, hbW⟩ : ∃ W0, W0 = (w.alloc (.cells #[.slice a L.length ca, .slice b ms.length cb] 26)).alloc (.cells #[.int .u8 g0, .int .u8 g1] 42) ∧ Bk 26 W0 w.heap.size [.slice a L.length ca, .slice b ms.length cb] ∧ Bk 42 W0 (w.heap.size + 1) [.int .u8 g0, .int .u8 g1] ∧ Below w.heap.size w W0 := ⟨_, rfl, (Bk.new _ _ _).below (bl1 _), Bk.new1 _ _ _ _, bl2 _ _⟩
  have HX : Hid (∀ U, Below W0.heap.size W0 U → U.cell? ⟨w.heap.size, 0, none⟩ = some (.slice a L.length ca) ∧ U.cell? ⟨w.heap.size, 1, none⟩ = some (.slice b ms.length cb)) := fun U hU => by
    obtain ⟨e0, e1, -⟩ := (X1.below hU).two
    exact ⟨e0, e1⟩
  have HL : Hid (∀ U, Below w.heap.size w U → Gr El.int S U a ca L) := fun U hU => hL.below hU
  have HM : Hid (∀ U, Below w.heap.size w U → Gr El.bool Sm U b cb ms) := fun U hU => hm.below hU
  have HT : Hid (∀ U, Below w.heap.size w U → Spn U) := fun U hU => hT.below hU
  have HAW : Hid (∀ U, Below w.heap.size w U → Calls Tryd.prog 9 #[] U fun e w' => e = .returned (.bool true) ∧ Below U.heap.size U w') := fun U hU => awake20_any U (hT.below hU)
  obtain ⟨x2, x3, -⟩ := X2.two
  go_enter Tryd.func6, Tryd.ntmps6
  go_upto_region 1 with fail
  rw [← hW0]
  clear hW0 hL hm hT X1 X2
  go_quiet (fail)
  obtain ⟨V, hV⟩ : ∃ V, V = W0.drewN nq := ⟨_, rfl⟩
  have hyV : Below W0.heap.size W0 V := by rw [hV]; exact below_drewN (Below.refl _ _) _
  rw [← hV]
  have hbV := hbW.trans (hyV.mono hbW.size)
  clear hV x2 x3
  go_wp2_with fail
  refine (HAW.out _ hbV).mono ?_
  rintro e y1 ⟨rfl, hc1⟩
  have hy1 := hyV.trans (hc1.mono hyV.size)
  have hb1 := hbV.trans (hc1.mono hbV.size)
  clear hc1 hyV hbV
  obtain ⟨x0, x1⟩ := HX.out y1 hy1
  by_cases f1 : 100 < L.length
  · have d1 : decide ((100 : Int) < (L.length : Int)) = true := decide_eq_true (by omega)
    clear f1
    go_wp2_with fail
    refine (HAW.out _ hb1).mono ?_
    rintro e y9 ⟨rfl, hb9⟩
    have hfin := hb1.trans (hb9.mono hb1.size)
    clear hb9
    go_wp2
    go_ret
    exact ⟨rfl, hfin⟩
  have d1 : decide ((100 : Int) < (L.length : Int)) = false := decide_eq_false (by omega)
  by_cases f2 : 1000 < ms.length
  · have d2 : decide ((1000 : Int) < (ms.length : Int)) = true := decide_eq_true (by omega)
    clear f2
    go_wp2_with fail
    refine (HAW.out _ hb1).mono ?_
    rintro e y9 ⟨rfl, hb9⟩
    have hfin := hb1.trans (hb9.mono hb1.size)
    clear hb9
    go_wp2
    go_ret
    exact ⟨rfl, hfin⟩
  have d2 : decide ((1000 : Int) < (ms.length : Int)) = false := decide_eq_false (by omega)
  by_cases f3 : g0 = g1
  · subst f3
    go_wp2_with fail
    refine (HAW.out _ hb1).mono ?_
    rintro e y9 ⟨rfl, hb9⟩
    have hfin := hb1.trans (hb9.mono hb1.size)
    clear hb9
    go_wp2
    go_ret
    exact ⟨rfl, hfin⟩
  have d3 : (g0 == g1) = false := beq_eq_false_iff_ne.2 f3
  have HNE : Hid (g0 ≠ g1) := f3
  obtain ⟨W0, hW0⟩ : ∃ W0, W0 = y1.alloc (.cells #[.int .i64 g0] 3) := ⟨_, rfl⟩
  have sW0 : W0.heap.size = y1.heap.size + 1 := by rw [hW0, World.size_alloc]
  have dW0 : Below y1.heap.size y1 W0 := by rw [hW0]; exact bl1 _
  have cW0 : Below y1.heap.size y1 W0 := dW0
  have BW0 : Bk 3 W0 (y1.heap.size) [.int .i64 g0] := by rw [hW0]; exact Bk.new _ _ _
  obtain ⟨W1, hW1⟩ : ∃ W1, W1 = W0.alloc (.cells #[.int .i64 g1] 3) := ⟨_, rfl⟩
  have sW1 : W1.heap.size = y1.heap.size + 1 + 1 := by rw [hW1, World.size_alloc, sW0]
  have dW1 : Below W0.heap.size W0 W1 := by rw [hW1]; exact bl1 _
  have cW1 : Below y1.heap.size y1 W1 := cW0.trans (dW1.mono cW0.size)
  have BW1 : Bk 3 W1 (y1.heap.size + 1) [.int .i64 g1] := by rw [hW1, ← sW0]; exact Bk.new _ _ _
  replace BW0 := BW0.below dW1
  obtain ⟨W2, hW2⟩ : ∃ W2, W2 = W1.alloc (.cells #[.int .i64 g1] 3) := ⟨_, rfl⟩
  have sW2 : W2.heap.size = y1.heap.size + 1 + 1 + 1 := by rw [hW2, World.size_alloc, sW1]
  have dW2 : Below W1.heap.size W1 W2 := by rw [hW2]; exact bl1 _
  have cW2 : Below y1.heap.size y1 W2 := cW1.trans (dW2.mono cW1.size)
  have BW2 : Bk 3 W2 (y1.heap.size + 1 + 1) [.int .i64 g1] := by rw [hW2, ← sW1]; exact Bk.new _ _ _
  replace BW0 := BW0.below dW2
  replace BW1 := BW1.below dW2
  obtain ⟨W3, hW3⟩ : ∃ W3, W3 = W2.alloc (.cells #[.int .i64 g0] 3) := ⟨_, rfl⟩
  have sW3 : W3.heap.size = y1.heap.size + 1 + 1 + 1 + 1 := by rw [hW3, World.size_alloc, sW2]
  have dW3 : Below W2.heap.size W2 W3 := by rw [hW3]; exact bl1 _
  have cW3 : Below y1.heap.size y1 W3 := cW2.trans (dW3.mono cW2.size)
  have BW3 : Bk 3 W3 (y1.heap.size + 1 + 1 + 1) [.int .i64 g0] := by rw [hW3, ← sW2]; exact Bk.new _ _ _
  replace BW0 := BW0.below dW3
  replace BW1 := BW1.below dW3
  replace BW2 := BW2.below dW3
  obtain ⟨W4, hW4⟩ : ∃ W4, W4 = W3.alloc (.cells #[.slice (some ⟨y1.heap.size, 0, none⟩) 1 1, .slice (some ⟨y1.heap.size + 1, 0, none⟩) 1 1, .int .i64 0, .int .i64 0, .int .i64 0, .int .i64 0, .int .i64 0, .int .i64 0, .int .i64 0, .int .i64 0, .slice (some ⟨y1.heap.size + 1 + 1, 0, none⟩) 1 1, .slice (some ⟨y1.heap.size + 1 + 1 + 1, 0, none⟩) 1 1, .int .i64 0, .int .i64 0, .int .i64 0, .int .i64 0, .int .i64 0, .int .i64 0, .int .i64 0, .int .i64 0] 46) := ⟨_, rfl⟩
  have sW4 : W4.heap.size = y1.heap.size + 1 + 1 + 1 + 1 + 1 := by rw [hW4, World.size_alloc, sW3]
  have dW4 : Below W3.heap.size W3 W4 := by rw [hW4]; exact bl1 _
  have cW4 : Below y1.heap.size y1 W4 := cW3.trans (dW4.mono cW3.size)
  have BW4 : Bk 46 W4 (y1.heap.size + 1 + 1 + 1 + 1) [.slice (some ⟨y1.heap.size, 0, none⟩) 1 1, .slice (some ⟨y1.heap.size + 1, 0, none⟩) 1 1, .int .i64 0, .int .i64 0, .int .i64 0, .int .i64 0, .int .i64 0, .int .i64 0, .int .i64 0, .int .i64 0, .slice (some ⟨y1.heap.size + 1 + 1, 0, none⟩) 1 1, .slice (some ⟨y1.heap.size + 1 + 1 + 1, 0, none⟩) 1 1, .int .i64 0, .int .i64 0, .int .i64 0, .int .i64 0, .int .i64 0, .int .i64 0, .int .i64 0, .int .i64 0] := by rw [hW4, ← sW3]; exact Bk.new _ _ _
  replace BW0 := BW0.below dW4
  replace BW1 := BW1.below dW4
  replace BW2 := BW2.below dW4
  replace BW3 := BW3.below dW4
  obtain ⟨W5, hW5⟩ : ∃ W5, W5 = W4.alloc (.cells #[.int .i64 1, .bool sk, .slice (some ⟨y1.heap.size + 1 + 1 + 1 + 1, 0, none⟩) 2 2] 41) := ⟨_, rfl⟩
  have sW5 : W5.heap.size = y1.heap.size + 1 + 1 + 1 + 1 + 1 + 1 := by rw [hW5, World.size_alloc, sW4]
  have dW5 : Below W4.heap.size W4 W5 := by rw [hW5]; exact bl1 _
  have cW5 : Below y1.heap.size y1 W5 := cW4.trans (dW5.mono cW4.size)
  have BW5 : Bk 41 W5 (y1.heap.size + 1 + 1 + 1 + 1 + 1) [.int .i64 1, .bool sk, .slice (some ⟨y1.heap.size + 1 + 1 + 1 + 1, 0, none⟩) 2 2] := by rw [hW5, ← sW4]; exact Bk.new _ _ _
  replace BW0 := BW0.below dW5
  replace BW1 := BW1.below dW5
  replace BW2 := BW2.below dW5
  replace BW3 := BW3.below dW5
  replace BW4 := BW4.below dW5
  obtain ⟨W6, hW6⟩ : ∃ W6, W6 = W5.alloc (.cells #[] 4) := ⟨_, rfl⟩
  have sW6 : W6.heap.size = y1.heap.size + 1 + 1 + 1 + 1 + 1 + 1 + 1 := by rw [hW6, World.size_alloc, sW5]
  have dW6 : Below W5.heap.size W5 W6 := by rw [hW6]; exact bl1 _
  have cW6 : Below y1.heap.size y1 W6 := cW5.trans (dW6.mono cW5.size)
  have BW6 : Bk 4 W6 (y1.heap.size + 1 + 1 + 1 + 1 + 1 + 1) [] := by rw [hW6, ← sW5]; exact Bk.new _ _ _
  replace BW0 := BW0.below dW6
  replace BW1 := BW1.below dW6
  replace BW2 := BW2.below dW6
  replace BW3 := BW3.below dW6
  replace BW4 := BW4.below dW6
  replace BW5 := BW5.below dW6
  have q0 : I64 g0 := ⟨by omega, by omega⟩
  have q1 : I64 g1 := ⟨by omega, by omega⟩
  have r0 := grI_of_bk (zs := [g0]) BW0 (by intro z hz; simp at hz; subst hz; exact q0) (by simp)
  have r1 := grI_of_bk (zs := [g1]) BW1 (by intro z hz; simp at hz; subst hz; exact q1) (by simp)
  have r2 := grI_of_bk (zs := [g1]) BW2 (by intro z hz; simp at hz; subst hz; exact q1) (by simp)
  have r3 := grI_of_bk (zs := [g0]) BW3 (by intro z hz; simp at hz; subst hz; exact q0) (by simp)
  have r4 : Gr RuE (fun _ => True) W6 (some ⟨y1.heap.size + 1 + 1 + 1 + 1, 0, none⟩) 2 [ru0 [g0] [g1] 0, ru0 [g1] [g0] 0] := gr2_of_bk (cs := [.slice (some ⟨y1.heap.size, 0, none⟩) 1 1, .slice (some ⟨y1.heap.size + 1, 0, none⟩) 1 1, .int .i64 0, .int .i64 0, .int .i64 0, .int .i64 0, .int .i64 0, .int .i64 0, .int .i64 0, .int .i64 0]) (ds := [.slice (some ⟨y1.heap.size + 1 + 1, 0, none⟩) 1 1, .slice (some ⟨y1.heap.size + 1 + 1 + 1, 0, none⟩) 1 1, .int .i64 0, .int .i64 0, .int .i64 0, .int .i64 0, .int .i64 0, .int .i64 0, .int .i64 0, .int .i64 0]) BW4 (ru0_rep r0 r1 ⟨by omega, by omega⟩ (by simp) (by simp)) (ru0_rep r2 r3 ⟨by omega, by omega⟩ (by simp) (by simp))
  have r5 : Gr LkE (fun _ => True) W6 (some ⟨y1.heap.size + 1 + 1 + 1 + 1 + 1, 0, none⟩) 1 (lsS g0 g1 sk) := gr1_of_bk BW5 (lk0_rep r4 ⟨by omega, by omega⟩ (by simp))
  have HR5 : Hid (∀ U, Below W6.heap.size W6 U → Gr LkE (fun _ => True) U (some ⟨y1.heap.size + 1 + 1 + 1 + 1 + 1, 0, none⟩) 1 (lsS g0 g1 sk)) := fun U hU => r5.below hU
  have HB6 : Hid (y1.heap.size + 1 + 1 + 1 + 1 + 1 + 1 < W6.heap.size) := BW6.lt
  have hy6 := hy1.trans (cW6.mono hy1.size)
  have hb6 := hb1.trans (cW6.mono hb1.size)
  obtain ⟨x0', x1'⟩ := HX.out W6 hy6
  clear r0 r1 r2 r3 r4 r5 BW0 BW1 BW2 BW3 BW4 BW5 BW6 cW0 cW1 cW2 cW3 cW4 cW5 hb1 hy1
  clear sW0 sW1 sW2 sW3 sW4 sW5 sW6 dW0 dW1 dW2 dW3 dW4 dW5 dW6
  go_upto_if 63 with fail
  rw [← hW0, ← hW1, ← hW2, ← hW3, ← hW4, ← hW5, ← hW6]
  clear hW0 hW1 hW2 hW3 hW4 hW5 hW6 x0 x1 d1 d2 d3
  go_cut [12] from 64 to 65 (fun v wx => ∃ (ma : Option Addr) (mc : Nat) (mm : List Bool), v = .slice ma mm.length mc ∧ Hid (∀ U, Below W6.heap.size W6 U → Gr El.bool (fun _ => True) U ma mc mm) ∧ Hid (sk = true → mm = []) ∧ wx = W6)
  case first =>
    have HM6 : Hid (∀ U, Below W6.heap.size W6 U → Gr El.bool (fun _ => True) U b cb ms) := fun U hU => (HM.out U (hb6.trans (hU.mono hb6.size))).wide (fun _ _ _ => trivial)
    cases sk with
    | true =>
      go_wp2
      go_meet
      exact ⟨some ⟨y1.heap.size + 1 + 1 + 1 + 1 + 1 + 1, 0, none⟩, 0, [], rfl, (fun U hU => Gr.nil _ _ _ _ _ (Nat.zero_le _) (fun e => by cases e)), fun _ => rfl, rfl⟩
    | false =>
      go_wp2
      go_meet
      exact ⟨b, cb, ms, rfl, HM6.out, (fun h => by cases h), rfl⟩
  case rest =>
    obtain ⟨ma, mc, mm, rfl, HMM, HSK, rfl⟩ := hcut
    have HLI : Hid (∀ X : List Int, X.length ≤ 100 → liL (lsS g0 g1 sk) mm 0 X = X.map (swS g0 g1) ∧ liE (lsS g0 g1 sk) mm 0 X = 0) := fun X hX => by
      have h := swS_li (p := g0) (q := g1) (sk := sk) (ms := mm) HSK.out ⟨by omega, by omega⟩ ⟨by omega, by omega⟩ X [] (by simpa using hX)
      rw [List.nil_append] at h
      exact li_through (k := 0) (lsS_fo ⟨by omega, by omega⟩ ⟨by omega, by omega⟩) (by omega) (by show 0 < 1; omega) (by rfl) h
    obtain ⟨o, ho⟩ : ∃ o, L.map (swS g0 g1) = o := ⟨_, rfl⟩
    have HOL : Hid (o.length = L.length) := by show _ = _; rw [← ho, List.length_map]
    obtain ⟨e1, e2⟩ := HLI.out L (by omega)
    obtain ⟨e3, e4⟩ := HLI.out o (by rw [HOL.out]; omega)
    have e5 : o.map (swS g0 g1) = L := by rw [← ho]; exact swS_twice HNE.out L
    have HOG : Hid (∀ k, k < L.length → o.getD k 0 = swS g0 g1 (L.getD k 0)) := fun k hk => by
      rw [← ho, List.getD_eq_getElem?_getD, List.getElem?_map, List.getElem?_eq_getElem hk, List.getD_eq_getElem?_getD, List.getElem?_eq_getElem hk]
      rfl
    rw [ho] at e1
    rw [e5] at e3
    have h1 : Calls Tryd.prog 18 #[.slice (some ⟨y1.heap.size + 1 + 1 + 1 + 1 + 1, 0, none⟩) 1 1, .int .i64 0, .slice ma mm.length mc, .slice a L.length ca] wc fun e w' => LiA (lsS g0 g1 sk) mm 0 L w' e ∧ Below wc.heap.size wc w' :=
      clineU_any (lsS g0 g1 sk) mm (fun _ => True) (fun _ => True) S _ 1 ma mc 0 a ca L wc (HR5.out _ (Below.refl _ _)) (HMM.out _ (Below.refl _ _)) (HL.out _ hb6) ⟨by omega, by omega⟩ (by omega) (HT.out _ hb6)
    clear ho e5
    go_wp2_with fail
    refine h1.mono ?_
    rintro e u1 ⟨⟨pa, pc, he, hp⟩, hc1⟩
    rw [e1, e2] at he
    rw [e1] at hp
    subst he
    have hy7 := hy6.trans (hc1.mono hy6.size)
    have hb7 := hb6.trans (hc1.mono hb6.size)
    have HP : Hid (∀ U, Below u1.heap.size u1 U → Gr El.int (fun _ => True) U pa pc o) := fun U hU => hp.below hU
    have h2 : Calls Tryd.prog 18 #[.slice (some ⟨y1.heap.size + 1 + 1 + 1 + 1 + 1, 0, none⟩) 1 1, .int .i64 0, .slice ma mm.length mc, .slice pa o.length pc] u1 fun e w' => LiA (lsS g0 g1 sk) mm 0 o w' e ∧ Below u1.heap.size u1 w' :=
      clineU_any (lsS g0 g1 sk) mm (fun _ => True) (fun _ => True) (fun _ => True) _ 1 ma mc 0 pa pc o u1 (HR5.out _ hc1) (HMM.out _ hc1) (HP.out _ (Below.refl _ _)) ⟨by omega, by omega⟩ (by rw [HOL.out]; omega) (HT.out _ hb7)
    clear h1 hp hc1 e1 e2 x0' x1' hb6 hy6
    go_wp2_with fail
    refine h2.mono ?_
    rintro e u2 ⟨⟨qa, qc, he, hq⟩, hc2⟩
    rw [e3, e4] at he
    rw [e3] at hq
    subst he
    have hy8 := hy7.trans (hc2.mono hy7.size)
    have hb8 := hb7.trans (hc2.mono hb7.size)
    obtain ⟨x0, x1⟩ := HX.out u2 hy8
    have h3 := ssameI_any qa a qc ca L u2 hq.ri (HL.out _ hb8).ri
    have HP2 : Hid (∀ U, Below u2.heap.size u2 U → Ri U pa pc o) := fun U hU => (HP.out U (hc2.trans (hU.mono hc2.size))).ri
    have g1' : ((o.length : Int) != (L.length : Int)) = false := by rw [bne_eq_false_iff_eq, HOL.out]
    clear h2 hq hc2 e3 e4 hb7 hy7 HP
    go_wp2_with fail
    refine h3.mono ?_
    rintro e u3 ⟨rfl, hc3⟩
    have hy9 := hy8.trans (hc3.mono hy8.size)
    have hU3 : Below u2.heap.size u2 u3 := hc3
    clear h3 hc3 x0 x1 g1'
    go_wp2
    go_loopw [17] (fun v wr => ∃ k : Nat, v = .int .i64 k ∧ k ≤ o.length ∧ Below u3.heap.size u3 wr) (fun v _ => o.length - (intOf v).toNat)
    case atStart => exact ⟨0, rfl, Nat.zero_le _, Below.refl _ _⟩
    case round =>
      obtain ⟨k, rfl, hk, hB⟩ := hrel
      have hyr := hy9.trans (hB.mono hy9.size)
      have hbr := hbW.trans (hyr.mono hbW.size)
      have kol : o.length ≤ 9223372036854775807 := by rw [HOL.out]; exact k1
      by_cases hkn : k < o.length
      · have hkL : k < L.length := by have := HOL.out; omega
        obtain ⟨x0, x1⟩ := HX.out wr hyr
        obtain ⟨b1, o1, ea, hlt1, c1⟩ := (HL.out _ hbr).ri.at (Below.refl _ _) k hkL
        obtain ⟨b2, o2, eb, hlt2, c2⟩ := (HP2.out wr (hU3.trans (hB.mono hU3.size))).at (Below.refl _ _) k hkn
        have e1 := HOG.out k hkL
        rw [e1] at c2
        have i1 : (0 : Int) ≤ (k : Int) := by omega
        have i2 : (k : Int) < (o.length : Int) := by omega
        have i3 : (k : Int) < (L.length : Int) := by omega
        obtain ⟨z, hz⟩ : ∃ z, L.getD k 0 = z := ⟨_, rfl⟩
        rw [hz] at c1 c2
        subst ea eb
        clear e1 hz
        unfold swS at c2
        by_cases m1 : z = g0
        · rw [if_pos m1] at c2
          subst m1
          go_wp2
          go_roundw
          case rel => exact ⟨k + 1, by first | rfl | go_num, by omega, hB⟩
          case measure => simp [intOf]; omega
        rw [if_neg m1] at c2
        have hz0 : (z == g0) = false := beq_eq_false_iff_ne.2 m1
        by_cases m2 : z = g1
        · rw [if_pos m2] at c2
          subst m2
          go_wp2
          go_roundw
          case rel => exact ⟨k + 1, by first | rfl | go_num, by omega, hB⟩
          case measure => simp [intOf]; omega
        rw [if_neg m2] at c2
        have hz1 : (z == g1) = false := beq_eq_false_iff_ne.2 m2
        clear m1 m2
        go_wp2
        go_roundw
        case rel => exact ⟨k + 1, by first | rfl | go_num, by omega, hB⟩
        case measure => simp [intOf]; omega
      · have i2 : ¬ (k : Int) < (o.length : Int) := by omega
        go_wp2
        go_ret
        exact ⟨rfl, hbr⟩

end Go.Proofs.YtechkkefpigcaaaDoor
