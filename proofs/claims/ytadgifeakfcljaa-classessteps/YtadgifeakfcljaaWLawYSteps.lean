/-
  foundrylaw19.ClassesSteps: the walk.
-/
import Derived.Test.YtadgifeakfcljaaZ3
import Derived.Test.YtadgifeakfcljaaZ4
namespace Go.Proofs.Ytadgifeakfcljaa
open Go.RowKit Go.Maps
set_option linter.unusedSimpArgs false
set_option linter.unusedVariables false

set_option maxHeartbeats 8000000 in
set_option maxRecDepth 100000 in
theorem classesSteps_any (S : Nat → Prop) (a : Option Addr) (ca : Nat) (L : List Int) (b : Option Addr) (cb : Nat) (ms : List Bool) (i : Int) (sk : Bool) (w : World) (hL : Ri w a ca L) (hm : Gr El.bool S w b cb ms) (hi : I64 i) :
    Calls Try.prog 3 #[.agg #[.slice a L.length ca, .slice b ms.length cb], .int .i64 i, .bool sk] w fun e w' => e = .returned (.bool true) ∧ Below w.heap.size w w' := by
  have k1 := hL.lenB
  have k2 := hm.lenB
  obtain ⟨W0, hW0, X1, hbW⟩ : ∃ W0, W0 = w.alloc (.cells #[.slice a L.length ca, .slice b ms.length cb] 25) ∧ Bk 25 W0 w.heap.size [.slice a L.length ca, .slice b ms.length cb] ∧ Below w.heap.size w W0 := ⟨_, rfl, Bk.new _ _ _, bl1 _⟩
  obtain ⟨x0, x1, -⟩ := X1.two
  have HL : Hid (∀ U, Below w.heap.size w U → Ri U a ca L) := fun U hU => hL.below hU
  have HM : Hid (∀ U, Below w.heap.size w U → Gr El.bool S U b cb ms) := fun U hU => hm.below hU
  have HI : Hid (I64 i) := hi
  clear hL hm hi
  go_enter Try.func3, Try.ntmps3
  go_upto_region 1 with fail
  rw [← hW0]
  clear hW0
  go_wp2_with fail
  refine (awake19_any _).mono ?_
  rintro e y1 ⟨rfl, hb1⟩
  replace hbW := hbW.trans (hb1.mono hbW.size)
  replace X1 := X1.below hb1
  clear hb1 x0 x1
  obtain ⟨x0, x1, -⟩ := X1.two
  have hfe := few19_any a ca L b cb ms y1 k1 k2
  cases hf : feB L ms with
  | false =>
    rw [hf] at hfe
    clear hf
    go_wp2_with fail
    refine hfe.mono ?_
    rintro e y2 ⟨rfl, hb2⟩
    replace hbW := hbW.trans (hb2.mono hbW.size)
    clear hfe hb2 x0 x1 X1
    go_wp2_with fail
    refine (awake19_any _).mono ?_
    rintro e y3 ⟨rfl, hb3⟩
    have hfin := hbW.trans (hb3.mono hbW.size)
    clear hb3
    go_wp2
    go_ret
    exact ⟨rfl, hfin⟩
  | true =>
  rw [hf] at hfe
  clear hf
  go_wp2_with fail
  refine hfe.mono ?_
  rintro e y2 ⟨rfl, hb2⟩
  replace hbW := hbW.trans (hb2.mono hbW.size)
  replace X1 := X1.below hb2
  clear hfe hb2 x0 x1
  have hxl := X1.lt
  obtain ⟨x0, x1, -⟩ := X1.two
  have HC0 : Hid (_) := And.intro x0 x1
  have HBW : Hid (Below w.heap.size w y2) := hbW
  have HNC : Hid (∀ U, Below w.heap.size w U → Calls Try.prog 10 #[.slice a L.length ca, .slice b ms.length cb, .int .i64 i, .bool sk] U fun e w' => e = .returned (.int .i64 (nxQ ms L sk i)) ∧ Below U.heap.size U w') := fun U hU => cnext_any S a ca L b cb ms i sk U (HL.out U hU) (HM.out U hU) HI.out
  have HNR : Hid (∀ U, Below w.heap.size w U → Calls Try.prog 11 #[.slice a L.length ca, .slice b ms.length cb, .int .i64 i, .bool sk] U fun e w' => e = .returned (.int .i64 (nxQ ms L sk i)) ∧ Below U.heap.size U w') := fun U hU => snext_any S a ca L b cb ms i sk U (HL.out U hU) (HM.out U hU) HI.out
  have HBC : Hid (∀ U, Below w.heap.size w U → Calls Try.prog 12 #[.slice a L.length ca, .slice b ms.length cb, .int .i64 i] U fun e w' => e = .returned (.int .i64 (bkQ ms L i)) ∧ Below U.heap.size U w') := fun U hU => cback_any S a ca L b cb ms i U (HL.out U hU) (HM.out U hU) HI.out
  have HBR : Hid (∀ U, Below w.heap.size w U → Calls Try.prog 13 #[.slice a L.length ca, .slice b ms.length cb, .int .i64 i] U fun e w' => e = .returned (.int .i64 (bkQ ms L i)) ∧ Below U.heap.size U w') := fun U hU => sback_any S a ca L b cb ms i U (HL.out U hU) (HM.out U hU) HI.out
  have HKC : Hid (∀ U, Below w.heap.size w U → Calls Try.prog 14 #[.slice b ms.length cb, .int .i64 i] U fun e w' => e = .returned (.bool (mkB ms i)) ∧ Below U.heap.size U w') := fun U hU => cmark_any S b cb ms i U (HM.out U hU) HI.out
  have HKR : Hid (∀ U, Below w.heap.size w U → Calls Try.prog 15 #[.slice b ms.length cb, .int .i64 i] U fun e w' => e = .returned (.bool (mkB ms i)) ∧ Below U.heap.size U w') := fun U hU => smark_any S b cb ms i U (HM.out U hU) HI.out
  obtain ⟨z1, hz1⟩ : ∃ z, nxQ ms L sk i = z := ⟨_, rfl⟩
  obtain ⟨z2, hz2⟩ : ∃ z, bkQ ms L i = z := ⟨_, rfl⟩
  obtain ⟨q3, hq3⟩ : ∃ z, mkB ms i = z := ⟨_, rfl⟩
  rw [hz1] at HNC HNR
  rw [hz2] at HBC HBR
  rw [hq3] at HKC HKR
  have e1 : (z1 == z1) = true := by simp
  have e2 : (z2 == z2) = true := by simp
  have e3 : (q3 == q3) = true := by simp
  clear hz1 hz2 hq3 hbW X1 HL HM HI k1 k2
  go_upto_region 3 with fail
  refine wp_region_held_drew (S := fun w9 => w9.cell? ⟨w.heap.size, 0, none⟩ = some (.slice a L.length ca) ∧ w9.cell? ⟨w.heap.size, 1, none⟩ = some (.slice b ms.length cb)) (by kernel_rfl) ?_ (fun hHeld => ?_)
  · (try dsimp only)
    go_keep
  have hdr : Below y2.heap.size y2 y2.drew := (Below.refl _ _).drew
  generalize y2.drew = Z at hdr hHeld ⊢
  clear x0 x1
  refine hT 0 hHeld ?_
  refine hT 1 hHeld ?_
  refine hT 2 hHeld ?_
  refine hT 3 hHeld ?_
  refine hT 4 hHeld ?_
  refine hT 5 hHeld ?_
  refine hT 7 hHeld ?_
  refine hT 8 hHeld ?_
  refine hT 9 hHeld ?_
  refine hT 10 hHeld ?_
  refine hT 11 hHeld ?_
  refine hT 12 hHeld ?_
  refine hCall (i := 6) rfl (by kernel_rfl) (by rfl) (fun K hK => ?_)
  go_simp
  refine (HNC.out _ (HBW.out.trans (hdr.mono HBW.out.size))).mono ?_
  rintro e v6 ⟨rfl, hb6⟩
  replace hdr := hdr.trans (hb6.mono hdr.size)
  clear hb6
  go_wp2_with fail
  refine hK.out _ _ ?_ (fun hHeld => ?_)
  · (try dsimp only)
    exact two_cY hdr hxl HC0.out
  clear hK K
  try simp only [Act.put, List.setIfInBounds_toArray, List.set_cons_zero, List.set_cons_succ]
  refine hCall (i := 13) rfl (by kernel_rfl) (by rfl) (fun K hK => ?_)
  go_simp
  refine (HNR.out _ (HBW.out.trans (hdr.mono HBW.out.size))).mono ?_
  rintro e v13 ⟨rfl, hb13⟩
  replace hdr := hdr.trans (hb13.mono hdr.size)
  clear hb13
  go_wp2_with fail
  refine hK.out _ _ ?_ (fun hHeld => ?_)
  · (try dsimp only)
    exact two_cY hdr hxl HC0.out
  clear hK K
  try simp only [Act.put, List.setIfInBounds_toArray, List.set_cons_zero, List.set_cons_succ]
  refine hT 14 hHeld ?_
  refine hT 15 hHeld ?_
  refine hT 16 hHeld ?_
  refine hT 17 hHeld ?_
  refine hT 18 hHeld ?_
  refine hT 19 hHeld ?_
  refine hT 20 hHeld ?_
  refine hT 22 hHeld ?_
  refine hT 23 hHeld ?_
  refine hT 24 hHeld ?_
  refine hT 25 hHeld ?_
  refine hT 26 hHeld ?_
  refine hCall (i := 21) rfl (by kernel_rfl) (by rfl) (fun K hK => ?_)
  go_simp
  refine (HBC.out _ (HBW.out.trans (hdr.mono HBW.out.size))).mono ?_
  rintro e v21 ⟨rfl, hb21⟩
  replace hdr := hdr.trans (hb21.mono hdr.size)
  clear hb21
  go_wp2_with fail
  refine hK.out _ _ ?_ (fun hHeld => ?_)
  · (try dsimp only)
    exact two_cY hdr hxl HC0.out
  clear hK K
  try simp only [Act.put, List.setIfInBounds_toArray, List.set_cons_zero, List.set_cons_succ]
  refine hCall (i := 27) rfl (by kernel_rfl) (by rfl) (fun K hK => ?_)
  go_simp
  refine (HBR.out _ (HBW.out.trans (hdr.mono HBW.out.size))).mono ?_
  rintro e v27 ⟨rfl, hb27⟩
  replace hdr := hdr.trans (hb27.mono hdr.size)
  clear hb27
  go_wp2_with fail
  refine hK.out _ _ ?_ (fun hHeld => ?_)
  · (try dsimp only)
    exact two_cY hdr hxl HC0.out
  clear hK K
  try simp only [Act.put, List.setIfInBounds_toArray, List.set_cons_zero, List.set_cons_succ]
  refine hT 28 hHeld ?_
  refine hT 29 hHeld ?_
  refine hT 30 hHeld ?_
  refine hT 31 hHeld ?_
  refine hT 32 hHeld ?_
  refine hT 33 hHeld ?_
  refine hT 35 hHeld ?_
  refine hT 36 hHeld ?_
  refine hT 37 hHeld ?_
  refine hCall (i := 34) rfl (by kernel_rfl) (by rfl) (fun K hK => ?_)
  go_simp
  refine (HKC.out _ (HBW.out.trans (hdr.mono HBW.out.size))).mono ?_
  rintro e v34 ⟨rfl, hb34⟩
  replace hdr := hdr.trans (hb34.mono hdr.size)
  clear hb34
  go_wp2_with fail
  refine hK.out _ _ ?_ (fun hHeld => ?_)
  · (try dsimp only)
    exact two_cY hdr hxl HC0.out
  clear hK K
  try simp only [Act.put, List.setIfInBounds_toArray, List.set_cons_zero, List.set_cons_succ]
  refine hCall (i := 38) rfl (by kernel_rfl) (by rfl) (fun K hK => ?_)
  go_simp
  refine (HKR.out _ (HBW.out.trans (hdr.mono HBW.out.size))).mono ?_
  rintro e v38 ⟨rfl, hb38⟩
  replace hdr := hdr.trans (hb38.mono hdr.size)
  clear hb38
  go_wp2_with fail
  refine hK.out _ _ ?_ (fun hHeld => ?_)
  · (try dsimp only)
    exact two_cY hdr hxl HC0.out
  clear hK K
  try simp only [Act.put, List.setIfInBounds_toArray, List.set_cons_zero, List.set_cons_succ]
  refine hT 39 hHeld ?_
  refine hT 40 hHeld ?_
  refine hT 41 hHeld ?_
  refine wpAnyH_done (by kernel_rfl) ?_ _
  have hfin := HBW.out.trans (hdr.mono HBW.out.size)
  clear hHeld HC0 hdr
  go_wp2
  go_ret
  exact ⟨rfl, hfin⟩

end Go.Proofs.Ytadgifeakfcljaa
