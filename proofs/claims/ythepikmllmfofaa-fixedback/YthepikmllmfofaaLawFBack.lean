/-
  foundrylaw03.FixedBack: the walk.
-/
import Derived.Test.YthepikmllmfofaaT4
import Derived.Test.YthepikmllmfofaaOnce0
import Derived.Test.YthepikmllmfofaaReg
import Derived.Test.YthepikmllmfofaaPair
import Derived.Deep.RegionHeld3
namespace Go.Proofs.Ythepikmllmfofaa
open Go.RowKit Classical
set_option linter.unusedSimpArgs false
set_option linter.unusedVariables false

theorem c14_clp (z : Int) : clp z (-16384) 16384 = c14 z := by
  unfold clp c14
  split <;> split <;> (try split) <;> omega
theorem floor_is {q : Rat} {z : Int} (h1 : (z : Rat) ≤ q) (h2 : q < (z : Rat) + 1) : q.floor = z := by
  have f1 := Rat.floor_le q
  have f2 := Rat.lt_floor (x := q)
  generalize q.floor = y at *
  have g1 : ((y : Int) : Rat) < ((z + 1 : Int) : Rat) := by rw [Rat.intCast_add]; grind
  have g2 : ((z - 1 : Int) : Rat) < ((y : Int) : Rat) := by rw [Rat.intCast_sub]; grind
  have := Rat.intCast_lt_intCast.1 g1
  have := Rat.intCast_lt_intCast.1 g2
  omega
theorem back_same (z : Int) : to14 ((z : Rat) / ((16384 : Int) : Rat)) = c14 z := by
  have e : (z : Rat) / ((16384 : Int) : Rat) * 16384 = (z : Rat) := by
    rw [Rat.div_def, Rat.mul_assoc]
    have : ((16384 : Int) : Rat)⁻¹ * 16384 = 1 := by decide +kernel
    rw [this, Rat.mul_one]
  unfold to14
  rw [e, floor_is (z := z) (by grind) (by grind)]
theorem back_near (z p : Int) (h1 : -64 ≤ p) (h2 : p < 64) : to14 ((z : Rat) / ((16384 : Int) : Rat) + (p : Rat) / ((2097152 : Int) : Rat)) = c14 z := by
  have e : ((z : Rat) / ((16384 : Int) : Rat) + (p : Rat) / ((2097152 : Int) : Rat)) * 16384 = (z : Rat) + (p : Rat) * (1 / 128) := by
    rw [Rat.add_mul, Rat.div_def, Rat.div_def, Rat.mul_assoc, Rat.mul_assoc]
    have a1 : ((16384 : Int) : Rat)⁻¹ * 16384 = 1 := by decide +kernel
    have a2 : ((2097152 : Int) : Rat)⁻¹ * 16384 = 1 / 128 := by decide +kernel
    rw [a1, a2, Rat.mul_one]
  have p1 : ((-64 : Int) : Rat) ≤ (p : Rat) := Rat.intCast_le_intCast.2 h1
  have p2 : (p : Rat) ≤ ((63 : Int) : Rat) := Rat.intCast_le_intCast.2 (by omega)
  unfold to14
  rw [e, floor_is (z := z) (by grind) (by grind)]

set_option maxHeartbeats 3000000 in
set_option maxRecDepth 100000 in
theorem walkFixedBack (z t : Int) (w : World) (wz : (Lit.int .i16 z).wf = true) (wt : (Lit.int .u8 t).wf = true) :
    Calls Try.prog 5 #[.int .i16 z, .int .u8 t] w fun e w' => e = .returned (.bool true) ∧ Below w.heap.size w w' := by
  have hz := wf_i16_bounds wz
  have ht := wf_u8_bounds wt
  clear wz wt
  have m1 := Int.emod_nonneg t (show (128 : Int) ≠ 0 by omega)
  have m2 := Int.emod_lt_of_pos t (show (0 : Int) < 128 by omega)
  rw [← Int.tmod_eq_emod_of_nonneg ht.1] at m1 m2
  obtain ⟨r, hr⟩ : ∃ r, t.tmod 128 = r := ⟨_, rfl⟩
  rw [hr] at m1 m2
  have bz : -9223372036854775808 ≤ z ∧ z < 9223372036854775808 := by omega
  have br : -9223372036854775808 ≤ r - 64 ∧ r - 64 < 9223372036854775808 := by omega
  have jr : IntKind.i64.wrap r = r := by rw [wrap_i64]; split <;> omega
  have jr2 : IntKind.i64.wrap (r - 64) = r - 64 := by rw [wrap_i64]; split <;> omega
  have C0 : Hid (clp z (-16384) 16384 = c14 z) := c14_clp z
  have C1 : Hid (to14 ((z : Rat) / ((16384 : Int) : Rat)) = c14 z) := back_same z
  have C2 : Hid (to14 ((z : Rat) / ((16384 : Int) : Rat) + ((r - 64 : Int) : Rat) / ((2097152 : Int) : Rat)) = c14 z) := back_near z (r - 64) (by omega) (by omega)
  have C3 : Hid (crd z = true → c14 z = z) := by
    intro hc
    have : -16384 ≤ z ∧ z ≤ 16384 := by unfold crd at hc; simpa using hc
    unfold c14
    rw [if_neg (by omega), if_neg (by omega)]
  go_enter Try.func5, Try.ntmps5
  have hbW : Below w.heap.size w w := Below.refl _ _
  go_wp2_with fail
  refine (awake3_any _).mono ?_
  rintro e u1 ⟨rfl, hb1⟩
  replace hbW : Below w.heap.size w u1 := hbW.trans (hb1.mono hbW.size)
  clear hb1
  go_wp2_with fail
  refine (of14_any z _ bz.1 bz.2).mono ?_
  rintro e u2 ⟨v1, rfl, h1, hb2⟩
  replace hbW : Below w.heap.size w u2 := hbW.trans (hb2.mono hbW.size)
  clear hb2
  have hX := h1.ct
  obtain ⟨nx, xx, yx, ⟨ax, cx, bx, dx, rfl, _, _⟩, _⟩ := h1
  go_wp2_with fail
  obtain ⟨W2, hW2, B1, hb2⟩ : ∃ W2, W2 = u2.alloc (.cells #[.bool nx, .slice ax xx.length cx, .slice bx yx.length dx] 25) ∧ Box 25 W2 u2.heap.size (.bool nx) (.slice ax xx.length cx) (.slice bx yx.length dx) ∧ Below u2.heap.size u2 W2 := ⟨_, rfl, Box.new _ _ _ _ _, al1 _⟩
  rw [← hW2]
  clear hW2
  have hle : w.heap.size ≤ u2.heap.size := hbW.size
  replace hX := hX.below hb2
  replace hbW : Below w.heap.size w W2 := hbW.trans (hb2.mono hbW.size)
  clear hb2
  generalize u2.heap.size = b1 at B1 hle ⊢
  obtain ⟨p00, p01, p02, _⟩ := B1.cells
  refine wp_region_held_drew (S := (fun u => u.cell? ⟨b1, 0, none⟩ = some (.bool nx) ∧ u.cell? ⟨b1, 1, none⟩ = some (.slice ax xx.length cx) ∧ u.cell? ⟨b1, 2, none⟩ = some (.slice bx yx.length dx))) (by kernel_rfl) ?_ (fun hHeld => ?_)
  · (try dsimp only)
    go_keep
  have hdr : Below W2.heap.size W2 W2.drew := Below.drew1
  generalize W2.drew = ud238 at hdr hHeld ⊢
  replace hX := hX.below hdr
  replace B1 := B1.below hdr
  replace hbW : Below w.heap.size w ud238 := hbW.trans (hdr.mono hbW.size)
  clear hdr
  clear p00 p01 p02
  obtain ⟨p00, p01, p02, _⟩ := B1.cells
  refine hTake (i := 0) (v := ?v239) rfl (by kernel_rfl) (by kernel_rfl) (by kernel_rfl) (fun _ _ _ h => h) (Or.inl ⟨by rfl, ?y239⟩) hHeld ?r239
  case y239 =>
    intro w9 hSw
    (try dsimp only at hSw)
    go_simp
    try with_reducible rfl
  try simp only [Act.put, List.setIfInBounds_toArray, List.set_cons_zero, List.set_cons_succ]
  refine hTake (i := 1) (v := ?v240) rfl (by kernel_rfl) (by kernel_rfl) (by kernel_rfl) (fun _ _ _ h => h) (Or.inl ⟨by rfl, ?y240⟩) hHeld ?r240
  case y240 =>
    intro w9 hSw
    (try dsimp only at hSw)
    go_simp
    try with_reducible rfl
  try simp only [Act.put, List.setIfInBounds_toArray, List.set_cons_zero, List.set_cons_succ]
  refine hTake (i := 2) (v := ?v241) rfl (by kernel_rfl) (by kernel_rfl) (by kernel_rfl) (fun _ _ _ h => h) (Or.inl ⟨by rfl, ?y241⟩) hHeld ?r241
  case y241 =>
    intro w9 hSw
    (try dsimp only at hSw)
    go_simp
    try with_reducible rfl
  try simp only [Act.put, List.setIfInBounds_toArray, List.set_cons_zero, List.set_cons_succ]
  refine hTake (i := 3) (v := ?v242) rfl (by kernel_rfl) (by kernel_rfl) (by kernel_rfl) (fun _ _ _ h => h) (Or.inl ⟨by rfl, ?y242⟩) hHeld ?r242
  case y242 =>
    intro w9 hSw
    (try dsimp only at hSw)
    go_simp
    try with_reducible rfl
  try simp only [Act.put, List.setIfInBounds_toArray, List.set_cons_zero, List.set_cons_succ]
  refine hTake (i := 4) (v := ?v243) rfl (by kernel_rfl) (by kernel_rfl) (by kernel_rfl) (fun _ _ _ h => h) (Or.inl ⟨by rfl, ?y243⟩) hHeld ?r243
  case y243 =>
    intro w9 hSw
    (try dsimp only at hSw)
    go_simp
    try with_reducible rfl
  try simp only [Act.put, List.setIfInBounds_toArray, List.set_cons_zero, List.set_cons_succ]
  refine wpAnyH_ready (rs := [5, 7]) (by kernel_rfl) (by simp) (hCons (i := 5) rfl (by rfl) (fun K hK => ?_) (hCons (i := 7) rfl (by rfl) (fun K hK => ?_) AllReadyH.nil))
  · go_simp
    refine (make_any (r - 64) 2097152 _ br.1 br.2 (by decide) (by decide)).mono ?_
    rintro e u3 ⟨vm, rfl, hm, hb3⟩
    replace hX := hX.below hb3
    replace B1 := B1.below hb3
    replace hbW : Below w.heap.size w u3 := hbW.trans (hb3.mono hbW.size)
    clear hb3
    clear p00 p01 p02
    obtain ⟨p00, p01, p02, _⟩ := B1.cells
    go_wp2_with fail
    refine hK.out _ _ ?_ (fun hHeld => ?_)
    · (try dsimp only)
      exact ⟨p00, p01, p02⟩
    clear hK K
    try simp only [Act.put, List.setIfInBounds_toArray, List.set_cons_zero, List.set_cons_succ]
    refine wpAnyH_ready (rs := [6, 7]) (by kernel_rfl) (by simp) (hCons (i := 6) rfl (by rfl) (fun K hK => ?_) (hCons (i := 7) rfl (by rfl) (fun K hK => ?_) AllReadyH.nil))
    · go_simp
      refine (qadd_any 2 2 _ _ _ _ _ hX hm.ct (by decide) (by decide) (by decide) (by decide)).mono ?_
      rintro e u4 ⟨vn, rfl, hn, hb4⟩
      replace hX := hX.below hb4
      replace hm := hm.below hb4
      replace B1 := B1.below hb4
      replace hbW : Below w.heap.size w u4 := hbW.trans (hb4.mono hbW.size)
      clear hb4 hm
      have hN := hn.ct
      obtain ⟨nn, xn, yn, ⟨an, cn, bn, dn, rfl, _, _⟩, _⟩ := hn
      clear p00 p01 p02
      obtain ⟨p00, p01, p02, _⟩ := B1.cells
      go_wp2_with fail
      refine hK.out _ _ ?_ (fun hHeld => ?_)
      · (try dsimp only)
        exact ⟨p00, p01, p02⟩
      clear hK K
      try simp only [Act.put, List.setIfInBounds_toArray, List.set_cons_zero, List.set_cons_succ]
      refine hCall (i := 7) rfl (by kernel_rfl) (by rfl) (fun K hK => ?_)
      go_simp
      obtain ⟨u5, hU, B2, hb9⟩ : ∃ U, U = u4.alloc (.cells #[.bool false, .slice none 0 0, .slice none 0 0] 25) ∧ Box 25 U u4.heap.size (.bool false) (.slice none 0 0) (.slice none 0 0) ∧ Below u4.heap.size u4 U := ⟨_, rfl, Box.new _ _ _ _ _, al1 _⟩
      rw [← hU]
      clear hU
      have hl2 : w.heap.size ≤ u4.heap.size := hbW.size
      have hne : b1 ≠ u4.heap.size := Nat.ne_of_lt B1.lt
      replace hX := hX.below hb9
      replace hN := hN.below hb9
      replace B1 := B1.below hb9
      replace hbW : Below w.heap.size w u5 := hbW.trans (hb9.mono hbW.size)
      clear hb9
      generalize u4.heap.size = b2 at B2 hl2 hne ⊢
      clear p00 p01 p02
      obtain ⟨p00, p01, p02, _⟩ := B1.cells
      obtain ⟨p10, p11, p12, _⟩ := B2.cells
      refine hK.out _ _ ?_ (fun hHeld => ?_)
      · (try dsimp only)
        exact ⟨p00, p01, p02⟩
      clear hK K
      try simp only [Act.put, List.setIfInBounds_toArray, List.set_cons_zero, List.set_cons_succ]
      refine hCall (i := 8) rfl (by kernel_rfl) (by rfl) (fun K hK => ?_)
      go_simp
      obtain ⟨u6, hU, A2, hbU, hK9, ho⟩ := set3_world B2 (.bool nn) (.slice an xn.length cn) (.slice bn yn.length dn)
      rw [← hU]
      clear hU
      replace hbW := hbU _ _ hbW hl2
      replace hX := hX.keep hK9
      replace hN := hN.keep hK9
      replace B1 := B1.other ho hne
      clear hbU hK9 ho
      clear p00 p01 p02 p10 p11 p12
      obtain ⟨p00, p01, p02, _⟩ := B1.cells
      obtain ⟨p10, p11, p12, _⟩ := A2.cells
      refine hK.out _ _ ?_ (fun hHeld => ?_)
      · (try dsimp only)
        exact ⟨p00, p01, p02⟩
      clear hK K
      try simp only [Act.put, List.setIfInBounds_toArray, List.set_cons_zero, List.set_cons_succ]
      refine wpAnyH_done (by kernel_rfl) ?_ _
      clear hHeld
      go_wp2_with fail
      refine (coordB_any z _).mono ?_
      rintro e u7 ⟨rfl, hb7⟩
      replace hX := hX.below hb7
      replace hN := hN.below hb7
      replace B1 := B1.below hb7
      replace A2 := A2.below hb7
      replace hbW : Below w.heap.size w u7 := hbW.trans (hb7.mono hbW.size)
      clear hb7
      clear p00 p01 p02 p10 p11 p12
      obtain ⟨p00, p01, p02, _⟩ := B1.cells
      obtain ⟨p10, p11, p12, _⟩ := A2.cells
      by_cases hc : crd z = true
      · have e3 := C3.out hc
        have E3 : Hid (c14 z = z) := e3
        clear e3
        rw [hc]
        clear hc
        have i1 : (z == z) = true := by simp
        go_wp2_with fail
        refine (to14_any 2 _ _ _ hX (by decide) (by decide)).mono ?_
        rintro e u8 ⟨rfl, hb8⟩
        replace hX := hX.below hb8
        replace hN := hN.below hb8
        replace B1 := B1.below hb8
        replace A2 := A2.below hb8
        replace hbW : Below w.heap.size w u8 := hbW.trans (hb8.mono hbW.size)
        clear hb8
        clear p00 p01 p02 p10 p11 p12
        obtain ⟨p00, p01, p02, _⟩ := B1.cells
        obtain ⟨p10, p11, p12, _⟩ := A2.cells
        rw [C1.out, E3.out]
        go_wp2_with fail
        refine (to14_any 5 _ _ _ hN (by decide) (by decide)).mono ?_
        rintro e u9 ⟨rfl, hb9⟩
        replace hX := hX.below hb9
        replace hN := hN.below hb9
        replace B1 := B1.below hb9
        replace A2 := A2.below hb9
        replace hbW : Below w.heap.size w u9 := hbW.trans (hb9.mono hbW.size)
        clear hb9
        clear p00 p01 p02 p10 p11 p12
        obtain ⟨p00, p01, p02, _⟩ := B1.cells
        obtain ⟨p10, p11, p12, _⟩ := A2.cells
        rw [C2.out, E3.out]
        go_wp2_with fail
        refine (clampB_any z (-16384) 16384 _).mono ?_
        rintro e u10 ⟨rfl, hb10⟩
        replace hX := hX.below hb10
        replace hN := hN.below hb10
        replace B1 := B1.below hb10
        replace A2 := A2.below hb10
        replace hbW : Below w.heap.size w u10 := hbW.trans (hb10.mono hbW.size)
        clear hb10
        clear p00 p01 p02 p10 p11 p12
        obtain ⟨p00, p01, p02, _⟩ := B1.cells
        obtain ⟨p10, p11, p12, _⟩ := A2.cells
        rw [C0.out, E3.out]
        go_wp2
        go_ret
        exact ⟨rfl, hbW⟩
      · rw [show crd z = false by simpa using hc]
        clear hc
        obtain ⟨f, hf⟩ : ∃ f, c14 z = f := ⟨_, rfl⟩
        have i1 : (f == f) = true := by simp
        have HF : Hid (c14 z = f) := hf
        clear hf
        go_wp2_with fail
        refine (to14_any 2 _ _ _ hX (by decide) (by decide)).mono ?_
        rintro e u8 ⟨rfl, hb8⟩
        replace hX := hX.below hb8
        replace hN := hN.below hb8
        replace B1 := B1.below hb8
        replace A2 := A2.below hb8
        replace hbW : Below w.heap.size w u8 := hbW.trans (hb8.mono hbW.size)
        clear hb8
        clear p00 p01 p02 p10 p11 p12
        obtain ⟨p00, p01, p02, _⟩ := B1.cells
        obtain ⟨p10, p11, p12, _⟩ := A2.cells
        rw [C1.out, HF.out]
        go_wp2_with fail
        refine (clampB_any z (-16384) 16384 _).mono ?_
        rintro e u9 ⟨rfl, hb9⟩
        replace hX := hX.below hb9
        replace hN := hN.below hb9
        replace B1 := B1.below hb9
        replace A2 := A2.below hb9
        replace hbW : Below w.heap.size w u9 := hbW.trans (hb9.mono hbW.size)
        clear hb9
        clear p00 p01 p02 p10 p11 p12
        obtain ⟨p00, p01, p02, _⟩ := B1.cells
        obtain ⟨p10, p11, p12, _⟩ := A2.cells
        rw [C0.out, HF.out]
        go_wp2
        go_ret
        exact ⟨rfl, hbW⟩
    · go_simp
      obtain ⟨u4, hU, B2, hb9⟩ : ∃ U, U = u3.alloc (.cells #[.bool false, .slice none 0 0, .slice none 0 0] 25) ∧ Box 25 U u3.heap.size (.bool false) (.slice none 0 0) (.slice none 0 0) ∧ Below u3.heap.size u3 U := ⟨_, rfl, Box.new _ _ _ _ _, al1 _⟩
      rw [← hU]
      clear hU
      have hl2 : w.heap.size ≤ u3.heap.size := hbW.size
      have hne : b1 ≠ u3.heap.size := Nat.ne_of_lt B1.lt
      replace hX := hX.below hb9
      replace hm := hm.below hb9
      replace B1 := B1.below hb9
      replace hbW : Below w.heap.size w u4 := hbW.trans (hb9.mono hbW.size)
      clear hb9
      generalize u3.heap.size = b2 at B2 hl2 hne ⊢
      clear p00 p01 p02
      obtain ⟨p00, p01, p02, _⟩ := B1.cells
      obtain ⟨p10, p11, p12, _⟩ := B2.cells
      refine hK.out _ _ ?_ (fun hHeld => ?_)
      · (try dsimp only)
        exact ⟨p00, p01, p02⟩
      clear hK K
      try simp only [Act.put, List.setIfInBounds_toArray, List.set_cons_zero, List.set_cons_succ]
      refine hCall (i := 6) rfl (by kernel_rfl) (by rfl) (fun K hK => ?_)
      go_simp
      refine (qadd_any 2 2 _ _ _ _ _ hX hm.ct (by decide) (by decide) (by decide) (by decide)).mono ?_
      rintro e u5 ⟨vn, rfl, hn, hb5⟩
      replace hX := hX.below hb5
      replace hm := hm.below hb5
      replace B1 := B1.below hb5
      replace B2 := B2.below hb5
      replace hbW : Below w.heap.size w u5 := hbW.trans (hb5.mono hbW.size)
      clear hb5 hm
      have hN := hn.ct
      obtain ⟨nn, xn, yn, ⟨an, cn, bn, dn, rfl, _, _⟩, _⟩ := hn
      clear p00 p01 p02 p10 p11 p12
      obtain ⟨p00, p01, p02, _⟩ := B1.cells
      obtain ⟨p10, p11, p12, _⟩ := B2.cells
      go_wp2_with fail
      refine hK.out _ _ ?_ (fun hHeld => ?_)
      · (try dsimp only)
        exact ⟨p00, p01, p02⟩
      clear hK K
      try simp only [Act.put, List.setIfInBounds_toArray, List.set_cons_zero, List.set_cons_succ]
      refine hCall (i := 8) rfl (by kernel_rfl) (by rfl) (fun K hK => ?_)
      go_simp
      obtain ⟨u6, hU, A2, hbU, hK9, ho⟩ := set3_world B2 (.bool nn) (.slice an xn.length cn) (.slice bn yn.length dn)
      rw [← hU]
      clear hU
      replace hbW := hbU _ _ hbW hl2
      replace hX := hX.keep hK9
      replace hN := hN.keep hK9
      replace B1 := B1.other ho hne
      clear hbU hK9 ho
      clear p00 p01 p02 p10 p11 p12
      obtain ⟨p00, p01, p02, _⟩ := B1.cells
      obtain ⟨p10, p11, p12, _⟩ := A2.cells
      refine hK.out _ _ ?_ (fun hHeld => ?_)
      · (try dsimp only)
        exact ⟨p00, p01, p02⟩
      clear hK K
      try simp only [Act.put, List.setIfInBounds_toArray, List.set_cons_zero, List.set_cons_succ]
      refine wpAnyH_done (by kernel_rfl) ?_ _
      clear hHeld
      go_wp2_with fail
      refine (coordB_any z _).mono ?_
      rintro e u7 ⟨rfl, hb7⟩
      replace hX := hX.below hb7
      replace hN := hN.below hb7
      replace B1 := B1.below hb7
      replace A2 := A2.below hb7
      replace hbW : Below w.heap.size w u7 := hbW.trans (hb7.mono hbW.size)
      clear hb7
      clear p00 p01 p02 p10 p11 p12
      obtain ⟨p00, p01, p02, _⟩ := B1.cells
      obtain ⟨p10, p11, p12, _⟩ := A2.cells
      by_cases hc : crd z = true
      · have e3 := C3.out hc
        have E3 : Hid (c14 z = z) := e3
        clear e3
        rw [hc]
        clear hc
        have i1 : (z == z) = true := by simp
        go_wp2_with fail
        refine (to14_any 2 _ _ _ hX (by decide) (by decide)).mono ?_
        rintro e u8 ⟨rfl, hb8⟩
        replace hX := hX.below hb8
        replace hN := hN.below hb8
        replace B1 := B1.below hb8
        replace A2 := A2.below hb8
        replace hbW : Below w.heap.size w u8 := hbW.trans (hb8.mono hbW.size)
        clear hb8
        clear p00 p01 p02 p10 p11 p12
        obtain ⟨p00, p01, p02, _⟩ := B1.cells
        obtain ⟨p10, p11, p12, _⟩ := A2.cells
        rw [C1.out, E3.out]
        go_wp2_with fail
        refine (to14_any 5 _ _ _ hN (by decide) (by decide)).mono ?_
        rintro e u9 ⟨rfl, hb9⟩
        replace hX := hX.below hb9
        replace hN := hN.below hb9
        replace B1 := B1.below hb9
        replace A2 := A2.below hb9
        replace hbW : Below w.heap.size w u9 := hbW.trans (hb9.mono hbW.size)
        clear hb9
        clear p00 p01 p02 p10 p11 p12
        obtain ⟨p00, p01, p02, _⟩ := B1.cells
        obtain ⟨p10, p11, p12, _⟩ := A2.cells
        rw [C2.out, E3.out]
        go_wp2_with fail
        refine (clampB_any z (-16384) 16384 _).mono ?_
        rintro e u10 ⟨rfl, hb10⟩
        replace hX := hX.below hb10
        replace hN := hN.below hb10
        replace B1 := B1.below hb10
        replace A2 := A2.below hb10
        replace hbW : Below w.heap.size w u10 := hbW.trans (hb10.mono hbW.size)
        clear hb10
        clear p00 p01 p02 p10 p11 p12
        obtain ⟨p00, p01, p02, _⟩ := B1.cells
        obtain ⟨p10, p11, p12, _⟩ := A2.cells
        rw [C0.out, E3.out]
        go_wp2
        go_ret
        exact ⟨rfl, hbW⟩
      · rw [show crd z = false by simpa using hc]
        clear hc
        obtain ⟨f, hf⟩ : ∃ f, c14 z = f := ⟨_, rfl⟩
        have i1 : (f == f) = true := by simp
        have HF : Hid (c14 z = f) := hf
        clear hf
        go_wp2_with fail
        refine (to14_any 2 _ _ _ hX (by decide) (by decide)).mono ?_
        rintro e u8 ⟨rfl, hb8⟩
        replace hX := hX.below hb8
        replace hN := hN.below hb8
        replace B1 := B1.below hb8
        replace A2 := A2.below hb8
        replace hbW : Below w.heap.size w u8 := hbW.trans (hb8.mono hbW.size)
        clear hb8
        clear p00 p01 p02 p10 p11 p12
        obtain ⟨p00, p01, p02, _⟩ := B1.cells
        obtain ⟨p10, p11, p12, _⟩ := A2.cells
        rw [C1.out, HF.out]
        go_wp2_with fail
        refine (clampB_any z (-16384) 16384 _).mono ?_
        rintro e u9 ⟨rfl, hb9⟩
        replace hX := hX.below hb9
        replace hN := hN.below hb9
        replace B1 := B1.below hb9
        replace A2 := A2.below hb9
        replace hbW : Below w.heap.size w u9 := hbW.trans (hb9.mono hbW.size)
        clear hb9
        clear p00 p01 p02 p10 p11 p12
        obtain ⟨p00, p01, p02, _⟩ := B1.cells
        obtain ⟨p10, p11, p12, _⟩ := A2.cells
        rw [C0.out, HF.out]
        go_wp2
        go_ret
        exact ⟨rfl, hbW⟩
  · go_simp
    obtain ⟨u3, hU, B2, hb9⟩ : ∃ U, U = ud238.alloc (.cells #[.bool false, .slice none 0 0, .slice none 0 0] 25) ∧ Box 25 U ud238.heap.size (.bool false) (.slice none 0 0) (.slice none 0 0) ∧ Below ud238.heap.size ud238 U := ⟨_, rfl, Box.new _ _ _ _ _, al1 _⟩
    rw [← hU]
    clear hU
    have hl2 : w.heap.size ≤ ud238.heap.size := hbW.size
    have hne : b1 ≠ ud238.heap.size := Nat.ne_of_lt B1.lt
    replace hX := hX.below hb9
    replace B1 := B1.below hb9
    replace hbW : Below w.heap.size w u3 := hbW.trans (hb9.mono hbW.size)
    clear hb9
    generalize ud238.heap.size = b2 at B2 hl2 hne ⊢
    clear p00 p01 p02
    obtain ⟨p00, p01, p02, _⟩ := B1.cells
    obtain ⟨p10, p11, p12, _⟩ := B2.cells
    refine hK.out _ _ ?_ (fun hHeld => ?_)
    · (try dsimp only)
      exact ⟨p00, p01, p02⟩
    clear hK K
    try simp only [Act.put, List.setIfInBounds_toArray, List.set_cons_zero, List.set_cons_succ]
    refine hCall (i := 5) rfl (by kernel_rfl) (by rfl) (fun K hK => ?_)
    go_simp
    refine (make_any (r - 64) 2097152 _ br.1 br.2 (by decide) (by decide)).mono ?_
    rintro e u4 ⟨vm, rfl, hm, hb4⟩
    replace hX := hX.below hb4
    replace B1 := B1.below hb4
    replace B2 := B2.below hb4
    replace hbW : Below w.heap.size w u4 := hbW.trans (hb4.mono hbW.size)
    clear hb4
    clear p00 p01 p02 p10 p11 p12
    obtain ⟨p00, p01, p02, _⟩ := B1.cells
    obtain ⟨p10, p11, p12, _⟩ := B2.cells
    go_wp2_with fail
    refine hK.out _ _ ?_ (fun hHeld => ?_)
    · (try dsimp only)
      exact ⟨p00, p01, p02⟩
    clear hK K
    try simp only [Act.put, List.setIfInBounds_toArray, List.set_cons_zero, List.set_cons_succ]
    refine hCall (i := 6) rfl (by kernel_rfl) (by rfl) (fun K hK => ?_)
    go_simp
    refine (qadd_any 2 2 _ _ _ _ _ hX hm.ct (by decide) (by decide) (by decide) (by decide)).mono ?_
    rintro e u5 ⟨vn, rfl, hn, hb5⟩
    replace hX := hX.below hb5
    replace hm := hm.below hb5
    replace B1 := B1.below hb5
    replace B2 := B2.below hb5
    replace hbW : Below w.heap.size w u5 := hbW.trans (hb5.mono hbW.size)
    clear hb5 hm
    have hN := hn.ct
    obtain ⟨nn, xn, yn, ⟨an, cn, bn, dn, rfl, _, _⟩, _⟩ := hn
    clear p00 p01 p02 p10 p11 p12
    obtain ⟨p00, p01, p02, _⟩ := B1.cells
    obtain ⟨p10, p11, p12, _⟩ := B2.cells
    go_wp2_with fail
    refine hK.out _ _ ?_ (fun hHeld => ?_)
    · (try dsimp only)
      exact ⟨p00, p01, p02⟩
    clear hK K
    try simp only [Act.put, List.setIfInBounds_toArray, List.set_cons_zero, List.set_cons_succ]
    refine hCall (i := 8) rfl (by kernel_rfl) (by rfl) (fun K hK => ?_)
    go_simp
    obtain ⟨u6, hU, A2, hbU, hK9, ho⟩ := set3_world B2 (.bool nn) (.slice an xn.length cn) (.slice bn yn.length dn)
    rw [← hU]
    clear hU
    replace hbW := hbU _ _ hbW hl2
    replace hX := hX.keep hK9
    replace hN := hN.keep hK9
    replace B1 := B1.other ho hne
    clear hbU hK9 ho
    clear p00 p01 p02 p10 p11 p12
    obtain ⟨p00, p01, p02, _⟩ := B1.cells
    obtain ⟨p10, p11, p12, _⟩ := A2.cells
    refine hK.out _ _ ?_ (fun hHeld => ?_)
    · (try dsimp only)
      exact ⟨p00, p01, p02⟩
    clear hK K
    try simp only [Act.put, List.setIfInBounds_toArray, List.set_cons_zero, List.set_cons_succ]
    refine wpAnyH_done (by kernel_rfl) ?_ _
    clear hHeld
    go_wp2_with fail
    refine (coordB_any z _).mono ?_
    rintro e u7 ⟨rfl, hb7⟩
    replace hX := hX.below hb7
    replace hN := hN.below hb7
    replace B1 := B1.below hb7
    replace A2 := A2.below hb7
    replace hbW : Below w.heap.size w u7 := hbW.trans (hb7.mono hbW.size)
    clear hb7
    clear p00 p01 p02 p10 p11 p12
    obtain ⟨p00, p01, p02, _⟩ := B1.cells
    obtain ⟨p10, p11, p12, _⟩ := A2.cells
    by_cases hc : crd z = true
    · have e3 := C3.out hc
      have E3 : Hid (c14 z = z) := e3
      clear e3
      rw [hc]
      clear hc
      have i1 : (z == z) = true := by simp
      go_wp2_with fail
      refine (to14_any 2 _ _ _ hX (by decide) (by decide)).mono ?_
      rintro e u8 ⟨rfl, hb8⟩
      replace hX := hX.below hb8
      replace hN := hN.below hb8
      replace B1 := B1.below hb8
      replace A2 := A2.below hb8
      replace hbW : Below w.heap.size w u8 := hbW.trans (hb8.mono hbW.size)
      clear hb8
      clear p00 p01 p02 p10 p11 p12
      obtain ⟨p00, p01, p02, _⟩ := B1.cells
      obtain ⟨p10, p11, p12, _⟩ := A2.cells
      rw [C1.out, E3.out]
      go_wp2_with fail
      refine (to14_any 5 _ _ _ hN (by decide) (by decide)).mono ?_
      rintro e u9 ⟨rfl, hb9⟩
      replace hX := hX.below hb9
      replace hN := hN.below hb9
      replace B1 := B1.below hb9
      replace A2 := A2.below hb9
      replace hbW : Below w.heap.size w u9 := hbW.trans (hb9.mono hbW.size)
      clear hb9
      clear p00 p01 p02 p10 p11 p12
      obtain ⟨p00, p01, p02, _⟩ := B1.cells
      obtain ⟨p10, p11, p12, _⟩ := A2.cells
      rw [C2.out, E3.out]
      go_wp2_with fail
      refine (clampB_any z (-16384) 16384 _).mono ?_
      rintro e u10 ⟨rfl, hb10⟩
      replace hX := hX.below hb10
      replace hN := hN.below hb10
      replace B1 := B1.below hb10
      replace A2 := A2.below hb10
      replace hbW : Below w.heap.size w u10 := hbW.trans (hb10.mono hbW.size)
      clear hb10
      clear p00 p01 p02 p10 p11 p12
      obtain ⟨p00, p01, p02, _⟩ := B1.cells
      obtain ⟨p10, p11, p12, _⟩ := A2.cells
      rw [C0.out, E3.out]
      go_wp2
      go_ret
      exact ⟨rfl, hbW⟩
    · rw [show crd z = false by simpa using hc]
      clear hc
      obtain ⟨f, hf⟩ : ∃ f, c14 z = f := ⟨_, rfl⟩
      have i1 : (f == f) = true := by simp
      have HF : Hid (c14 z = f) := hf
      clear hf
      go_wp2_with fail
      refine (to14_any 2 _ _ _ hX (by decide) (by decide)).mono ?_
      rintro e u8 ⟨rfl, hb8⟩
      replace hX := hX.below hb8
      replace hN := hN.below hb8
      replace B1 := B1.below hb8
      replace A2 := A2.below hb8
      replace hbW : Below w.heap.size w u8 := hbW.trans (hb8.mono hbW.size)
      clear hb8
      clear p00 p01 p02 p10 p11 p12
      obtain ⟨p00, p01, p02, _⟩ := B1.cells
      obtain ⟨p10, p11, p12, _⟩ := A2.cells
      rw [C1.out, HF.out]
      go_wp2_with fail
      refine (clampB_any z (-16384) 16384 _).mono ?_
      rintro e u9 ⟨rfl, hb9⟩
      replace hX := hX.below hb9
      replace hN := hN.below hb9
      replace B1 := B1.below hb9
      replace A2 := A2.below hb9
      replace hbW : Below w.heap.size w u9 := hbW.trans (hb9.mono hbW.size)
      clear hb9
      clear p00 p01 p02 p10 p11 p12
      obtain ⟨p00, p01, p02, _⟩ := B1.cells
      obtain ⟨p10, p11, p12, _⟩ := A2.cells
      rw [C0.out, HF.out]
      go_wp2
      go_ret
      exact ⟨rfl, hbW⟩

end Go.Proofs.Ythepikmllmfofaa
