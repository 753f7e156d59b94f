/-
  foundrylaw03.FixedEnds: the walk.
-/
import Derived.Test.YthepikmllmfofaaT4
import Derived.Test.YthepikmllmfofaaOnce0
import Derived.Test.YthepikmllmfofaaReg
import Derived.Test.YthepikmllmfofaaPair
import Derived.Deep.RegionHeld3
namespace Go.Proofs.Ythepikmllmfofaa
open Go.RowKit Classical
set_option linter.unusedSimpArgs false
set_option linter.unusedVariables false

theorem nr4_small {x y n d : Int} (hx : -2147483648 ≤ x ∧ x < 2147483648) (hy : -2147483648 ≤ y ∧ y < 2147483648) (hn : 0 ≤ n ∧ n < 65536) (hd : 0 ≤ d ∧ d < 65536) : nr4 x y n d = true := by
  simp [nr4, nr]
  omega
theorem btw_eq {x y n d : Int} (h : nr4 x y n d = true) : btw x y n d = (x : Rat) + ((y : Rat) - (x : Rat)) * ((n : Rat) / (d : Rat)) := by
  unfold btw
  rw [if_pos h, Rat.intCast_sub]
theorem btw_zero {x y d : Int} (h : nr4 x y 0 d = true) : btw x y 0 d = (x : Rat) := by
  rw [btw_eq h]
  have : ((0 : Int) : Rat) = 0 := rfl
  rw [this, Rat.div_def, Rat.zero_mul, Rat.mul_zero, Rat.add_zero]
theorem btw_end {x y d : Int} (h : nr4 x y d d = true) (hd : 0 < d) : btw x y d d = (y : Rat) := by
  rw [btw_eq h]
  have hd' : (0 : Rat) < (d : Rat) := by exact_mod_cast hd
  have : (d : Rat) / (d : Rat) = 1 := by rw [Rat.div_def]; exact Rat.mul_inv_cancel _ (by grind)
  rw [this]
  grind
theorem part_bounds {n d : Int} (hn : 0 ≤ n) (hd : 0 < d) (h : n ≤ d) : (0 : Rat) ≤ (n : Rat) / (d : Rat) ∧ (n : Rat) / (d : Rat) ≤ 1 := by
  have hd' : (0 : Rat) < (d : Rat) := by exact_mod_cast hd
  have hn' : (0 : Rat) ≤ (n : Rat) := by exact_mod_cast hn
  have hh : (n : Rat) ≤ (d : Rat) := by exact_mod_cast h
  refine ⟨?_, ?_⟩
  · rw [Rat.div_def]
    exact Rat.mul_nonneg hn' (Rat.le_of_lt (Rat.inv_pos.2 hd'))
  · have h1 := Rat.mul_le_mul_of_nonneg_right hh (Rat.le_of_lt (Rat.inv_pos.2 hd'))
    rw [Rat.mul_inv_cancel _ (by grind)] at h1
    rw [Rat.div_def]
    exact h1
theorem btw_low {x y n d l : Int} (h : nr4 x y n d = true) (hn : 0 ≤ n) (hd : 0 < d) (hnd : n ≤ d) (hx : l ≤ x) (hy : l ≤ y) : (l : Rat) ≤ btw x y n d := by
  rw [btw_eq h]
  obtain ⟨p0, p1⟩ := part_bounds hn hd hnd
  generalize (n : Rat) / (d : Rat) = p at *
  have hx' : (l : Rat) ≤ (x : Rat) := by exact_mod_cast hx
  have hy' : (l : Rat) ≤ (y : Rat) := by exact_mod_cast hy
  have e : (x : Rat) + ((y : Rat) - (x : Rat)) * p = (l : Rat) + (((x : Rat) - l) * (1 - p) + ((y : Rat) - l) * p) := by grind
  have a1 : 0 ≤ ((x : Rat) - l) * (1 - p) := Rat.mul_nonneg (by grind) (by grind)
  have a2 : 0 ≤ ((y : Rat) - l) * p := Rat.mul_nonneg (by grind) p0
  grind
theorem btw_high {x y n d l : Int} (h : nr4 x y n d = true) (hn : 0 ≤ n) (hd : 0 < d) (hnd : n ≤ d) (hx : x ≤ l) (hy : y ≤ l) : btw x y n d ≤ (l : Rat) := by
  rw [btw_eq h]
  obtain ⟨p0, p1⟩ := part_bounds hn hd hnd
  generalize (n : Rat) / (d : Rat) = p at *
  have hx' : (x : Rat) ≤ (l : Rat) := by exact_mod_cast hx
  have hy' : (y : Rat) ≤ (l : Rat) := by exact_mod_cast hy
  have e : (x : Rat) + ((y : Rat) - (x : Rat)) * p = (l : Rat) - (((l : Rat) - x) * (1 - p) + ((l : Rat) - y) * p) := by grind
  have a1 : 0 ≤ ((l : Rat) - x) * (1 - p) := Rat.mul_nonneg (by grind) (by grind)
  have a2 : 0 ≤ ((l : Rat) - y) * p := Rat.mul_nonneg (by grind) p0
  grind
theorem sgn_self (q : Rat) : sgnQ (q - q) = 0 := by
  unfold sgnQ
  rw [if_pos (by grind)]
theorem sgn_ge {q : Rat} (h : 0 ≤ q) : 0 ≤ sgnQ q := by
  unfold sgnQ
  split
  · omega
  · rw [if_neg (by grind)]; omega
theorem sgn_le {q : Rat} (h : q ≤ 0) : sgnQ q ≤ 0 := by
  unfold sgnQ
  split
  · omega
  · rw [if_pos (by grind)]; omega

set_option maxHeartbeats 3000000 in
set_option maxRecDepth 100000 in
theorem walkFixedEnds (x y n d : Int) (w : World) (wx : (Lit.int .i32 x).wf = true) (wy : (Lit.int .i32 y).wf = true) (wn : (Lit.int .u16 n).wf = true) (wd : (Lit.int .u16 d).wf = true) :
    Calls Try.prog 7 #[.int .i32 x, .int .i32 y, .agg #[.int .u16 n, .int .u16 d]] w fun e w' => e = .returned (.bool true) ∧ Below w.heap.size w w' := by
  have hx := wf_i32_bounds wx
  have hy := wf_i32_bounds wy
  have hn := wf_u16_bounds wn
  have hd := wf_u16_bounds wd
  clear wx wy wn wd
  go_enter Try.func7, Try.ntmps7
  go_wp2_with fail
  obtain ⟨W, hW, B1, hbW⟩ : ∃ W, W = w.alloc (.cells #[.int .u16 n, .int .u16 d] 55) ∧ Box2 55 W w.heap.size (.int .u16 n) (.int .u16 d) ∧ Below w.heap.size w W := ⟨_, rfl, Box2.new _ _ _ _, al1 _⟩
  rw [← hW]
  clear hW
  obtain ⟨p00, p01⟩ := B1.cells
  refine wp_region_held_drew (S := (fun u => u.cell? ⟨w.heap.size, 0, none⟩ = some (.int .u16 n) ∧ u.cell? ⟨w.heap.size, 1, none⟩ = some (.int .u16 d))) (by kernel_rfl) ?_ (fun hHeld => ?_)
  · (try dsimp only)
    go_keep
  have hdr : Below W.heap.size W W.drew := Below.drew1
  generalize W.drew = ud175 at hdr hHeld ⊢
  replace B1 := B1.below hdr
  replace hbW : Below w.heap.size w ud175 := hbW.trans (hdr.mono hbW.size)
  clear hdr
  clear p00 p01
  obtain ⟨p00, p01⟩ := B1.cells
  refine hTake (i := 0) (v := ?v176) rfl (by kernel_rfl) (by kernel_rfl) (by kernel_rfl) (fun _ _ _ h => h) (Or.inl ⟨by rfl, ?y176⟩) hHeld ?r176
  case y176 =>
    intro w9 hSw
    (try dsimp only at hSw)
    go_simp
    try with_reducible rfl
  try simp only [Act.put, List.setIfInBounds_toArray, List.set_cons_zero, List.set_cons_succ]
  refine hTake (i := 1) (v := ?v177) rfl (by kernel_rfl) (by kernel_rfl) (by kernel_rfl) (fun _ _ _ h => h) (Or.inl ⟨by rfl, ?y177⟩) hHeld ?r177
  case y177 =>
    intro w9 hSw
    (try dsimp only at hSw)
    go_simp
    try with_reducible rfl
  try simp only [Act.put, List.setIfInBounds_toArray, List.set_cons_zero, List.set_cons_succ]
  refine hTake (i := 2) (v := ?v178) rfl (by kernel_rfl) (by kernel_rfl) (by kernel_rfl) (fun _ _ _ h => h) (Or.inl ⟨by rfl, ?y178⟩) hHeld ?r178
  case y178 =>
    intro w9 hSw
    (try dsimp only at hSw)
    go_simp
    try with_reducible rfl
  try simp only [Act.put, List.setIfInBounds_toArray, List.set_cons_zero, List.set_cons_succ]
  refine hTake (i := 3) (v := ?v179) rfl (by kernel_rfl) (by kernel_rfl) (by kernel_rfl) (fun _ _ _ h => h) (Or.inl ⟨by rfl, ?y179⟩) hHeld ?r179
  case y179 =>
    intro w9 hSw
    (try dsimp only at hSw)
    go_simp
    try with_reducible rfl
  try simp only [Act.put, List.setIfInBounds_toArray, List.set_cons_zero, List.set_cons_succ]
  refine hTake (i := 4) (v := ?v180) rfl (by kernel_rfl) (by kernel_rfl) (by kernel_rfl) (fun _ _ _ h => h) (Or.inl ⟨by rfl, ?y180⟩) hHeld ?r180
  case y180 =>
    intro w9 hSw
    (try dsimp only at hSw)
    go_simp
    try with_reducible rfl
  try simp only [Act.put, List.setIfInBounds_toArray, List.set_cons_zero, List.set_cons_succ]
  refine hTake (i := 5) (v := ?v181) rfl (by kernel_rfl) (by kernel_rfl) (by kernel_rfl) (fun _ _ _ h => h) (Or.inl ⟨by rfl, ?y181⟩) hHeld ?r181
  case y181 =>
    intro w9 hSw
    (try dsimp only at hSw)
    go_simp
    try with_reducible rfl
  try simp only [Act.put, List.setIfInBounds_toArray, List.set_cons_zero, List.set_cons_succ]
  refine wpAnyH_done (by kernel_rfl) ?_ _
  clear hHeld
  go_wp2_with fail
  refine (awake3_any _).mono ?_
  rintro e u1 ⟨rfl, hb1⟩
  replace B1 := B1.below hb1
  replace hbW : Below w.heap.size w u1 := hbW.trans (hb1.mono hbW.size)
  clear hb1
  clear p00 p01
  obtain ⟨p00, p01⟩ := B1.cells
  by_cases hd0 : d = 0
  · have g1 : (d == 0) = true := beq_iff_eq.2 hd0
    clear hd0
    go_wp2_with fail
    refine (awake3_any _).mono ?_
    rintro e uf ⟨rfl, hbf⟩
    go_wp2
    go_ret
    exact ⟨rfl, hbW.trans (hbf.mono hbW.size)⟩
  have g1 : (d == 0) = false := beq_eq_false_iff_ne.2 hd0
  have hd1 : 0 < d := by omega
  clear hd0
  have hm1 := Int.emod_nonneg n (show d + 1 ≠ 0 by omega)
  have hm2 := Int.emod_lt_of_pos n (show 0 < d + 1 by omega)
  obtain ⟨at', hat⟩ : ∃ z, n % (d + 1) = z := ⟨_, rfl⟩
  rw [hat] at hm1 hm2
  have N4 := nr4_small hx hy (show 0 ≤ at' ∧ at' < 65536 by omega) hd
  have N40 := nr4_small hx hy (show (0 : Int) ≤ 0 ∧ (0 : Int) < 65536 by omega) hd
  have N4d := nr4_small hx hy hd hd
  have HN : Hid (nr4 x y at' d = true ∧ nr4 x y 0 d = true ∧ nr4 x y d d = true) := ⟨N4, N40, N4d⟩
  clear N4 N40 N4d
  have HA : Hid (n % (d + 1) = at') := hat
  go_wp2_with fail
  have bx : -9223372036854775808 ≤ x ∧ x < 9223372036854775808 := by omega
  have bY : -9223372036854775808 ≤ y ∧ y < 9223372036854775808 := by omega
  have bd : -9223372036854775808 ≤ d ∧ d < 9223372036854775808 := by omega
  have b0 : -9223372036854775808 ≤ (0 : Int) ∧ (0 : Int) < 9223372036854775808 := by omega
  refine (between_any x y at' d _ bx bY (by omega) bd).mono ?_
  rintro e u2 ⟨vm, rfl, hm, hb2⟩
  replace B1 := B1.below hb2
  replace hbW : Below w.heap.size w u2 := hbW.trans (hb2.mono hbW.size)
  clear hb2
  clear p00 p01
  obtain ⟨p00, p01⟩ := B1.cells
  have hM := hm.ct
  obtain ⟨nm, xm, ym, ⟨am, cm, bm, dm, rfl, _, _⟩, _⟩ := hm
  rw [hat]
  clear hat
  by_cases hxy : x ≤ y
  · go_wp2_with fail
    obtain ⟨W2, hW2, B2, hb2⟩ : ∃ W2, W2 = u2.alloc (.cells #[.bool nm, .slice am xm.length cm, .slice bm ym.length dm] 25) ∧ Box 25 W2 u2.heap.size (.bool nm) (.slice am xm.length cm) (.slice bm ym.length dm) ∧ Below u2.heap.size u2 W2 := ⟨_, rfl, Box.new _ _ _ _ _, al1 _⟩
    rw [← hW2]
    clear hW2
    replace hM := hM.below hb2
    replace B1 := B1.below hb2
    replace hbW : Below w.heap.size w W2 := hbW.trans (hb2.mono hbW.size)
    clear hb2
    rw [show min x y = x by omega, show max x y = y by omega]
    have jd : IntKind.i64.wrap d = d := by rw [wrap_i64]; split <;> omega
    generalize u2.heap.size = g at B2 ⊢
    clear p00 p01
    obtain ⟨p00, p01⟩ := B1.cells
    obtain ⟨p10, p11, p12, _⟩ := B2.cells
    have L1 : Hid (sgnQ (btw x y 0 d - (x : Rat)) = 0) := by
      show sgnQ _ = 0
      rw [btw_zero HN.out.2.1]
      exact sgn_self _
    have L2 : Hid (sgnQ (btw x y d d - (y : Rat)) = 0) := by
      show sgnQ _ = 0
      rw [btw_end HN.out.2.2 hd1]
      exact sgn_self _
    obtain ⟨s3, hs3⟩ : ∃ s, sgnQ (btw x y at' d - (x : Rat)) = s := ⟨_, rfl⟩
    obtain ⟨s4, hs4⟩ : ∃ s, sgnQ (btw x y at' d - (y : Rat)) = s := ⟨_, rfl⟩
    have l3 : 0 ≤ s3 := by
      rw [← hs3]
      have := btw_low (l := x) HN.out.1 hm1 hd1 (by omega) (by omega) (by omega)
      exact sgn_ge (by grind)
    have l4 : s4 ≤ 0 := by
      rw [← hs4]
      have := btw_high (l := y) HN.out.1 hm1 hd1 (by omega) (by omega) (by omega)
      exact sgn_le (by grind)
    have L3 : Hid (sgnQ (btw x y at' d - (x : Rat)) = s3) := hs3
    have L4 : Hid (sgnQ (btw x y at' d - (y : Rat)) = s4) := hs4
    clear hs3 hs4
    refine wp_region_held_drew (S := (fun u => u.cell? ⟨w.heap.size, 0, none⟩ = some (.int .u16 n) ∧ u.cell? ⟨w.heap.size, 1, none⟩ = some (.int .u16 d) ∧ u.cell? ⟨g, 0, none⟩ = some (.bool nm) ∧ u.cell? ⟨g, 1, none⟩ = some (.slice am xm.length cm) ∧ u.cell? ⟨g, 2, none⟩ = some (.slice bm ym.length dm))) (by kernel_rfl) ?_ (fun hHeld => ?_)
    · (try dsimp only)
      go_keep
    have hdr : Below W2.heap.size W2 W2.drew := Below.drew1
    generalize W2.drew = ud182 at hdr hHeld ⊢
    replace hM := hM.below hdr
    replace B1 := B1.below hdr
    replace B2 := B2.below hdr
    replace hbW : Below w.heap.size w ud182 := hbW.trans (hdr.mono hbW.size)
    clear hdr
    clear p00 p01 p10 p11 p12
    obtain ⟨p00, p01⟩ := B1.cells
    obtain ⟨p10, p11, p12, _⟩ := B2.cells
    refine hTake (i := 0) (v := ?v183) rfl (by kernel_rfl) (by kernel_rfl) (by kernel_rfl) (fun _ _ _ h => h) (Or.inl ⟨by rfl, ?y183⟩) hHeld ?r183
    case y183 =>
      intro w9 hSw
      (try dsimp only at hSw)
      go_simp
      try with_reducible rfl
    try simp only [Act.put, List.setIfInBounds_toArray, List.set_cons_zero, List.set_cons_succ]
    refine hTake (i := 1) (v := ?v184) rfl (by kernel_rfl) (by kernel_rfl) (by kernel_rfl) (fun _ _ _ h => h) (Or.inl ⟨by rfl, ?y184⟩) hHeld ?r184
    case y184 =>
      intro w9 hSw
      (try dsimp only at hSw)
      go_simp
      try with_reducible rfl
    try simp only [Act.put, List.setIfInBounds_toArray, List.set_cons_zero, List.set_cons_succ]
    refine hTake (i := 2) (v := ?v185) rfl (by kernel_rfl) (by kernel_rfl) (by kernel_rfl) (fun _ _ _ h => h) (Or.inl ⟨by rfl, ?y185⟩) hHeld ?r185
    case y185 =>
      intro w9 hSw
      (try dsimp only at hSw)
      go_simp
      try with_reducible rfl
    try simp only [Act.put, List.setIfInBounds_toArray, List.set_cons_zero, List.set_cons_succ]
    refine hTake (i := 3) (v := ?v186) rfl (by kernel_rfl) (by kernel_rfl) (by kernel_rfl) (fun _ _ _ h => h) (Or.inl ⟨by rfl, ?y186⟩) hHeld ?r186
    case y186 =>
      intro w9 hSw
      (try dsimp only at hSw)
      go_simp
      try with_reducible rfl
    try simp only [Act.put, List.setIfInBounds_toArray, List.set_cons_zero, List.set_cons_succ]
    refine hTake (i := 5) (v := ?v187) rfl (by kernel_rfl) (by kernel_rfl) (by kernel_rfl) (fun _ _ _ h => h) (Or.inl ⟨by rfl, ?y187⟩) hHeld ?r187
    case y187 =>
      intro w9 hSw
      (try dsimp only at hSw)
      go_simp
      try with_reducible rfl
    try simp only [Act.put, List.setIfInBounds_toArray, List.set_cons_zero, List.set_cons_succ]
    refine hCall (i := 4) rfl (by kernel_rfl) (by rfl) (fun K hK => ?_)
    go_simp
    refine (between_any x y 0 d _ bx bY b0 bd).mono ?_
    rintro e u3 ⟨va, rfl, ha, hb3⟩
    replace hM := hM.below hb3
    replace B1 := B1.below hb3
    replace B2 := B2.below hb3
    replace hbW : Below w.heap.size w u3 := hbW.trans (hb3.mono hbW.size)
    clear hb3
    clear p00 p01 p10 p11 p12
    obtain ⟨p00, p01⟩ := B1.cells
    obtain ⟨p10, p11, p12, _⟩ := B2.cells
    go_wp2_with fail
    refine hK.out _ _ ?_ (fun hHeld => ?_)
    · (try dsimp only)
      exact ⟨p00, p01, p10, p11, p12⟩
    clear hK K
    try simp only [Act.put, List.setIfInBounds_toArray, List.set_cons_zero, List.set_cons_succ]
    refine hCall (i := 6) rfl (by kernel_rfl) (by rfl) (fun K hK => ?_)
    go_simp
    refine (whole_any x _ bx.1 bx.2).mono ?_
    rintro e u4 ⟨vb, rfl, hb, hb4⟩
    replace hM := hM.below hb4
    replace ha := ha.below hb4
    replace B1 := B1.below hb4
    replace B2 := B2.below hb4
    replace hbW : Below w.heap.size w u4 := hbW.trans (hb4.mono hbW.size)
    clear hb4
    clear p00 p01 p10 p11 p12
    obtain ⟨p00, p01⟩ := B1.cells
    obtain ⟨p10, p11, p12, _⟩ := B2.cells
    go_wp2_with fail
    refine hK.out _ _ ?_ (fun hHeld => ?_)
    · (try dsimp only)
      exact ⟨p00, p01, p10, p11, p12⟩
    clear hK K
    try simp only [Act.put, List.setIfInBounds_toArray, List.set_cons_zero, List.set_cons_succ]
    refine hCall (i := 7) rfl (by kernel_rfl) (by rfl) (fun K hK => ?_)
    go_simp
    refine (qcmp_any 7 2 _ _ _ _ _ ha.ct hb.ct (by decide) (by decide) (by decide) (by decide)).mono ?_
    rintro e u5 ⟨rfl, hb5⟩
    replace hM := hM.below hb5
    replace ha := ha.below hb5
    replace hb := hb.below hb5
    replace B1 := B1.below hb5
    replace B2 := B2.below hb5
    replace hbW : Below w.heap.size w u5 := hbW.trans (hb5.mono hbW.size)
    clear hb5
    rw [L1.out]
    clear p00 p01 p10 p11 p12
    obtain ⟨p00, p01⟩ := B1.cells
    obtain ⟨p10, p11, p12, _⟩ := B2.cells
    go_wp2_with fail
    refine hK.out _ _ ?_ (fun hHeld => ?_)
    · (try dsimp only)
      exact ⟨p00, p01, p10, p11, p12⟩
    clear hK K
    try simp only [Act.put, List.setIfInBounds_toArray, List.set_cons_zero, List.set_cons_succ]
    refine hTake (i := 8) (v := ?v188) rfl (by kernel_rfl) (by kernel_rfl) (by kernel_rfl) (fun _ _ _ h => h) (Or.inl ⟨by rfl, ?y188⟩) hHeld ?r188
    case y188 =>
      intro w9 hSw
      (try dsimp only at hSw)
      go_simp
      try with_reducible rfl
    try simp only [Act.put, List.setIfInBounds_toArray, List.set_cons_zero, List.set_cons_succ]
    refine hTake (i := 9) (v := ?v189) rfl (by kernel_rfl) (by kernel_rfl) (by kernel_rfl) (fun _ _ _ h => h) (Or.inl ⟨by rfl, ?y189⟩) hHeld ?r189
    case y189 =>
      intro w9 hSw
      (try dsimp only at hSw)
      go_simp
      try with_reducible rfl
    try simp only [Act.put, List.setIfInBounds_toArray, List.set_cons_zero, List.set_cons_succ]
    refine hTake (i := 10) (v := ?v190) rfl (by kernel_rfl) (by kernel_rfl) (by kernel_rfl) (fun _ _ _ h => h) (Or.inl ⟨by rfl, ?y190⟩) hHeld ?r190
    case y190 =>
      intro w9 hSw
      (try dsimp only at hSw)
      go_simp
      try with_reducible rfl
    try simp only [Act.put, List.setIfInBounds_toArray, List.set_cons_zero, List.set_cons_succ]
    refine hTake (i := 11) (v := ?v191) rfl (by kernel_rfl) (by kernel_rfl) (by kernel_rfl) (fun _ _ _ h => h) (Or.inl ⟨by rfl, ?y191⟩) hHeld ?r191
    case y191 =>
      intro w9 hSw
      (try dsimp only at hSw)
      go_simp
      try with_reducible rfl
    try simp only [Act.put, List.setIfInBounds_toArray, List.set_cons_zero, List.set_cons_succ]
    refine hTake (i := 12) (v := ?v192) rfl (by kernel_rfl) (by kernel_rfl) (by kernel_rfl) (fun _ _ _ h => h) (Or.inl ⟨by rfl, ?y192⟩) hHeld ?r192
    case y192 =>
      intro w9 hSw
      (try dsimp only at hSw)
      go_simp
      try with_reducible rfl
    try simp only [Act.put, List.setIfInBounds_toArray, List.set_cons_zero, List.set_cons_succ]
    refine hTake (i := 13) (v := ?v193) rfl (by kernel_rfl) (by kernel_rfl) (by kernel_rfl) (fun _ _ _ h => h) (Or.inl ⟨by rfl, ?y193⟩) hHeld ?r193
    case y193 =>
      intro w9 hSw
      (try dsimp only at hSw)
      go_simp
      try with_reducible rfl
    try simp only [Act.put, List.setIfInBounds_toArray, List.set_cons_zero, List.set_cons_succ]
    refine hTake (i := 14) (v := ?v194) rfl (by kernel_rfl) (by kernel_rfl) (by kernel_rfl) (fun _ _ _ h => h) (Or.inl ⟨by rfl, ?y194⟩) hHeld ?r194
    case y194 =>
      intro w9 hSw
      (try dsimp only at hSw)
      go_simp
      try with_reducible rfl
    try simp only [Act.put, List.setIfInBounds_toArray, List.set_cons_zero, List.set_cons_succ]
    refine hTake (i := 15) (v := ?v195) rfl (by kernel_rfl) (by kernel_rfl) (by kernel_rfl) (fun _ _ _ h => h) (Or.inl ⟨by rfl, ?y195⟩) hHeld ?r195
    case y195 =>
      intro w9 hSw
      (try dsimp only at hSw)
      go_simp
      try with_reducible rfl
    try simp only [Act.put, List.setIfInBounds_toArray, List.set_cons_zero, List.set_cons_succ]
    refine hTake (i := 17) (v := ?v196) rfl (by kernel_rfl) (by kernel_rfl) (by kernel_rfl) (fun _ _ _ h => h) (Or.inl ⟨by rfl, ?y196⟩) hHeld ?r196
    case y196 =>
      intro w9 hSw
      (try dsimp only at hSw)
      go_simp
      try with_reducible rfl
    try simp only [Act.put, List.setIfInBounds_toArray, List.set_cons_zero, List.set_cons_succ]
    refine hCall (i := 16) rfl (by kernel_rfl) (by rfl) (fun K hK => ?_)
    go_simp
    refine (between_any x y d d _ bx bY bd bd).mono ?_
    rintro e u6 ⟨vc, rfl, hc, hb6⟩
    replace hM := hM.below hb6
    replace ha := ha.below hb6
    replace hb := hb.below hb6
    replace B1 := B1.below hb6
    replace B2 := B2.below hb6
    replace hbW : Below w.heap.size w u6 := hbW.trans (hb6.mono hbW.size)
    clear hb6
    clear p00 p01 p10 p11 p12
    obtain ⟨p00, p01⟩ := B1.cells
    obtain ⟨p10, p11, p12, _⟩ := B2.cells
    go_wp2_with fail
    refine hK.out _ _ ?_ (fun hHeld => ?_)
    · (try dsimp only)
      exact ⟨p00, p01, p10, p11, p12⟩
    clear hK K
    try simp only [Act.put, List.setIfInBounds_toArray, List.set_cons_zero, List.set_cons_succ]
    refine hCall (i := 18) rfl (by kernel_rfl) (by rfl) (fun K hK => ?_)
    go_simp
    refine (whole_any y _ bY.1 bY.2).mono ?_
    rintro e u7 ⟨ve, rfl, he, hb7⟩
    replace hM := hM.below hb7
    replace ha := ha.below hb7
    replace hb := hb.below hb7
    replace hc := hc.below hb7
    replace B1 := B1.below hb7
    replace B2 := B2.below hb7
    replace hbW : Below w.heap.size w u7 := hbW.trans (hb7.mono hbW.size)
    clear hb7
    clear p00 p01 p10 p11 p12
    obtain ⟨p00, p01⟩ := B1.cells
    obtain ⟨p10, p11, p12, _⟩ := B2.cells
    go_wp2_with fail
    refine hK.out _ _ ?_ (fun hHeld => ?_)
    · (try dsimp only)
      exact ⟨p00, p01, p10, p11, p12⟩
    clear hK K
    try simp only [Act.put, List.setIfInBounds_toArray, List.set_cons_zero, List.set_cons_succ]
    refine hCall (i := 19) rfl (by kernel_rfl) (by rfl) (fun K hK => ?_)
    go_simp
    refine (qcmp_any 7 2 _ _ _ _ _ hc.ct he.ct (by decide) (by decide) (by decide) (by decide)).mono ?_
    rintro e u8 ⟨rfl, hb8⟩
    replace hM := hM.below hb8
    replace ha := ha.below hb8
    replace hb := hb.below hb8
    replace hc := hc.below hb8
    replace he := he.below hb8
    replace B1 := B1.below hb8
    replace B2 := B2.below hb8
    replace hbW : Below w.heap.size w u8 := hbW.trans (hb8.mono hbW.size)
    clear hb8
    rw [L2.out]
    clear p00 p01 p10 p11 p12
    obtain ⟨p00, p01⟩ := B1.cells
    obtain ⟨p10, p11, p12, _⟩ := B2.cells
    go_wp2_with fail
    refine hK.out _ _ ?_ (fun hHeld => ?_)
    · (try dsimp only)
      exact ⟨p00, p01, p10, p11, p12⟩
    clear hK K
    try simp only [Act.put, List.setIfInBounds_toArray, List.set_cons_zero, List.set_cons_succ]
    refine hTake (i := 20) (v := ?v197) rfl (by kernel_rfl) (by kernel_rfl) (by kernel_rfl) (fun _ _ _ h => h) (Or.inl ⟨by rfl, ?y197⟩) hHeld ?r197
    case y197 =>
      intro w9 hSw
      (try dsimp only at hSw)
      go_simp
      try with_reducible rfl
    try simp only [Act.put, List.setIfInBounds_toArray, List.set_cons_zero, List.set_cons_succ]
    refine hTake (i := 21) (v := ?v198) rfl (by kernel_rfl) (by kernel_rfl) (by kernel_rfl) (fun _ _ _ h => h) (Or.inl ⟨by rfl, ?y198⟩) hHeld ?r198
    case y198 =>
      intro w9 hSw
      (try dsimp only at hSw)
      go_simp
      try with_reducible rfl
    try simp only [Act.put, List.setIfInBounds_toArray, List.set_cons_zero, List.set_cons_succ]
    refine hTake (i := 22) (v := ?v199) rfl (by kernel_rfl) (by kernel_rfl) (by kernel_rfl) (fun _ _ _ h => h) (Or.inl ⟨by rfl, ?y199⟩) hHeld ?r199
    case y199 =>
      intro w9 hSw
      (try dsimp only at hSw)
      go_simp
      try with_reducible rfl
    try simp only [Act.put, List.setIfInBounds_toArray, List.set_cons_zero, List.set_cons_succ]
    refine hTake (i := 23) (v := ?v200) rfl (by kernel_rfl) (by kernel_rfl) (by kernel_rfl) (fun _ _ _ h => h) (Or.inl ⟨by rfl, ?y200⟩) hHeld ?r200
    case y200 =>
      intro w9 hSw
      (try dsimp only at hSw)
      go_simp
      try with_reducible rfl
    try simp only [Act.put, List.setIfInBounds_toArray, List.set_cons_zero, List.set_cons_succ]
    refine hTake (i := 24) (v := ?v201) rfl (by kernel_rfl) (by kernel_rfl) (by kernel_rfl) (fun _ _ _ h => h) (Or.inl ⟨by rfl, ?y201⟩) hHeld ?r201
    case y201 =>
      intro w9 hSw
      (try dsimp only at hSw)
      go_simp
      try with_reducible rfl
    try simp only [Act.put, List.setIfInBounds_toArray, List.set_cons_zero, List.set_cons_succ]
    refine hCall (i := 25) rfl (by kernel_rfl) (by rfl) (fun K hK => ?_)
    go_simp
    refine (whole_any x _ bx.1 bx.2).mono ?_
    rintro e u9 ⟨vf, rfl, hf, hb9⟩
    replace hM := hM.below hb9
    replace ha := ha.below hb9
    replace hb := hb.below hb9
    replace hc := hc.below hb9
    replace he := he.below hb9
    replace B1 := B1.below hb9
    replace B2 := B2.below hb9
    replace hbW : Below w.heap.size w u9 := hbW.trans (hb9.mono hbW.size)
    clear hb9
    clear p00 p01 p10 p11 p12
    obtain ⟨p00, p01⟩ := B1.cells
    obtain ⟨p10, p11, p12, _⟩ := B2.cells
    go_wp2_with fail
    refine hK.out _ _ ?_ (fun hHeld => ?_)
    · (try dsimp only)
      exact ⟨p00, p01, p10, p11, p12⟩
    clear hK K
    try simp only [Act.put, List.setIfInBounds_toArray, List.set_cons_zero, List.set_cons_succ]
    refine hCall (i := 26) rfl (by kernel_rfl) (by rfl) (fun K hK => ?_)
    go_simp
    refine (qcmp_any 7 2 _ _ _ _ _ hM hf.ct (by decide) (by decide) (by decide) (by decide)).mono ?_
    rintro e u10 ⟨rfl, hb10⟩
    replace hM := hM.below hb10
    replace ha := ha.below hb10
    replace hb := hb.below hb10
    replace hc := hc.below hb10
    replace he := he.below hb10
    replace hf := hf.below hb10
    replace B1 := B1.below hb10
    replace B2 := B2.below hb10
    replace hbW : Below w.heap.size w u10 := hbW.trans (hb10.mono hbW.size)
    clear hb10
    rw [L3.out]
    clear p00 p01 p10 p11 p12
    obtain ⟨p00, p01⟩ := B1.cells
    obtain ⟨p10, p11, p12, _⟩ := B2.cells
    go_wp2_with fail
    refine hK.out _ _ ?_ (fun hHeld => ?_)
    · (try dsimp only)
      exact ⟨p00, p01, p10, p11, p12⟩
    clear hK K
    try simp only [Act.put, List.setIfInBounds_toArray, List.set_cons_zero, List.set_cons_succ]
    refine hTake (i := 27) (v := ?v202) rfl (by kernel_rfl) (by kernel_rfl) (by kernel_rfl) (fun _ _ _ h => h) (Or.inl ⟨by rfl, ?y202⟩) hHeld ?r202
    case y202 =>
      intro w9 hSw
      (try dsimp only at hSw)
      go_simp
      try with_reducible rfl
    try simp only [Act.put, List.setIfInBounds_toArray, List.set_cons_zero, List.set_cons_succ]
    refine hTake (i := 28) (v := ?v203) rfl (by kernel_rfl) (by kernel_rfl) (by kernel_rfl) (fun _ _ _ h => h) (Or.inl ⟨by rfl, ?y203⟩) hHeld ?r203
    case y203 =>
      intro w9 hSw
      (try dsimp only at hSw)
      go_simp
      try with_reducible rfl
    try simp only [Act.put, List.setIfInBounds_toArray, List.set_cons_zero, List.set_cons_succ]
    refine hTake (i := 29) (v := ?v204) rfl (by kernel_rfl) (by kernel_rfl) (by kernel_rfl) (fun _ _ _ h => h) (Or.inl ⟨by rfl, ?y204⟩) hHeld ?r204
    case y204 =>
      intro w9 hSw
      (try dsimp only at hSw)
      go_simp
      try with_reducible rfl
    try simp only [Act.put, List.setIfInBounds_toArray, List.set_cons_zero, List.set_cons_succ]
    refine hTake (i := 30) (v := ?v205) rfl (by kernel_rfl) (by kernel_rfl) (by kernel_rfl) (fun _ _ _ h => h) (Or.inl ⟨by rfl, ?y205⟩) hHeld ?r205
    case y205 =>
      intro w9 hSw
      (try dsimp only at hSw)
      go_simp
      try with_reducible rfl
    try simp only [Act.put, List.setIfInBounds_toArray, List.set_cons_zero, List.set_cons_succ]
    refine hTake (i := 31) (v := ?v206) rfl (by kernel_rfl) (by kernel_rfl) (by kernel_rfl) (fun _ _ _ h => h) (Or.inl ⟨by rfl, ?y206⟩) hHeld ?r206
    case y206 =>
      intro w9 hSw
      (try dsimp only at hSw)
      go_simp
      try with_reducible rfl
    try simp only [Act.put, List.setIfInBounds_toArray, List.set_cons_zero, List.set_cons_succ]
    refine hCall (i := 32) rfl (by kernel_rfl) (by rfl) (fun K hK => ?_)
    go_simp
    refine (whole_any y _ bY.1 bY.2).mono ?_
    rintro e u11 ⟨vg, rfl, hg, hb11⟩
    replace hM := hM.below hb11
    replace ha := ha.below hb11
    replace hb := hb.below hb11
    replace hc := hc.below hb11
    replace he := he.below hb11
    replace hf := hf.below hb11
    replace B1 := B1.below hb11
    replace B2 := B2.below hb11
    replace hbW : Below w.heap.size w u11 := hbW.trans (hb11.mono hbW.size)
    clear hb11
    clear p00 p01 p10 p11 p12
    obtain ⟨p00, p01⟩ := B1.cells
    obtain ⟨p10, p11, p12, _⟩ := B2.cells
    go_wp2_with fail
    refine hK.out _ _ ?_ (fun hHeld => ?_)
    · (try dsimp only)
      exact ⟨p00, p01, p10, p11, p12⟩
    clear hK K
    try simp only [Act.put, List.setIfInBounds_toArray, List.set_cons_zero, List.set_cons_succ]
    refine hCall (i := 33) rfl (by kernel_rfl) (by rfl) (fun K hK => ?_)
    go_simp
    refine (qcmp_any 7 2 _ _ _ _ _ hM hg.ct (by decide) (by decide) (by decide) (by decide)).mono ?_
    rintro e u12 ⟨rfl, hb12⟩
    replace hM := hM.below hb12
    replace ha := ha.below hb12
    replace hb := hb.below hb12
    replace hc := hc.below hb12
    replace he := he.below hb12
    replace hf := hf.below hb12
    replace hg := hg.below hb12
    replace B1 := B1.below hb12
    replace B2 := B2.below hb12
    replace hbW : Below w.heap.size w u12 := hbW.trans (hb12.mono hbW.size)
    clear hb12
    rw [L4.out]
    clear p00 p01 p10 p11 p12
    obtain ⟨p00, p01⟩ := B1.cells
    obtain ⟨p10, p11, p12, _⟩ := B2.cells
    go_wp2_with fail
    refine hK.out _ _ ?_ (fun hHeld => ?_)
    · (try dsimp only)
      exact ⟨p00, p01, p10, p11, p12⟩
    clear hK K
    try simp only [Act.put, List.setIfInBounds_toArray, List.set_cons_zero, List.set_cons_succ]
    refine hTake (i := 34) (v := ?v207) rfl (by kernel_rfl) (by kernel_rfl) (by kernel_rfl) (fun _ _ _ h => h) (Or.inl ⟨by rfl, ?y207⟩) hHeld ?r207
    case y207 =>
      intro w9 hSw
      (try dsimp only at hSw)
      go_simp
      try with_reducible rfl
    try simp only [Act.put, List.setIfInBounds_toArray, List.set_cons_zero, List.set_cons_succ]
    refine hTake (i := 35) (v := ?v208) rfl (by kernel_rfl) (by kernel_rfl) (by kernel_rfl) (fun _ _ _ h => h) (Or.inl ⟨by rfl, ?y208⟩) hHeld ?r208
    case y208 =>
      intro w9 hSw
      (try dsimp only at hSw)
      go_simp
      try with_reducible rfl
    try simp only [Act.put, List.setIfInBounds_toArray, List.set_cons_zero, List.set_cons_succ]
    refine hTake (i := 36) (v := ?v209) rfl (by kernel_rfl) (by kernel_rfl) (by kernel_rfl) (fun _ _ _ h => h) (Or.inl ⟨by rfl, ?y209⟩) hHeld ?r209
    case y209 =>
      intro w9 hSw
      (try dsimp only at hSw)
      go_simp
      try with_reducible rfl
    try simp only [Act.put, List.setIfInBounds_toArray, List.set_cons_zero, List.set_cons_succ]
    refine wpAnyH_done (by kernel_rfl) ?_ _
    go_wp2
    go_ret
    exact ⟨rfl, hbW⟩
  · go_wp2_with fail
    obtain ⟨W2, hW2, B2, hb2⟩ : ∃ W2, W2 = u2.alloc (.cells #[.bool nm, .slice am xm.length cm, .slice bm ym.length dm] 25) ∧ Box 25 W2 u2.heap.size (.bool nm) (.slice am xm.length cm) (.slice bm ym.length dm) ∧ Below u2.heap.size u2 W2 := ⟨_, rfl, Box.new _ _ _ _ _, al1 _⟩
    rw [← hW2]
    clear hW2
    replace hM := hM.below hb2
    replace B1 := B1.below hb2
    replace hbW : Below w.heap.size w W2 := hbW.trans (hb2.mono hbW.size)
    clear hb2
    rw [show min x y = y by omega, show max x y = x by omega]
    have jd : IntKind.i64.wrap d = d := by rw [wrap_i64]; split <;> omega
    generalize u2.heap.size = g at B2 ⊢
    clear p00 p01
    obtain ⟨p00, p01⟩ := B1.cells
    obtain ⟨p10, p11, p12, _⟩ := B2.cells
    have L1 : Hid (sgnQ (btw x y 0 d - (x : Rat)) = 0) := by
      show sgnQ _ = 0
      rw [btw_zero HN.out.2.1]
      exact sgn_self _
    have L2 : Hid (sgnQ (btw x y d d - (y : Rat)) = 0) := by
      show sgnQ _ = 0
      rw [btw_end HN.out.2.2 hd1]
      exact sgn_self _
    obtain ⟨s3, hs3⟩ : ∃ s, sgnQ (btw x y at' d - (y : Rat)) = s := ⟨_, rfl⟩
    obtain ⟨s4, hs4⟩ : ∃ s, sgnQ (btw x y at' d - (x : Rat)) = s := ⟨_, rfl⟩
    have l3 : 0 ≤ s3 := by
      rw [← hs3]
      have := btw_low (l := y) HN.out.1 hm1 hd1 (by omega) (by omega) (by omega)
      exact sgn_ge (by grind)
    have l4 : s4 ≤ 0 := by
      rw [← hs4]
      have := btw_high (l := x) HN.out.1 hm1 hd1 (by omega) (by omega) (by omega)
      exact sgn_le (by grind)
    have L3 : Hid (sgnQ (btw x y at' d - (y : Rat)) = s3) := hs3
    have L4 : Hid (sgnQ (btw x y at' d - (x : Rat)) = s4) := hs4
    clear hs3 hs4
    refine wp_region_held_drew (S := (fun u => u.cell? ⟨w.heap.size, 0, none⟩ = some (.int .u16 n) ∧ u.cell? ⟨w.heap.size, 1, none⟩ = some (.int .u16 d) ∧ u.cell? ⟨g, 0, none⟩ = some (.bool nm) ∧ u.cell? ⟨g, 1, none⟩ = some (.slice am xm.length cm) ∧ u.cell? ⟨g, 2, none⟩ = some (.slice bm ym.length dm))) (by kernel_rfl) ?_ (fun hHeld => ?_)
    · (try dsimp only)
      go_keep
    have hdr : Below W2.heap.size W2 W2.drew := Below.drew1
    generalize W2.drew = ud210 at hdr hHeld ⊢
    replace hM := hM.below hdr
    replace B1 := B1.below hdr
    replace B2 := B2.below hdr
    replace hbW : Below w.heap.size w ud210 := hbW.trans (hdr.mono hbW.size)
    clear hdr
    clear p00 p01 p10 p11 p12
    obtain ⟨p00, p01⟩ := B1.cells
    obtain ⟨p10, p11, p12, _⟩ := B2.cells
    refine hTake (i := 0) (v := ?v211) rfl (by kernel_rfl) (by kernel_rfl) (by kernel_rfl) (fun _ _ _ h => h) (Or.inl ⟨by rfl, ?y211⟩) hHeld ?r211
    case y211 =>
      intro w9 hSw
      (try dsimp only at hSw)
      go_simp
      try with_reducible rfl
    try simp only [Act.put, List.setIfInBounds_toArray, List.set_cons_zero, List.set_cons_succ]
    refine hTake (i := 1) (v := ?v212) rfl (by kernel_rfl) (by kernel_rfl) (by kernel_rfl) (fun _ _ _ h => h) (Or.inl ⟨by rfl, ?y212⟩) hHeld ?r212
    case y212 =>
      intro w9 hSw
      (try dsimp only at hSw)
      go_simp
      try with_reducible rfl
    try simp only [Act.put, List.setIfInBounds_toArray, List.set_cons_zero, List.set_cons_succ]
    refine hTake (i := 2) (v := ?v213) rfl (by kernel_rfl) (by kernel_rfl) (by kernel_rfl) (fun _ _ _ h => h) (Or.inl ⟨by rfl, ?y213⟩) hHeld ?r213
    case y213 =>
      intro w9 hSw
      (try dsimp only at hSw)
      go_simp
      try with_reducible rfl
    try simp only [Act.put, List.setIfInBounds_toArray, List.set_cons_zero, List.set_cons_succ]
    refine hTake (i := 3) (v := ?v214) rfl (by kernel_rfl) (by kernel_rfl) (by kernel_rfl) (fun _ _ _ h => h) (Or.inl ⟨by rfl, ?y214⟩) hHeld ?r214
    case y214 =>
      intro w9 hSw
      (try dsimp only at hSw)
      go_simp
      try with_reducible rfl
    try simp only [Act.put, List.setIfInBounds_toArray, List.set_cons_zero, List.set_cons_succ]
    refine hTake (i := 5) (v := ?v215) rfl (by kernel_rfl) (by kernel_rfl) (by kernel_rfl) (fun _ _ _ h => h) (Or.inl ⟨by rfl, ?y215⟩) hHeld ?r215
    case y215 =>
      intro w9 hSw
      (try dsimp only at hSw)
      go_simp
      try with_reducible rfl
    try simp only [Act.put, List.setIfInBounds_toArray, List.set_cons_zero, List.set_cons_succ]
    refine hCall (i := 4) rfl (by kernel_rfl) (by rfl) (fun K hK => ?_)
    go_simp
    refine (between_any x y 0 d _ bx bY b0 bd).mono ?_
    rintro e u3 ⟨va, rfl, ha, hb3⟩
    replace hM := hM.below hb3
    replace B1 := B1.below hb3
    replace B2 := B2.below hb3
    replace hbW : Below w.heap.size w u3 := hbW.trans (hb3.mono hbW.size)
    clear hb3
    clear p00 p01 p10 p11 p12
    obtain ⟨p00, p01⟩ := B1.cells
    obtain ⟨p10, p11, p12, _⟩ := B2.cells
    go_wp2_with fail
    refine hK.out _ _ ?_ (fun hHeld => ?_)
    · (try dsimp only)
      exact ⟨p00, p01, p10, p11, p12⟩
    clear hK K
    try simp only [Act.put, List.setIfInBounds_toArray, List.set_cons_zero, List.set_cons_succ]
    refine hCall (i := 6) rfl (by kernel_rfl) (by rfl) (fun K hK => ?_)
    go_simp
    refine (whole_any x _ bx.1 bx.2).mono ?_
    rintro e u4 ⟨vb, rfl, hb, hb4⟩
    replace hM := hM.below hb4
    replace ha := ha.below hb4
    replace B1 := B1.below hb4
    replace B2 := B2.below hb4
    replace hbW : Below w.heap.size w u4 := hbW.trans (hb4.mono hbW.size)
    clear hb4
    clear p00 p01 p10 p11 p12
    obtain ⟨p00, p01⟩ := B1.cells
    obtain ⟨p10, p11, p12, _⟩ := B2.cells
    go_wp2_with fail
    refine hK.out _ _ ?_ (fun hHeld => ?_)
    · (try dsimp only)
      exact ⟨p00, p01, p10, p11, p12⟩
    clear hK K
    try simp only [Act.put, List.setIfInBounds_toArray, List.set_cons_zero, List.set_cons_succ]
    refine hCall (i := 7) rfl (by kernel_rfl) (by rfl) (fun K hK => ?_)
    go_simp
    refine (qcmp_any 7 2 _ _ _ _ _ ha.ct hb.ct (by decide) (by decide) (by decide) (by decide)).mono ?_
    rintro e u5 ⟨rfl, hb5⟩
    replace hM := hM.below hb5
    replace ha := ha.below hb5
    replace hb := hb.below hb5
    replace B1 := B1.below hb5
    replace B2 := B2.below hb5
    replace hbW : Below w.heap.size w u5 := hbW.trans (hb5.mono hbW.size)
    clear hb5
    rw [L1.out]
    clear p00 p01 p10 p11 p12
    obtain ⟨p00, p01⟩ := B1.cells
    obtain ⟨p10, p11, p12, _⟩ := B2.cells
    go_wp2_with fail
    refine hK.out _ _ ?_ (fun hHeld => ?_)
    · (try dsimp only)
      exact ⟨p00, p01, p10, p11, p12⟩
    clear hK K
    try simp only [Act.put, List.setIfInBounds_toArray, List.set_cons_zero, List.set_cons_succ]
    refine hTake (i := 8) (v := ?v216) rfl (by kernel_rfl) (by kernel_rfl) (by kernel_rfl) (fun _ _ _ h => h) (Or.inl ⟨by rfl, ?y216⟩) hHeld ?r216
    case y216 =>
      intro w9 hSw
      (try dsimp only at hSw)
      go_simp
      try with_reducible rfl
    try simp only [Act.put, List.setIfInBounds_toArray, List.set_cons_zero, List.set_cons_succ]
    refine hTake (i := 9) (v := ?v217) rfl (by kernel_rfl) (by kernel_rfl) (by kernel_rfl) (fun _ _ _ h => h) (Or.inl ⟨by rfl, ?y217⟩) hHeld ?r217
    case y217 =>
      intro w9 hSw
      (try dsimp only at hSw)
      go_simp
      try with_reducible rfl
    try simp only [Act.put, List.setIfInBounds_toArray, List.set_cons_zero, List.set_cons_succ]
    refine hTake (i := 10) (v := ?v218) rfl (by kernel_rfl) (by kernel_rfl) (by kernel_rfl) (fun _ _ _ h => h) (Or.inl ⟨by rfl, ?y218⟩) hHeld ?r218
    case y218 =>
      intro w9 hSw
      (try dsimp only at hSw)
      go_simp
      try with_reducible rfl
    try simp only [Act.put, List.setIfInBounds_toArray, List.set_cons_zero, List.set_cons_succ]
    refine hTake (i := 11) (v := ?v219) rfl (by kernel_rfl) (by kernel_rfl) (by kernel_rfl) (fun _ _ _ h => h) (Or.inl ⟨by rfl, ?y219⟩) hHeld ?r219
    case y219 =>
      intro w9 hSw
      (try dsimp only at hSw)
      go_simp
      try with_reducible rfl
    try simp only [Act.put, List.setIfInBounds_toArray, List.set_cons_zero, List.set_cons_succ]
    refine hTake (i := 12) (v := ?v220) rfl (by kernel_rfl) (by kernel_rfl) (by kernel_rfl) (fun _ _ _ h => h) (Or.inl ⟨by rfl, ?y220⟩) hHeld ?r220
    case y220 =>
      intro w9 hSw
      (try dsimp only at hSw)
      go_simp
      try with_reducible rfl
    try simp only [Act.put, List.setIfInBounds_toArray, List.set_cons_zero, List.set_cons_succ]
    refine hTake (i := 13) (v := ?v221) rfl (by kernel_rfl) (by kernel_rfl) (by kernel_rfl) (fun _ _ _ h => h) (Or.inl ⟨by rfl, ?y221⟩) hHeld ?r221
    case y221 =>
      intro w9 hSw
      (try dsimp only at hSw)
      go_simp
      try with_reducible rfl
    try simp only [Act.put, List.setIfInBounds_toArray, List.set_cons_zero, List.set_cons_succ]
    refine hTake (i := 14) (v := ?v222) rfl (by kernel_rfl) (by kernel_rfl) (by kernel_rfl) (fun _ _ _ h => h) (Or.inl ⟨by rfl, ?y222⟩) hHeld ?r222
    case y222 =>
      intro w9 hSw
      (try dsimp only at hSw)
      go_simp
      try with_reducible rfl
    try simp only [Act.put, List.setIfInBounds_toArray, List.set_cons_zero, List.set_cons_succ]
    refine hTake (i := 15) (v := ?v223) rfl (by kernel_rfl) (by kernel_rfl) (by kernel_rfl) (fun _ _ _ h => h) (Or.inl ⟨by rfl, ?y223⟩) hHeld ?r223
    case y223 =>
      intro w9 hSw
      (try dsimp only at hSw)
      go_simp
      try with_reducible rfl
    try simp only [Act.put, List.setIfInBounds_toArray, List.set_cons_zero, List.set_cons_succ]
    refine hTake (i := 17) (v := ?v224) rfl (by kernel_rfl) (by kernel_rfl) (by kernel_rfl) (fun _ _ _ h => h) (Or.inl ⟨by rfl, ?y224⟩) hHeld ?r224
    case y224 =>
      intro w9 hSw
      (try dsimp only at hSw)
      go_simp
      try with_reducible rfl
    try simp only [Act.put, List.setIfInBounds_toArray, List.set_cons_zero, List.set_cons_succ]
    refine hCall (i := 16) rfl (by kernel_rfl) (by rfl) (fun K hK => ?_)
    go_simp
    refine (between_any x y d d _ bx bY bd bd).mono ?_
    rintro e u6 ⟨vc, rfl, hc, hb6⟩
    replace hM := hM.below hb6
    replace ha := ha.below hb6
    replace hb := hb.below hb6
    replace B1 := B1.below hb6
    replace B2 := B2.below hb6
    replace hbW : Below w.heap.size w u6 := hbW.trans (hb6.mono hbW.size)
    clear hb6
    clear p00 p01 p10 p11 p12
    obtain ⟨p00, p01⟩ := B1.cells
    obtain ⟨p10, p11, p12, _⟩ := B2.cells
    go_wp2_with fail
    refine hK.out _ _ ?_ (fun hHeld => ?_)
    · (try dsimp only)
      exact ⟨p00, p01, p10, p11, p12⟩
    clear hK K
    try simp only [Act.put, List.setIfInBounds_toArray, List.set_cons_zero, List.set_cons_succ]
    refine hCall (i := 18) rfl (by kernel_rfl) (by rfl) (fun K hK => ?_)
    go_simp
    refine (whole_any y _ bY.1 bY.2).mono ?_
    rintro e u7 ⟨ve, rfl, he, hb7⟩
    replace hM := hM.below hb7
    replace ha := ha.below hb7
    replace hb := hb.below hb7
    replace hc := hc.below hb7
    replace B1 := B1.below hb7
    replace B2 := B2.below hb7
    replace hbW : Below w.heap.size w u7 := hbW.trans (hb7.mono hbW.size)
    clear hb7
    clear p00 p01 p10 p11 p12
    obtain ⟨p00, p01⟩ := B1.cells
    obtain ⟨p10, p11, p12, _⟩ := B2.cells
    go_wp2_with fail
    refine hK.out _ _ ?_ (fun hHeld => ?_)
    · (try dsimp only)
      exact ⟨p00, p01, p10, p11, p12⟩
    clear hK K
    try simp only [Act.put, List.setIfInBounds_toArray, List.set_cons_zero, List.set_cons_succ]
    refine hCall (i := 19) rfl (by kernel_rfl) (by rfl) (fun K hK => ?_)
    go_simp
    refine (qcmp_any 7 2 _ _ _ _ _ hc.ct he.ct (by decide) (by decide) (by decide) (by decide)).mono ?_
    rintro e u8 ⟨rfl, hb8⟩
    replace hM := hM.below hb8
    replace ha := ha.below hb8
    replace hb := hb.below hb8
    replace hc := hc.below hb8
    replace he := he.below hb8
    replace B1 := B1.below hb8
    replace B2 := B2.below hb8
    replace hbW : Below w.heap.size w u8 := hbW.trans (hb8.mono hbW.size)
    clear hb8
    rw [L2.out]
    clear p00 p01 p10 p11 p12
    obtain ⟨p00, p01⟩ := B1.cells
    obtain ⟨p10, p11, p12, _⟩ := B2.cells
    go_wp2_with fail
    refine hK.out _ _ ?_ (fun hHeld => ?_)
    · (try dsimp only)
      exact ⟨p00, p01, p10, p11, p12⟩
    clear hK K
    try simp only [Act.put, List.setIfInBounds_toArray, List.set_cons_zero, List.set_cons_succ]
    refine hTake (i := 20) (v := ?v225) rfl (by kernel_rfl) (by kernel_rfl) (by kernel_rfl) (fun _ _ _ h => h) (Or.inl ⟨by rfl, ?y225⟩) hHeld ?r225
    case y225 =>
      intro w9 hSw
      (try dsimp only at hSw)
      go_simp
      try with_reducible rfl
    try simp only [Act.put, List.setIfInBounds_toArray, List.set_cons_zero, List.set_cons_succ]
    refine hTake (i := 21) (v := ?v226) rfl (by kernel_rfl) (by kernel_rfl) (by kernel_rfl) (fun _ _ _ h => h) (Or.inl ⟨by rfl, ?y226⟩) hHeld ?r226
    case y226 =>
      intro w9 hSw
      (try dsimp only at hSw)
      go_simp
      try with_reducible rfl
    try simp only [Act.put, List.setIfInBounds_toArray, List.set_cons_zero, List.set_cons_succ]
    refine hTake (i := 22) (v := ?v227) rfl (by kernel_rfl) (by kernel_rfl) (by kernel_rfl) (fun _ _ _ h => h) (Or.inl ⟨by rfl, ?y227⟩) hHeld ?r227
    case y227 =>
      intro w9 hSw
      (try dsimp only at hSw)
      go_simp
      try with_reducible rfl
    try simp only [Act.put, List.setIfInBounds_toArray, List.set_cons_zero, List.set_cons_succ]
    refine hTake (i := 23) (v := ?v228) rfl (by kernel_rfl) (by kernel_rfl) (by kernel_rfl) (fun _ _ _ h => h) (Or.inl ⟨by rfl, ?y228⟩) hHeld ?r228
    case y228 =>
      intro w9 hSw
      (try dsimp only at hSw)
      go_simp
      try with_reducible rfl
    try simp only [Act.put, List.setIfInBounds_toArray, List.set_cons_zero, List.set_cons_succ]
    refine hTake (i := 24) (v := ?v229) rfl (by kernel_rfl) (by kernel_rfl) (by kernel_rfl) (fun _ _ _ h => h) (Or.inl ⟨by rfl, ?y229⟩) hHeld ?r229
    case y229 =>
      intro w9 hSw
      (try dsimp only at hSw)
      go_simp
      try with_reducible rfl
    try simp only [Act.put, List.setIfInBounds_toArray, List.set_cons_zero, List.set_cons_succ]
    refine hCall (i := 25) rfl (by kernel_rfl) (by rfl) (fun K hK => ?_)
    go_simp
    refine (whole_any y _ bY.1 bY.2).mono ?_
    rintro e u9 ⟨vf, rfl, hf, hb9⟩
    replace hM := hM.below hb9
    replace ha := ha.below hb9
    replace hb := hb.below hb9
    replace hc := hc.below hb9
    replace he := he.below hb9
    replace B1 := B1.below hb9
    replace B2 := B2.below hb9
    replace hbW : Below w.heap.size w u9 := hbW.trans (hb9.mono hbW.size)
    clear hb9
    clear p00 p01 p10 p11 p12
    obtain ⟨p00, p01⟩ := B1.cells
    obtain ⟨p10, p11, p12, _⟩ := B2.cells
    go_wp2_with fail
    refine hK.out _ _ ?_ (fun hHeld => ?_)
    · (try dsimp only)
      exact ⟨p00, p01, p10, p11, p12⟩
    clear hK K
    try simp only [Act.put, List.setIfInBounds_toArray, List.set_cons_zero, List.set_cons_succ]
    refine hCall (i := 26) rfl (by kernel_rfl) (by rfl) (fun K hK => ?_)
    go_simp
    refine (qcmp_any 7 2 _ _ _ _ _ hM hf.ct (by decide) (by decide) (by decide) (by decide)).mono ?_
    rintro e u10 ⟨rfl, hb10⟩
    replace hM := hM.below hb10
    replace ha := ha.below hb10
    replace hb := hb.below hb10
    replace hc := hc.below hb10
    replace he := he.below hb10
    replace hf := hf.below hb10
    replace B1 := B1.below hb10
    replace B2 := B2.below hb10
    replace hbW : Below w.heap.size w u10 := hbW.trans (hb10.mono hbW.size)
    clear hb10
    rw [L3.out]
    clear p00 p01 p10 p11 p12
    obtain ⟨p00, p01⟩ := B1.cells
    obtain ⟨p10, p11, p12, _⟩ := B2.cells
    go_wp2_with fail
    refine hK.out _ _ ?_ (fun hHeld => ?_)
    · (try dsimp only)
      exact ⟨p00, p01, p10, p11, p12⟩
    clear hK K
    try simp only [Act.put, List.setIfInBounds_toArray, List.set_cons_zero, List.set_cons_succ]
    refine hTake (i := 27) (v := ?v230) rfl (by kernel_rfl) (by kernel_rfl) (by kernel_rfl) (fun _ _ _ h => h) (Or.inl ⟨by rfl, ?y230⟩) hHeld ?r230
    case y230 =>
      intro w9 hSw
      (try dsimp only at hSw)
      go_simp
      try with_reducible rfl
    try simp only [Act.put, List.setIfInBounds_toArray, List.set_cons_zero, List.set_cons_succ]
    refine hTake (i := 28) (v := ?v231) rfl (by kernel_rfl) (by kernel_rfl) (by kernel_rfl) (fun _ _ _ h => h) (Or.inl ⟨by rfl, ?y231⟩) hHeld ?r231
    case y231 =>
      intro w9 hSw
      (try dsimp only at hSw)
      go_simp
      try with_reducible rfl
    try simp only [Act.put, List.setIfInBounds_toArray, List.set_cons_zero, List.set_cons_succ]
    refine hTake (i := 29) (v := ?v232) rfl (by kernel_rfl) (by kernel_rfl) (by kernel_rfl) (fun _ _ _ h => h) (Or.inl ⟨by rfl, ?y232⟩) hHeld ?r232
    case y232 =>
      intro w9 hSw
      (try dsimp only at hSw)
      go_simp
      try with_reducible rfl
    try simp only [Act.put, List.setIfInBounds_toArray, List.set_cons_zero, List.set_cons_succ]
    refine hTake (i := 30) (v := ?v233) rfl (by kernel_rfl) (by kernel_rfl) (by kernel_rfl) (fun _ _ _ h => h) (Or.inl ⟨by rfl, ?y233⟩) hHeld ?r233
    case y233 =>
      intro w9 hSw
      (try dsimp only at hSw)
      go_simp
      try with_reducible rfl
    try simp only [Act.put, List.setIfInBounds_toArray, List.set_cons_zero, List.set_cons_succ]
    refine hTake (i := 31) (v := ?v234) rfl (by kernel_rfl) (by kernel_rfl) (by kernel_rfl) (fun _ _ _ h => h) (Or.inl ⟨by rfl, ?y234⟩) hHeld ?r234
    case y234 =>
      intro w9 hSw
      (try dsimp only at hSw)
      go_simp
      try with_reducible rfl
    try simp only [Act.put, List.setIfInBounds_toArray, List.set_cons_zero, List.set_cons_succ]
    refine hCall (i := 32) rfl (by kernel_rfl) (by rfl) (fun K hK => ?_)
    go_simp
    refine (whole_any x _ bx.1 bx.2).mono ?_
    rintro e u11 ⟨vg, rfl, hg, hb11⟩
    replace hM := hM.below hb11
    replace ha := ha.below hb11
    replace hb := hb.below hb11
    replace hc := hc.below hb11
    replace he := he.below hb11
    replace hf := hf.below hb11
    replace B1 := B1.below hb11
    replace B2 := B2.below hb11
    replace hbW : Below w.heap.size w u11 := hbW.trans (hb11.mono hbW.size)
    clear hb11
    clear p00 p01 p10 p11 p12
    obtain ⟨p00, p01⟩ := B1.cells
    obtain ⟨p10, p11, p12, _⟩ := B2.cells
    go_wp2_with fail
    refine hK.out _ _ ?_ (fun hHeld => ?_)
    · (try dsimp only)
      exact ⟨p00, p01, p10, p11, p12⟩
    clear hK K
    try simp only [Act.put, List.setIfInBounds_toArray, List.set_cons_zero, List.set_cons_succ]
    refine hCall (i := 33) rfl (by kernel_rfl) (by rfl) (fun K hK => ?_)
    go_simp
    refine (qcmp_any 7 2 _ _ _ _ _ hM hg.ct (by decide) (by decide) (by decide) (by decide)).mono ?_
    rintro e u12 ⟨rfl, hb12⟩
    replace hM := hM.below hb12
    replace ha := ha.below hb12
    replace hb := hb.below hb12
    replace hc := hc.below hb12
    replace he := he.below hb12
    replace hf := hf.below hb12
    replace hg := hg.below hb12
    replace B1 := B1.below hb12
    replace B2 := B2.below hb12
    replace hbW : Below w.heap.size w u12 := hbW.trans (hb12.mono hbW.size)
    clear hb12
    rw [L4.out]
    clear p00 p01 p10 p11 p12
    obtain ⟨p00, p01⟩ := B1.cells
    obtain ⟨p10, p11, p12, _⟩ := B2.cells
    go_wp2_with fail
    refine hK.out _ _ ?_ (fun hHeld => ?_)
    · (try dsimp only)
      exact ⟨p00, p01, p10, p11, p12⟩
    clear hK K
    try simp only [Act.put, List.setIfInBounds_toArray, List.set_cons_zero, List.set_cons_succ]
    refine hTake (i := 34) (v := ?v235) rfl (by kernel_rfl) (by kernel_rfl) (by kernel_rfl) (fun _ _ _ h => h) (Or.inl ⟨by rfl, ?y235⟩) hHeld ?r235
    case y235 =>
      intro w9 hSw
      (try dsimp only at hSw)
      go_simp
      try with_reducible rfl
    try simp only [Act.put, List.setIfInBounds_toArray, List.set_cons_zero, List.set_cons_succ]
    refine hTake (i := 35) (v := ?v236) rfl (by kernel_rfl) (by kernel_rfl) (by kernel_rfl) (fun _ _ _ h => h) (Or.inl ⟨by rfl, ?y236⟩) hHeld ?r236
    case y236 =>
      intro w9 hSw
      (try dsimp only at hSw)
      go_simp
      try with_reducible rfl
    try simp only [Act.put, List.setIfInBounds_toArray, List.set_cons_zero, List.set_cons_succ]
    refine hTake (i := 36) (v := ?v237) rfl (by kernel_rfl) (by kernel_rfl) (by kernel_rfl) (fun _ _ _ h => h) (Or.inl ⟨by rfl, ?y237⟩) hHeld ?r237
    case y237 =>
      intro w9 hSw
      (try dsimp only at hSw)
      go_simp
      try with_reducible rfl
    try simp only [Act.put, List.setIfInBounds_toArray, List.set_cons_zero, List.set_cons_succ]
    refine wpAnyH_done (by kernel_rfl) ?_ _
    go_wp2
    go_ret
    exact ⟨rfl, hbW⟩

end Go.Proofs.Ythepikmllmfofaa
