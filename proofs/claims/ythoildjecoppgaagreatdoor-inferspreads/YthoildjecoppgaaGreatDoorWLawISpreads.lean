/-
  foundrylaw13.InferSpreads: the walk.
-/
import Derived.Test.YthoildjecoppgaaGreatDoorZ24
import Derived.Test.YthoildjecoppgaaGreatDoorZ30
namespace Go.Proofs.YthoildjecoppgaaGreatDoor
open Go.RowKit Go.Maps
set_option linter.unusedSimpArgs false
set_option linter.unusedVariables false

theorem spQ_le (f : Pn → Int) (o : Ol) (pts told : List Int) (h : FoP o) : (spQ f o pts told).length ≤ 1000 := by
  have h1 := h.2.2.1
  have h2 := h.2.2.2.2.1
  by_cases hp : 0 < o.ps.length
  · rw [spQ_parts hp, List.length_map, layI_len]; unfold cntO; omega
  · rw [spQ_cons hp]
    have := conQ_len_le f o.cs (layI pts told (cntO o) pts.length) (tchI pts (cntO o) pts.length) o.cs.length (Nat.le_refl _)
    have := ofC_le o.cs o.cs.length
    omega
theorem spL_le (f : Pn → Int) (o : Ol) (pts told dx dy : List Int) : (spL f o pts told dx dy).length ≤ 1000 := by
  cases h : spB o pts dx dy with
  | false => rw [spL_no h]; exact Nat.zero_le _
  | true => rw [spL_yes h]; exact spQ_le f o pts told (spB_iff.1 h).1
theorem two_boxes (w : World) (x0 x1 y0 y1 y2 : Value) : ∃ W, W = (w.alloc (.cells #[x0, x1] 36)).alloc (.cells #[y0, y1, y2] 38) ∧ Bk 36 W w.heap.size [x0, x1] ∧ Bk 38 W (w.heap.size + 1) [y0, y1, y2] ∧ Below w.heap.size w W :=
  ⟨_, rfl, (Bk.new _ _ [x0, x1]).below (bl1 _), Bk.new1 _ _ _ [y0, y1, y2], (bl1 _).trans ((bl1 _).mono (bl1 _).size)⟩

set_option maxHeartbeats 4000000 in
set_option maxRecDepth 100000 in
theorem inferSpreads_any (S : Nat → Prop) (a : Option Addr) (ca : Nat) (b : Option Addr) (cb : Nat) (o : Ol) (pa : Option Addr) (pc : Nat) (pts : List Int) (xa : Option Addr) (xc : Nat) (dx : List Int) (ya : Option Addr) (yc : Nat) (dy : List Int) (w : World) (hg : Gr PnE.row S w a ca o.cs) (hm : Gr PaE S w b cb o.ps) (hP : Ri w pa pc pts) (hX : Ri w xa xc dx) (hY : Ri w ya yc dy) (htab : Pow w) :
    Calls Tryz.prog 4 #[.agg #[.slice a o.cs.length ca, .slice b o.ps.length cb], .agg #[.slice pa pts.length pc, .slice xa dx.length xc, .slice ya dy.length yc]] w fun e w' => e = .returned (.bool true) ∧ Below w.heap.size w w' := by
  have b1 := hP.lenB
  have b2 := hX.lenB
  have b3 := hY.lenB
  have k1 := hg.lenB
  have k2 := hm.lenB
  have HB : Hid (Pow w) := htab
  obtain ⟨W, hW, X1, X2, hbW⟩ := two_boxes w (.slice a o.cs.length ca) (.slice b o.ps.length cb) (.slice pa pts.length pc) (.slice xa dx.length xc) (.slice ya dy.length yc)
  replace hg := hg.below hbW
  replace hm := hm.below hbW
  replace hP := hP.below hbW
  replace hX := hX.below hbW
  replace hY := hY.below hbW
  obtain ⟨p0, p1, _⟩ := X1.two
  obtain ⟨q0, q1, q2, _⟩ := X2.three
  clear htab
  go_enter Tryz.func4, Tryz.ntmps4
  go_wp2_with fail
  rw [← hW]
  clear hW
  refine (awake13_any _ (HB.out.below hbW)).mono ?_
  rintro e m1 ⟨rfl, hb9⟩
  replace hg := hg.below hb9
  replace hm := hm.below hb9
  replace hP := hP.below hb9
  replace hX := hX.below hb9
  replace hY := hY.below hb9
  replace X1 := X1.below hb9
  replace X2 := X2.below hb9
  replace hbW := hbW.trans (hb9.mono hbW.size)
  clear hb9 p0 p1 q0 q1 q2
  obtain ⟨p0, p1, _⟩ := X1.two
  obtain ⟨q0, q1, q2, _⟩ := X2.three
  have hfw := sfewO_any S a ca b cb o m1 hg hm
  cases hq : fewB o with
  | false =>
    rw [hq] at hfw
    clear hq
    go_wp2_with fail
    refine hfw.mono ?_
    rintro e m2 ⟨rfl, hb9⟩
    replace hbW := hbW.trans (hb9.mono hbW.size)
    clear hb9 hfw
    go_wp2_with fail
    refine (awake13_any _ (HB.out.below hbW)).mono ?_
    rintro e v9 ⟨rfl, hb9⟩
    replace hbW := hbW.trans (hb9.mono hbW.size)
    clear hb9
    go_wp2
    go_ret
    exact ⟨rfl, hbW⟩
  | true =>
  obtain ⟨l1, l2, l3⟩ := fewB_of hq
  rw [hq] at hfw
  clear hq
  go_wp2_with fail
  refine hfw.mono ?_
  rintro e m2 ⟨rfl, hb9⟩
  replace hg := hg.below hb9
  replace hm := hm.below hb9
  replace hP := hP.below hb9
  replace hX := hX.below hb9
  replace hY := hY.below hb9
  replace X1 := X1.below hb9
  replace X2 := X2.below hb9
  replace hbW := hbW.trans (hb9.mono hbW.size)
  clear hb9 p0 p1 q0 q1 q2
  obtain ⟨p0, p1, _⟩ := X1.two
  obtain ⟨q0, q1, q2, _⟩ := X2.three
  clear hfw
  have hfe := few13_any pts.length dx.length dy.length m2 b1 b2 b3
  cases hq : decide (pts.length ≤ 200 ∧ dx.length ≤ 200 ∧ dy.length ≤ 200) with
  | false =>
    rw [hq] at hfe
    clear hq
    go_wp2_with fail
    refine hfe.mono ?_
    rintro e m3 ⟨rfl, rfl⟩
    clear hfe
    go_wp2_with fail
    refine (awake13_any _ (HB.out.below hbW)).mono ?_
    rintro e v9 ⟨rfl, hb9⟩
    replace hbW := hbW.trans (hb9.mono hbW.size)
    clear hb9
    go_wp2
    go_ret
    exact ⟨rfl, hbW⟩
  | true =>
  rw [hq] at hfe
  clear hq
  go_wp2_with fail
  refine hfe.mono ?_
  rintro e m3 ⟨rfl, rfl⟩
  clear hfe
  have hs1 := cspread_any S a ca b cb o pa pc pts xa xc dx ya yc dy m2 hg hm hP hX hY (by omega) (by omega) (by omega)
  have hs2 := fun U (hb : Below m2.heap.size m2 U) => sspread_any S a ca b cb o pa pc pts xa xc dx ya yc dy U (hg.below hb) (hm.below hb) (hP.below hb) (hX.below hb) (hY.below hb) (by omega) (by omega) (by omega)
  have hct0 := fun U (hb : Below m2.heap.size m2 U) => ccount_any S a ca b cb o U (hg.below hb) (hm.below hb) (by omega) (by omega)
  have hcs0 := fun U (hb : Below m2.heap.size m2 U) => scount13_any S a ca b cb o U (hg.below hb) (by omega) (by omega)
  have hle1 := spL_le Pn.x o pts dx dx dy
  have hle2 := spL_le Pn.y o pts dy dx dy
  generalize spL Pn.x o pts dx dx dy = Q1 at *
  generalize spL Pn.y o pts dy dx dy = Q2 at *
  generalize spE o pts dx dy = E at *
  generalize cntO o = N at *
  have hgE : (E == E) = true := beq_self_eq_true E
  go_wp2_with fail
  refine hs1.mono ?_
  rintro e m4 ⟨t1, d1, t2, d2, rfl, hZ1, hZ2, hb4⟩
  replace X1 := X1.below hb4
  replace X2 := X2.below hb4
  clear hs1 p0 p1 q0 q1 q2
  obtain ⟨p0, p1, _⟩ := X1.two
  obtain ⟨q0, q1, q2, _⟩ := X2.three
  go_wp2_with fail
  refine (hs2 _ hb4).mono ?_
  rintro e m5 ⟨r1, k1, r2, k2, rfl, hZ3, hZ4, hb5⟩
  replace X1 := X1.below hb5
  replace hZ1 := hZ1.below hb5
  replace hZ2 := hZ2.below hb5
  have hb45 := hb4.trans (hb5.mono hb4.size)
  have hbV := hbW.trans (hb45.mono hbW.size)
  have hpx := fun U (h : Rf U t1 d1 7 Q1) => plain13_any t1 d1 Q1 U h (by omega)
  have hpy := fun U (h : Rf U t2 d2 7 Q2) => plain13_any t2 d2 Q2 U h (by omega)
  have hct := fun U (hb : Below m5.heap.size m5 U) => hct0 U (hb45.trans (hb.mono hb45.size))
  have hcs := fun U (hb : Below m5.heap.size m5 U) => hcs0 U (hb45.trans (hb.mono hb45.size))
  have hB : Below m5.heap.size m5 m5 := Below.refl _ _
  have hlt := X1.lt
  clear hs2 hct0 hcs0 hb4 hb5 X2 q0 q1 q2 p0 p1
  obtain ⟨p0, p1, _⟩ := X1.two
  go_wp2_with fail
  refine wp_region_held_drew (S := fun w9 => w9.cell? ⟨w.heap.size, 0, none⟩ = some (.slice a o.cs.length ca) ∧ w9.cell? ⟨w.heap.size, 1, none⟩ = some (.slice b o.ps.length cb)) (by kernel_rfl) ?_ (fun hHeld => ?_)
  · (try dsimp only)
    go_keep
  have hdr : Below m5.heap.size m5 m5.drew := Below.drew1
  generalize m5.drew = Z1 at hdr hHeld ⊢
  replace hZ1 := hZ1.below hdr
  replace hZ2 := hZ2.below hdr
  replace hZ3 := hZ3.below hdr
  replace hZ4 := hZ4.below hdr
  replace hB := hB.trans (hdr.mono hB.size)
  clear hdr
  refine hT 0 hHeld ?_
  refine hT 1 hHeld ?_
  refine hT 2 hHeld ?_
  refine hT 3 hHeld ?_
  refine hT 4 hHeld ?_
  refine hT 6 hHeld ?_
  refine hCall (i := 5) rfl (by kernel_rfl) (by rfl) (fun K hK => ?_)
  go_simp
  refine (hpx _ hZ1).mono ?_
  rintro e u1 ⟨a1, c1, rfl, hN1, hbc⟩
  have hHz : u1.cell? ⟨w.heap.size, 0, none⟩ = some (.slice a o.cs.length ca) ∧ u1.cell? ⟨w.heap.size, 1, none⟩ = some (.slice b o.ps.length cb) := ⟨(hbc.cell (p := ⟨w.heap.size, 0, none⟩) (Nat.lt_of_lt_of_le hlt hB.size)).trans hHeld.1, (hbc.cell (p := ⟨w.heap.size, 1, none⟩) (Nat.lt_of_lt_of_le hlt hB.size)).trans hHeld.2⟩
  have hbc2 := hbc
  replace hB := hB.trans (hbc.mono hB.size)
  clear hbc
  replace hZ3 := hZ3.below hbc2
  replace hZ2 := hZ2.below hbc2
  replace hZ4 := hZ4.below hbc2
  go_wp2_with fail
  refine hK.out _ _ ?_ (fun hHeld => ?_)
  · (try dsimp only)
    exact hHz
  clear hK K hHz
  try simp only [Act.put, List.setIfInBounds_toArray, List.set_cons_zero, List.set_cons_succ]
  refine hCall (i := 7) rfl (by kernel_rfl) (by rfl) (fun K hK => ?_)
  go_simp
  refine (ssameR_any 7 7 a1 c1 r1 k1 _ u1 hN1.1 hZ3.1).mono ?_
  rintro e u2 ⟨rfl, hbc⟩
  have hHz : u2.cell? ⟨w.heap.size, 0, none⟩ = some (.slice a o.cs.length ca) ∧ u2.cell? ⟨w.heap.size, 1, none⟩ = some (.slice b o.ps.length cb) := ⟨(hbc.cell (p := ⟨w.heap.size, 0, none⟩) (Nat.lt_of_lt_of_le hlt hB.size)).trans hHeld.1, (hbc.cell (p := ⟨w.heap.size, 1, none⟩) (Nat.lt_of_lt_of_le hlt hB.size)).trans hHeld.2⟩
  have hbc2 := hbc
  replace hB := hB.trans (hbc.mono hB.size)
  clear hbc
  replace hZ2 := hZ2.below hbc2
  replace hZ4 := hZ4.below hbc2
  go_wp2_with fail
  refine hK.out _ _ ?_ (fun hHeld => ?_)
  · (try dsimp only)
    exact hHz
  clear hK K hHz
  try simp only [Act.put, List.setIfInBounds_toArray, List.set_cons_zero, List.set_cons_succ]
  refine hT 8 hHeld ?_
  refine hT 9 hHeld ?_
  refine hT 10 hHeld ?_
  refine hT 12 hHeld ?_
  refine hCall (i := 11) rfl (by kernel_rfl) (by rfl) (fun K hK => ?_)
  go_simp
  refine (hpy _ hZ2).mono ?_
  rintro e u3 ⟨a2, c2, rfl, hN2, hbc⟩
  have hHz : u3.cell? ⟨w.heap.size, 0, none⟩ = some (.slice a o.cs.length ca) ∧ u3.cell? ⟨w.heap.size, 1, none⟩ = some (.slice b o.ps.length cb) := ⟨(hbc.cell (p := ⟨w.heap.size, 0, none⟩) (Nat.lt_of_lt_of_le hlt hB.size)).trans hHeld.1, (hbc.cell (p := ⟨w.heap.size, 1, none⟩) (Nat.lt_of_lt_of_le hlt hB.size)).trans hHeld.2⟩
  have hbc2 := hbc
  replace hB := hB.trans (hbc.mono hB.size)
  clear hbc
  replace hZ4 := hZ4.below hbc2
  go_wp2_with fail
  refine hK.out _ _ ?_ (fun hHeld => ?_)
  · (try dsimp only)
    exact hHz
  clear hK K hHz
  try simp only [Act.put, List.setIfInBounds_toArray, List.set_cons_zero, List.set_cons_succ]
  refine hCall (i := 13) rfl (by kernel_rfl) (by rfl) (fun K hK => ?_)
  go_simp
  refine (ssameR_any 7 7 a2 c2 r2 k2 _ u3 hN2.1 hZ4.1).mono ?_
  rintro e u4 ⟨rfl, hbc⟩
  have hHz : u4.cell? ⟨w.heap.size, 0, none⟩ = some (.slice a o.cs.length ca) ∧ u4.cell? ⟨w.heap.size, 1, none⟩ = some (.slice b o.ps.length cb) := ⟨(hbc.cell (p := ⟨w.heap.size, 0, none⟩) (Nat.lt_of_lt_of_le hlt hB.size)).trans hHeld.1, (hbc.cell (p := ⟨w.heap.size, 1, none⟩) (Nat.lt_of_lt_of_le hlt hB.size)).trans hHeld.2⟩
  have hbc2 := hbc
  replace hB := hB.trans (hbc.mono hB.size)
  clear hbc
  go_wp2_with fail
  refine hK.out _ _ ?_ (fun hHeld => ?_)
  · (try dsimp only)
    exact hHz
  clear hK K hHz
  try simp only [Act.put, List.setIfInBounds_toArray, List.set_cons_zero, List.set_cons_succ]
  refine hT 14 hHeld ?_
  refine hT 15 hHeld ?_
  refine hT 16 hHeld ?_
  refine hT 18 hHeld ?_
  refine hCall (i := 17) rfl (by kernel_rfl) (by rfl) (fun K hK => ?_)
  go_simp
  refine (hct _ hB).mono ?_
  rintro e u5 ⟨rfl, hbc⟩
  have hHz : u5.cell? ⟨w.heap.size, 0, none⟩ = some (.slice a o.cs.length ca) ∧ u5.cell? ⟨w.heap.size, 1, none⟩ = some (.slice b o.ps.length cb) := ⟨(hbc.cell (p := ⟨w.heap.size, 0, none⟩) (Nat.lt_of_lt_of_le hlt hB.size)).trans hHeld.1, (hbc.cell (p := ⟨w.heap.size, 1, none⟩) (Nat.lt_of_lt_of_le hlt hB.size)).trans hHeld.2⟩
  have hbc2 := hbc
  replace hB := hB.trans (hbc.mono hB.size)
  clear hbc
  go_wp2_with fail
  refine hK.out _ _ ?_ (fun hHeld => ?_)
  · (try dsimp only)
    exact hHz
  clear hK K hHz
  try simp only [Act.put, List.setIfInBounds_toArray, List.set_cons_zero, List.set_cons_succ]
  refine hCall (i := 19) rfl (by kernel_rfl) (by rfl) (fun K hK => ?_)
  go_simp
  refine (hcs _ hB).mono ?_
  rintro e u6 ⟨rfl, hbc⟩
  have hHz : u6.cell? ⟨w.heap.size, 0, none⟩ = some (.slice a o.cs.length ca) ∧ u6.cell? ⟨w.heap.size, 1, none⟩ = some (.slice b o.ps.length cb) := ⟨(hbc.cell (p := ⟨w.heap.size, 0, none⟩) (Nat.lt_of_lt_of_le hlt hB.size)).trans hHeld.1, (hbc.cell (p := ⟨w.heap.size, 1, none⟩) (Nat.lt_of_lt_of_le hlt hB.size)).trans hHeld.2⟩
  have hbc2 := hbc
  replace hB := hB.trans (hbc.mono hB.size)
  clear hbc
  go_wp2_with fail
  refine hK.out _ _ ?_ (fun hHeld => ?_)
  · (try dsimp only)
    exact hHz
  clear hK K hHz
  try simp only [Act.put, List.setIfInBounds_toArray, List.set_cons_zero, List.set_cons_succ]
  refine hT 20 hHeld ?_
  refine hT 21 hHeld ?_
  refine hT 22 hHeld ?_
  refine wpAnyH_done (by kernel_rfl) ?_ _
  clear hHeld
  have hbF := hbV.trans (hB.mono hbV.size)
  go_wp2
  go_ret
  exact ⟨rfl, hbF⟩

end Go.Proofs.YthoildjecoppgaaGreatDoor
