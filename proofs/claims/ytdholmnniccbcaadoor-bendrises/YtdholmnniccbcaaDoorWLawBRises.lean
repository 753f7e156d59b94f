/-
  foundrylaw07.BendRises: the walk.
-/
import Derived.Test.YtdholmnniccbcaaDoorZ15
import Derived.Test.YtdholmnniccbcaaDoorZ11
namespace Go.Proofs.YtdholmnniccbcaaDoor
open Go.RowKit Go.Maps
set_option linter.unusedSimpArgs false
set_option linter.unusedVariables false

open Classical

/-- One pair. -/
def OneP (w : World) (b off k : Nat) (x y : Int) : Prop := b < w.heap.size ∧ w.cell? ⟨b, off + k * 2, none⟩ = some (.int .i64 x) ∧ w.cell? ⟨b, off + k * 2 + 1, none⟩ = some (.int .i64 y)
theorem OneP.cells {w : World} {b off k : Nat} {x y : Int} (h : OneP w b off k x y) : w.cell? ⟨b, off + k * 2, none⟩ = some (.int .i64 x) ∧ w.cell? ⟨b, off + k * 2 + 1, none⟩ = some (.int .i64 y) := h.2
theorem OneP.below {w w' : World} {b off k : Nat} {x y : Int} (h : OneP w b off k x y) (hb : Below w.heap.size w w') : OneP w' b off k x y := ⟨Nat.lt_of_lt_of_le h.1 hb.size, (hb.cell (p := ⟨b, off + k * 2, none⟩) h.1).trans h.2.1, (hb.cell (p := ⟨b, off + k * 2 + 1, none⟩) h.1).trans h.2.2⟩
theorem Pz.one {w : World} {a : Option Addr} {cap : Nat} {l : List Pr} (h : Pz w a cap l) {k : Nat} (hk : k < l.length) : ∃ b off, a = some ⟨b, off, none⟩ ∧ OneP w b off k (l.getD k (0, 0)).1 (l.getD k (0, 0)).2 := by
  obtain ⟨b, off, ea, hb, d0, d1⟩ := h.2.2.2 k hk
  exact ⟨b, off, ea, hb, d0, d1⟩

set_option maxHeartbeats 16000000 in
set_option maxRecDepth 100000 in
theorem bendRises_any (a : Option Addr) (cap : Nat) (l : List Pr) (n : Bool) (a1 a2 : Option Addr) (c1 c2 : Nat) (xs ys : List Nat) (m : Bool) (b1 b2 : Option Addr) (d1 d2 : Nat) (ps qs : List Nat) (w : World) (hP : Pz w a cap l) (hx : Rd w a1 c1 xs) (hy : Rd w a2 c2 ys) (hp : Rd w b1 d1 ps) (hq : Rd w b2 d2 qs) (htab : Pow w) :
    Calls Tryd.prog 3 #[.slice a l.length cap, .agg #[.bool n, .slice a1 xs.length c1, .slice a2 ys.length c2], .agg #[.bool m, .slice b1 ps.length d1, .slice b2 qs.length d2]] w fun e w' => e = .returned (.bool true) ∧ Below w.heap.size w w' := by
  have HPK : Hid (∀ V, Below w.heap.size w V → Pz V a cap l) := fun V hV => hP.below hV
  have HTAB : Hid (Pow w) := htab
  clear htab
  have z0 := hP.lenB
  have z1 : xs.length ≤ 9223372036854775807 := by have := hx.le; have := hx.cap; unfold maxLen at this; omega
  have z2 : ys.length ≤ 9223372036854775807 := by have := hy.le; have := hy.cap; unfold maxLen at this; omega
  have z3 : ps.length ≤ 9223372036854775807 := by have := hp.le; have := hp.cap; unfold maxLen at this; omega
  have z4 : qs.length ≤ 9223372036854775807 := by have := hq.le; have := hq.cap; unfold maxLen at this; omega
  obtain ⟨W, hW, B1, B2, hbW⟩ := boxes2 26 26 w (.bool n) (.slice a1 xs.length c1) (.slice a2 ys.length c2) (.bool m) (.slice b1 ps.length d1) (.slice b2 qs.length d2)
  replace hP := hP.below hbW
  replace hx := hx.below hbW
  replace hy := hy.below hbW
  replace hp := hp.below hbW
  replace hq := hq.below hbW
  go_enter Tryd.func3, Tryd.ntmps3
  go_wp2_with fail
  rw [← hW]
  clear hW
  obtain ⟨p00, p01, p02, _⟩ := B1.cells
  obtain ⟨p10, p11, p12, _⟩ := B2.cells
  refine (awake7_any _ (HTAB.out.below hbW)).mono ?_
  rintro e u1 ⟨rfl, hb1⟩
  replace hP := hP.below hb1
  replace hx := hx.below hb1
  replace hy := hy.below hb1
  replace hp := hp.below hb1
  replace hq := hq.below hb1
  replace B1 := B1.below hb1
  replace B2 := B2.below hb1
  replace hbW : Below w.heap.size w u1 := hbW.trans (hb1.mono hbW.size)
  clear hb1
  clear p00 p01 p02 p10 p11 p12
  obtain ⟨p00, p01, p02, _⟩ := B1.cells
  obtain ⟨p10, p11, p12, _⟩ := B2.cells
  have sl0 := B1.lt
  have sl1 := B2.lt
  go_wp2_with fail
  obtain ⟨W2, hW, hZ, hb9⟩ : ∃ W, W = u1.alloc (.cells #[.slice a l.length cap] 22) ∧ Pzz W (some ⟨u1.heap.size, 0, none⟩) 1 [l] ∧ Below u1.heap.size u1 W := ⟨_, rfl, pzz_one _ _ _ _ hP _, bl1 _⟩
  rw [← hW]
  clear hW
  clear sl0 sl1
  replace hP := hP.below hb9
  replace hx := hx.below hb9
  replace hy := hy.below hb9
  replace hp := hp.below hb9
  replace hq := hq.below hb9
  replace B1 := B1.below hb9
  replace B2 := B2.below hb9
  replace hbW : Below w.heap.size w W2 := hbW.trans (hb9.mono hbW.size)
  clear hb9
  have hfw := few7_any _ 1 [l] n a1 a2 c1 c2 xs.length ys.length _ hZ z1 z2
  rw [show [l].length = 1 from rfl] at hfw
  clear hZ
  clear p00 p01 p02 p10 p11 p12
  obtain ⟨p00, p01, p02, _⟩ := B1.cells
  obtain ⟨p10, p11, p12, _⟩ := B2.cells
  refine (hfw).mono ?_
  rintro e u2 ⟨q1, rfl, hq1, hb2⟩
  replace hP := hP.below hb2
  replace hx := hx.below hb2
  replace hy := hy.below hb2
  replace hp := hp.below hb2
  replace hq := hq.below hb2
  replace B1 := B1.below hb2
  replace B2 := B2.below hb2
  replace hbW : Below w.heap.size w u2 := hbW.trans (hb2.mono hbW.size)
  clear hb2
  clear p00 p01 p02 p10 p11 p12
  obtain ⟨p00, p01, p02, _⟩ := B1.cells
  obtain ⟨p10, p11, p12, _⟩ := B2.cells
  clear hfw
  have HQ1 : Hid (q1 = true → 1 ≤ 30 ∧ xs.length ≤ 6 ∧ ys.length ≤ 6) := hq1
  clear hq1
  cases q1 with
  | false =>
    go_wp2_with fail
    refine (awake7_any _ (HTAB.out.below hbW)).mono ?_
    rintro e u3 ⟨rfl, hb3⟩
    replace hP := hP.below hb3
    replace hx := hx.below hb3
    replace hy := hy.below hb3
    replace hp := hp.below hb3
    replace hq := hq.below hb3
    replace B1 := B1.below hb3
    replace B2 := B2.below hb3
    replace hbW : Below w.heap.size w u3 := hbW.trans (hb3.mono hbW.size)
    clear hb3
    clear p00 p01 p02 p10 p11 p12
    obtain ⟨p00, p01, p02, _⟩ := B1.cells
    obtain ⟨p10, p11, p12, _⟩ := B2.cells
    go_wp2
    go_ret
    exact ⟨rfl, hbW⟩
  | true =>
  go_wp2_with fail
  refine (few7_any none 0 [] m b1 b2 d1 d2 ps.length qs.length _ (Pzz.nil _ _ _ (Nat.zero_le _)) z3 z4).mono ?_
  rintro e u3 ⟨q2, rfl, hq2, hb3⟩
  replace hP := hP.below hb3
  replace hx := hx.below hb3
  replace hy := hy.below hb3
  replace hp := hp.below hb3
  replace hq := hq.below hb3
  replace B1 := B1.below hb3
  replace B2 := B2.below hb3
  replace hbW : Below w.heap.size w u3 := hbW.trans (hb3.mono hbW.size)
  clear hb3
  clear p00 p01 p02 p10 p11 p12
  obtain ⟨p00, p01, p02, _⟩ := B1.cells
  obtain ⟨p10, p11, p12, _⟩ := B2.cells
  have HQ2 : Hid (q2 = true → (0 : Nat) ≤ 30 ∧ ps.length ≤ 6 ∧ qs.length ≤ 6) := hq2
  clear hq2
  cases q2 with
  | false =>
    go_wp2_with fail
    refine (awake7_any _ (HTAB.out.below hbW)).mono ?_
    rintro e u4 ⟨rfl, hb4⟩
    replace hP := hP.below hb4
    replace hx := hx.below hb4
    replace hy := hy.below hb4
    replace hp := hp.below hb4
    replace hq := hq.below hb4
    replace B1 := B1.below hb4
    replace B2 := B2.below hb4
    replace hbW : Below w.heap.size w u4 := hbW.trans (hb4.mono hbW.size)
    clear hb4
    clear p00 p01 p02 p10 p11 p12
    obtain ⟨p00, p01, p02, _⟩ := B1.cells
    obtain ⟨p10, p11, p12, _⟩ := B2.cells
    go_wp2
    go_ret
    exact ⟨rfl, hbW⟩
  | true =>
  have hfo := fun V hV => cformP_any a cap l V hV
  cases hf : frP l with
  | false =>
    rw [hf] at hfo
    go_wp2_with fail
    refine (hfo _ hP).mono ?_
    rintro e u4 ⟨rfl, hb4⟩
    replace hP := hP.below hb4
    replace hx := hx.below hb4
    replace hy := hy.below hb4
    replace hp := hp.below hb4
    replace hq := hq.below hb4
    replace B1 := B1.below hb4
    replace B2 := B2.below hb4
    replace hbW : Below w.heap.size w u4 := hbW.trans (hb4.mono hbW.size)
    clear hb4
    clear p00 p01 p02 p10 p11 p12
    obtain ⟨p00, p01, p02, _⟩ := B1.cells
    obtain ⟨p10, p11, p12, _⟩ := B2.cells
    go_wp2_with fail
    refine (awake7_any _ (HTAB.out.below hbW)).mono ?_
    rintro e u5 ⟨rfl, hb5⟩
    replace hP := hP.below hb5
    replace hx := hx.below hb5
    replace hy := hy.below hb5
    replace hp := hp.below hb5
    replace hq := hq.below hb5
    replace B1 := B1.below hb5
    replace B2 := B2.below hb5
    replace hbW : Below w.heap.size w u5 := hbW.trans (hb5.mono hbW.size)
    clear hb5
    clear p00 p01 p02 p10 p11 p12
    obtain ⟨p00, p01, p02, _⟩ := B1.cells
    obtain ⟨p10, p11, p12, _⟩ := B2.cells
    go_wp2
    go_ret
    exact ⟨rfl, hbW⟩
  | true =>
  have HF : Hid (frP l = true) := hf
  rw [hf] at hfo
  clear hf
  go_wp2_with fail
  refine (hfo _ hP).mono ?_
  rintro e u4 ⟨rfl, hb4⟩
  replace hP := hP.below hb4
  replace hx := hx.below hb4
  replace hy := hy.below hb4
  replace hp := hp.below hb4
  replace hq := hq.below hb4
  replace B1 := B1.below hb4
  replace B2 := B2.below hb4
  replace hbW : Below w.heap.size w u4 := hbW.trans (hb4.mono hbW.size)
  clear hb4
  clear p00 p01 p02 p10 p11 p12
  obtain ⟨p00, p01, p02, _⟩ := B1.cells
  obtain ⟨p10, p11, p12, _⟩ := B2.cells
  clear hfo
  obtain ⟨qx, hqx⟩ : ∃ q, q = if Fmd n xs ys then qv n xs ys else 0 := ⟨_, rfl⟩
  have hX : Ct u4 (.agg #[.bool n, .slice a1 xs.length c1, .slice a2 ys.length c2]) 6 qx := ⟨_, _, _, ⟨_, _, _, _, rfl, hx, hy⟩, (HQ1.out (by simp)).2.1, (HQ1.out (by simp)).2.2, hqx⟩
  clear hqx hx hy
  obtain ⟨qy, hqy⟩ : ∃ q, q = if Fmd m ps qs then qv m ps qs else 0 := ⟨_, rfl⟩
  have hY : Ct u4 (.agg #[.bool m, .slice b1 ps.length d1, .slice b2 qs.length d2]) 6 qy := ⟨_, _, _, ⟨_, _, _, _, rfl, hp, hq⟩, (HQ2.out (by simp)).2.1, (HQ2.out (by simp)).2.2, hqy⟩
  clear hqy hp hq
  obtain ⟨s0, hs0⟩ : ∃ s, sgnQ (qx - qy) = s := ⟨_, rfl⟩
  have HS0 : Hid (sgnQ (qx - qy) = s0) := hs0
  clear hs0
  go_wp2_with fail
  refine (qcmp_any 6 6 qx qy _ _ _ hX hY (by decide) (by decide) (by decide) (by decide)).mono ?_
  rintro e u5 ⟨rfl, hb5⟩
  replace hP := hP.below hb5
  replace hX := hX.below hb5
  replace hY := hY.below hb5
  replace B1 := B1.below hb5
  replace B2 := B2.below hb5
  replace hbW : Below w.heap.size w u5 := hbW.trans (hb5.mono hbW.size)
  clear hb5
  clear p00 p01 p02 p10 p11 p12
  obtain ⟨p00, p01, p02, _⟩ := B1.cells
  obtain ⟨p10, p11, p12, _⟩ := B2.cells
  rw [HS0.out]
  go_upto_if 34 with fail
  go_cut [] from 7 (fun wx => ∃ (p r : Rat) (n1 : Bool) (e1 : Option Addr) (x1 f1 : Nat) (e2 : Option Addr) (y1 f2 : Nat) (n2 : Bool) (e3 : Option Addr) (x2 f3 : Nat) (e4 : Option Addr) (y2 f4 : Nat), p ≤ r ∧ Box 26 wx w.heap.size (.bool n1) (.slice e1 x1 f1) (.slice e2 y1 f2) ∧ Box 26 wx (w.heap.size + 1) (.bool n2) (.slice e3 x2 f3) (.slice e4 y2 f4) ∧ Ct wx (.agg #[.bool n1, .slice e1 x1 f1, .slice e2 y1 f2]) 6 p ∧ Ct wx (.agg #[.bool n2, .slice e3 x2 f3, .slice e4 y2 f4]) 6 r ∧ Pz wx a cap l ∧ Below w.heap.size w wx)
  case first =>
    by_cases hgt : 0 < s0
    · have hqq : qy ≤ qx := Rat.le_of_lt (sgn_pos.1 (by rw [HS0.out]; exact hgt))
      clear p00 p01 p02 p10 p11 p12
      obtain ⟨q1, q2, q3, q4, q5, q6⟩ := B1.cells
      obtain ⟨r1, r2, r3, r4, r5, r6⟩ := B2.cells
      have nn : w.heap.size ≠ w.heap.size + 1 := by omega
      go_wp2_with fail
      obtain ⟨U1, hU, A1, hbU, hK, ho⟩ := set3_world B1 (.bool m) (.slice b1 ps.length d1) (.slice b2 qs.length d2)
      rw [← hU]
      clear hU
      obtain ⟨U2, hU, A2, hbU2, hK2, ho2⟩ := set3_world (B2.other ho (Ne.symm nn)) (.bool n) (.slice a1 xs.length c1) (.slice a2 ys.length c2)
      rw [← hU]
      clear hU
      go_meet
      exact ⟨qy, qx, _, _, _, _, _, _, _, _, _, _, _, _, _, _, hqq, A1.other ho2 nn, A2, (hY.keep hK).keep hK2, (hX.keep hK).keep hK2, HPK.out _ (hbU2 _ _ (hbU _ _ hbW (Nat.le_refl _)) (by omega)), hbU2 _ _ (hbU _ _ hbW (Nat.le_refl _)) (by omega)⟩
    · have hqq : qx ≤ qy := Rat.not_lt.1 (fun hh => hgt (by rw [← HS0.out]; exact sgn_pos.2 hh))
      go_wp2_with fail
      go_meet
      exact ⟨qx, qy, _, _, _, _, _, _, _, _, _, _, _, _, _, _, hqq, B1, B2, hX, hY, hP, hbW⟩
  case rest =>
  clear p00 p01 p02 p10 p11 p12
  clear B1 B2 hX hY hP hbW
  obtain ⟨p, r, n1, e1, x1, f1, e2, y1, f2, n2, e3, x2, f3, e4, y2, f4, hpr, B1, B2, hX, hY, hP, hbW⟩ := hcut
  have m1 := beQ_mono HF.out hpr
  have m2 := (beQ_in HF.out p).1
  have m3 := (beQ_in HF.out r).2
  obtain ⟨qa, hqa⟩ : ∃ t, beQ l p = t := ⟨_, rfl⟩
  obtain ⟨qb, hqb⟩ : ∃ t, beQ l r = t := ⟨_, rfl⟩
  rw [hqa] at m1 m2
  rw [hqb] at m1 m3
  have HM : Hid (qa ≤ qb ∧ ((-1 : Int) : Rat) ≤ qa ∧ qb ≤ ((1 : Int) : Rat) ∧ beQ l ((0 : Int) : Rat) = 0 ∧ beQ l ((1 : Int) : Rat) = ((1 : Int) : Rat)) := ⟨m1, m2, m3, beQ_zero HF.out, beQ_one HF.out⟩
  have HQA : Hid (beQ l p = qa ∧ beQ l r = qb) := ⟨hqa, hqb⟩
  have hbe := fun k q v V hV hv hk hk2 => cbend_any k q v a cap l V hV hv hk hk2
  clear m1 m2 m3 hqa hqb hpr
  go_upto_region 5 with fail
  go_cut [7, 8] from 9 (fun s7 s8 wx => ∃ e7 e8 n7 a7 x7 c7 b7 y7 d7 n8 a8 x8 c8 b8 y8 d8, s7 = .pointer (some ⟨e7, 0, none⟩) ∧ s8 = .pointer (some ⟨e8, 0, none⟩) ∧ Box 26 wx e7 (.bool n7) (.slice a7 x7 c7) (.slice b7 y7 d7) ∧ Box 26 wx e8 (.bool n8) (.slice a8 x8 c8) (.slice b8 y8 d8) ∧ Ct wx (.agg #[.bool n7, .slice a7 x7 c7, .slice b7 y7 d7]) 14 qa ∧ Ct wx (.agg #[.bool n8, .slice a8 x8 c8, .slice b8 y8 d8]) 14 qb ∧ Pz wx a cap l ∧ Below w.heap.size w wx)
  case first =>
    obtain ⟨p00, p01, p02, _⟩ := B1.cells
    obtain ⟨p10, p11, p12, _⟩ := B2.cells
    refine wp_region_held_drew (S := (fun u => u.cell? ⟨w.heap.size, 0, none⟩ = some (.bool n1) ∧ u.cell? ⟨w.heap.size, 1, none⟩ = some (.slice e1 x1 f1) ∧ u.cell? ⟨w.heap.size, 2, none⟩ = some (.slice e2 y1 f2) ∧ u.cell? ⟨(w.heap.size + 1), 0, none⟩ = some (.bool n2) ∧ u.cell? ⟨(w.heap.size + 1), 1, none⟩ = some (.slice e3 x2 f3) ∧ u.cell? ⟨(w.heap.size + 1), 2, none⟩ = some (.slice e4 y2 f4))) (by kernel_rfl) ?_ (fun hHeld => ?_)
    · (try dsimp only)
      go_keep
    have hdr : Below wc.heap.size wc wc.drew := Below.drew1
    generalize wc.drew = ud1 at hdr hHeld ⊢
    replace hX := hX.below hdr
    replace hY := hY.below hdr
    replace hP := hP.below hdr
    replace B1 := B1.below hdr
    replace B2 := B2.below hdr
    replace hbW : Below w.heap.size w ud1 := hbW.trans (hdr.mono hbW.size)
    clear hdr
    clear p00 p01 p02 p10 p11 p12
    obtain ⟨p00, p01, p02, _⟩ := B1.cells
    obtain ⟨p10, p11, p12, _⟩ := B2.cells
    refine hTake (i := 0) (v := ?v2) rfl (by kernel_rfl) (by kernel_rfl) (by kernel_rfl) (fun _ _ _ h => h) (Or.inl ⟨by rfl, ?y2⟩) hHeld ?r2
    case y2 =>
      intro w9 hSw
      (try dsimp only at hSw)
      go_simp
      try with_reducible rfl
    try simp only [Act.put, List.setIfInBounds_toArray, List.set_cons_zero, List.set_cons_succ]
    refine hTake (i := 1) (v := ?v3) rfl (by kernel_rfl) (by kernel_rfl) (by kernel_rfl) (fun _ _ _ h => h) (Or.inl ⟨by rfl, ?y3⟩) hHeld ?r3
    case y3 =>
      intro w9 hSw
      (try dsimp only at hSw)
      go_simp
      try with_reducible rfl
    try simp only [Act.put, List.setIfInBounds_toArray, List.set_cons_zero, List.set_cons_succ]
    refine hTake (i := 3) (v := ?v4) rfl (by kernel_rfl) (by kernel_rfl) (by kernel_rfl) (fun _ _ _ h => h) (Or.inl ⟨by rfl, ?y4⟩) hHeld ?r4
    case y4 =>
      intro w9 hSw
      (try dsimp only at hSw)
      go_simp
      try with_reducible rfl
    try simp only [Act.put, List.setIfInBounds_toArray, List.set_cons_zero, List.set_cons_succ]
    refine hTake (i := 4) (v := ?v5) rfl (by kernel_rfl) (by kernel_rfl) (by kernel_rfl) (fun _ _ _ h => h) (Or.inl ⟨by rfl, ?y5⟩) hHeld ?r5
    case y5 =>
      intro w9 hSw
      (try dsimp only at hSw)
      go_simp
      try with_reducible rfl
    try simp only [Act.put, List.setIfInBounds_toArray, List.set_cons_zero, List.set_cons_succ]
    refine wpAnyH_ready (rs := [2, 6, 7]) (by kernel_rfl) (by simp) (hCons (i := 2) rfl (by rfl) (fun K hK => ?_) (hCons (i := 6) rfl (by rfl) (fun K hK => ?_) (hCons (i := 7) rfl (by rfl) (fun K hK => ?_) AllReadyH.nil)))
    · go_simp
      refine (hbe 6 p _ _ hP hX (by decide) (by decide)).mono ?_
      rintro e u41 ⟨v7, rfl, hF7, hb41⟩
      replace hX := hX.below hb41
      replace hY := hY.below hb41
      replace hP := hP.below hb41
      replace B1 := B1.below hb41
      replace B2 := B2.below hb41
      replace hbW : Below w.heap.size w u41 := hbW.trans (hb41.mono hbW.size)
      clear hb41
      rw [HQA.out.1] at hF7
      have hP7 := hF7.ct
      obtain ⟨n7, x7, y7, ⟨a7, c7, b7, d7, rfl, _, _⟩, _⟩ := hF7
      clear p00 p01 p02 p10 p11 p12
      obtain ⟨p00, p01, p02, _⟩ := B1.cells
      obtain ⟨p10, p11, p12, _⟩ := B2.cells
      go_wp2_with fail
      refine hK.out _ _ ?_ (fun hHeld => ?_)
      · (try dsimp only)
        exact ⟨p00, p01, p02, p10, p11, p12⟩
      clear hK K
      try simp only [Act.put, List.setIfInBounds_toArray, List.set_cons_zero, List.set_cons_succ]
      refine wpAnyH_ready (rs := [5, 6, 7]) (by kernel_rfl) (by simp) (hCons (i := 5) rfl (by rfl) (fun K hK => ?_) (hCons (i := 6) rfl (by rfl) (fun K hK => ?_) (hCons (i := 7) rfl (by rfl) (fun K hK => ?_) AllReadyH.nil)))
      · go_simp
        refine (hbe 6 r _ _ hP hY (by decide) (by decide)).mono ?_
        rintro e u42 ⟨v8, rfl, hF8, hb42⟩
        replace hX := hX.below hb42
        replace hY := hY.below hb42
        replace hP := hP.below hb42
        replace hP7 := hP7.below hb42
        replace B1 := B1.below hb42
        replace B2 := B2.below hb42
        replace hbW : Below w.heap.size w u42 := hbW.trans (hb42.mono hbW.size)
        clear hb42
        rw [HQA.out.2] at hF8
        have hP8 := hF8.ct
        obtain ⟨n8, x8, y8, ⟨a8, c8, b8, d8, rfl, _, _⟩, _⟩ := hF8
        clear p00 p01 p02 p10 p11 p12
        obtain ⟨p00, p01, p02, _⟩ := B1.cells
        obtain ⟨p10, p11, p12, _⟩ := B2.cells
        go_wp2_with fail
        refine hK.out _ _ ?_ (fun hHeld => ?_)
        · (try dsimp only)
          exact ⟨p00, p01, p02, p10, p11, p12⟩
        clear hK K
        try simp only [Act.put, List.setIfInBounds_toArray, List.set_cons_zero, List.set_cons_succ]
        refine wpAnyH_ready (rs := [6, 7]) (by kernel_rfl) (by simp) (hCons (i := 6) rfl (by rfl) (fun K hK => ?_) (hCons (i := 7) rfl (by rfl) (fun K hK => ?_) AllReadyH.nil))
        · go_simp
          obtain ⟨u43, hU, B7, hb9⟩ : ∃ U, U = u42.alloc (.cells #[.bool false, .slice none 0 0, .slice none 0 0] 26) ∧ Box 26 U u42.heap.size (.bool false) (.slice none 0 0) (.slice none 0 0) ∧ Below u42.heap.size u42 U := ⟨_, rfl, Box.new _ _ _ _ _, al1 _⟩
          rw [← hU]
          clear hU
          have n71 := B1.lt
          have n72 := B2.lt
          replace hX := hX.below hb9
          replace hY := hY.below hb9
          replace hP := hP.below hb9
          replace hP7 := hP7.below hb9
          replace hP8 := hP8.below hb9
          replace B1 := B1.below hb9
          replace B2 := B2.below hb9
          replace hbW : Below w.heap.size w u43 := hbW.trans (hb9.mono hbW.size)
          clear hb9
          generalize u42.heap.size = e7 at B7 n71 n72 ⊢
          clear p00 p01 p02 p10 p11 p12
          obtain ⟨p00, p01, p02, _⟩ := B1.cells
          obtain ⟨p10, p11, p12, _⟩ := B2.cells
          obtain ⟨p20, p21, p22, _⟩ := B7.cells
          refine hK.out _ _ ?_ (fun hHeld => ?_)
          · (try dsimp only)
            exact ⟨p00, p01, p02, p10, p11, p12⟩
          clear hK K
          try simp only [Act.put, List.setIfInBounds_toArray, List.set_cons_zero, List.set_cons_succ]
          refine hCall (i := 7) rfl (by kernel_rfl) (by rfl) (fun K hK => ?_)
          go_simp
          obtain ⟨u44, hU, B8, hb9⟩ : ∃ U, U = u43.alloc (.cells #[.bool false, .slice none 0 0, .slice none 0 0] 26) ∧ Box 26 U u43.heap.size (.bool false) (.slice none 0 0) (.slice none 0 0) ∧ Below u43.heap.size u43 U := ⟨_, rfl, Box.new _ _ _ _ _, al1 _⟩
          rw [← hU]
          clear hU
          have n81 := B1.lt
          have n82 := B2.lt
          have nn := B7.lt
          replace hX := hX.below hb9
          replace hY := hY.below hb9
          replace hP := hP.below hb9
          replace hP7 := hP7.below hb9
          replace hP8 := hP8.below hb9
          replace B1 := B1.below hb9
          replace B2 := B2.below hb9
          replace B7 := B7.below hb9
          replace hbW : Below w.heap.size w u44 := hbW.trans (hb9.mono hbW.size)
          clear hb9
          generalize u43.heap.size = e8 at B8 n81 n82 nn ⊢
          clear p00 p01 p02 p10 p11 p12 p20 p21 p22
          obtain ⟨p00, p01, p02, _⟩ := B1.cells
          obtain ⟨p10, p11, p12, _⟩ := B2.cells
          obtain ⟨p20, p21, p22, _⟩ := B7.cells
          obtain ⟨p30, p31, p32, _⟩ := B8.cells
          refine hK.out _ _ ?_ (fun hHeld => ?_)
          · (try dsimp only)
            exact ⟨p00, p01, p02, p10, p11, p12⟩
          clear hK K
          try simp only [Act.put, List.setIfInBounds_toArray, List.set_cons_zero, List.set_cons_succ]
          refine hCall (i := 8) rfl (by kernel_rfl) (by rfl) (fun K hK => ?_)
          go_simp
          obtain ⟨u45, hU, A7, hbU, hK9, ho⟩ := set3_world B7 (.bool n7) (.slice a7 x7.length c7) (.slice b7 y7.length d7)
          rw [← hU]
          clear hU
          replace hbW := hbU _ _ hbW (by omega)
          replace hP7 := hP7.keep hK9
          replace hP8 := hP8.keep hK9
          replace B1 := B1.other ho (by omega)
          replace B2 := B2.other ho (by omega)
          replace B8 := B8.other ho (by omega)
          clear hbU hK9 ho
          clear p00 p01 p02 p10 p11 p12 p20 p21 p22 p30 p31 p32
          obtain ⟨p00, p01, p02, _⟩ := B1.cells
          obtain ⟨p10, p11, p12, _⟩ := B2.cells
          obtain ⟨p20, p21, p22, _⟩ := B8.cells
          obtain ⟨p30, p31, p32, _⟩ := A7.cells
          refine hK.out _ _ ?_ (fun hHeld => ?_)
          · (try dsimp only)
            exact ⟨p00, p01, p02, p10, p11, p12⟩
          clear hK K
          try simp only [Act.put, List.setIfInBounds_toArray, List.set_cons_zero, List.set_cons_succ]
          refine hCall (i := 9) rfl (by kernel_rfl) (by rfl) (fun K hK => ?_)
          go_simp
          obtain ⟨u46, hU, A8, hbU, hK9, ho⟩ := set3_world B8 (.bool n8) (.slice a8 x8.length c8) (.slice b8 y8.length d8)
          rw [← hU]
          clear hU
          replace hbW := hbU _ _ hbW (by omega)
          replace hP7 := hP7.keep hK9
          replace hP8 := hP8.keep hK9
          replace B1 := B1.other ho (by omega)
          replace B2 := B2.other ho (by omega)
          replace A7 := A7.other ho (by omega)
          clear hbU hK9 ho
          clear p00 p01 p02 p10 p11 p12 p20 p21 p22 p30 p31 p32
          obtain ⟨p00, p01, p02, _⟩ := B1.cells
          obtain ⟨p10, p11, p12, _⟩ := B2.cells
          obtain ⟨p20, p21, p22, _⟩ := A7.cells
          obtain ⟨p30, p31, p32, _⟩ := A8.cells
          refine hK.out _ _ ?_ (fun hHeld => ?_)
          · (try dsimp only)
            exact ⟨p00, p01, p02, p10, p11, p12⟩
          clear hK K
          try simp only [Act.put, List.setIfInBounds_toArray, List.set_cons_zero, List.set_cons_succ]
          refine wpAnyH_done (by kernel_rfl) ?_ _
          clear hHeld
          go_wp2_with fail
          go_meet
          exact ⟨e7, e8, _, _, _, _, _, _, _, _, _, _, _, _, _, _, rfl, rfl, A7, A8, hP7, hP8, HPK.out _ hbW, hbW⟩
        · go_simp
          obtain ⟨u43, hU, B8, hb9⟩ : ∃ U, U = u42.alloc (.cells #[.bool false, .slice none 0 0, .slice none 0 0] 26) ∧ Box 26 U u42.heap.size (.bool false) (.slice none 0 0) (.slice none 0 0) ∧ Below u42.heap.size u42 U := ⟨_, rfl, Box.new _ _ _ _ _, al1 _⟩
          rw [← hU]
          clear hU
          have n81 := B1.lt
          have n82 := B2.lt
          replace hX := hX.below hb9
          replace hY := hY.below hb9
          replace hP := hP.below hb9
          replace hP7 := hP7.below hb9
          replace hP8 := hP8.below hb9
          replace B1 := B1.below hb9
          replace B2 := B2.below hb9
          replace hbW : Below w.heap.size w u43 := hbW.trans (hb9.mono hbW.size)
          clear hb9
          generalize u42.heap.size = e8 at B8 n81 n82 ⊢
          clear p00 p01 p02 p10 p11 p12
          obtain ⟨p00, p01, p02, _⟩ := B1.cells
          obtain ⟨p10, p11, p12, _⟩ := B2.cells
          obtain ⟨p20, p21, p22, _⟩ := B8.cells
          refine hK.out _ _ ?_ (fun hHeld => ?_)
          · (try dsimp only)
            exact ⟨p00, p01, p02, p10, p11, p12⟩
          clear hK K
          try simp only [Act.put, List.setIfInBounds_toArray, List.set_cons_zero, List.set_cons_succ]
          refine hCall (i := 6) rfl (by kernel_rfl) (by rfl) (fun K hK => ?_)
          go_simp
          obtain ⟨u44, hU, B7, hb9⟩ : ∃ U, U = u43.alloc (.cells #[.bool false, .slice none 0 0, .slice none 0 0] 26) ∧ Box 26 U u43.heap.size (.bool false) (.slice none 0 0) (.slice none 0 0) ∧ Below u43.heap.size u43 U := ⟨_, rfl, Box.new _ _ _ _ _, al1 _⟩
          rw [← hU]
          clear hU
          have n71 := B1.lt
          have n72 := B2.lt
          have nn := B8.lt
          replace hX := hX.below hb9
          replace hY := hY.below hb9
          replace hP := hP.below hb9
          replace hP7 := hP7.below hb9
          replace hP8 := hP8.below hb9
          replace B1 := B1.below hb9
          replace B2 := B2.below hb9
          replace B8 := B8.below hb9
          replace hbW : Below w.heap.size w u44 := hbW.trans (hb9.mono hbW.size)
          clear hb9
          generalize u43.heap.size = e7 at B7 n71 n72 nn ⊢
          clear p00 p01 p02 p10 p11 p12 p20 p21 p22
          obtain ⟨p00, p01, p02, _⟩ := B1.cells
          obtain ⟨p10, p11, p12, _⟩ := B2.cells
          obtain ⟨p20, p21, p22, _⟩ := B8.cells
          obtain ⟨p30, p31, p32, _⟩ := B7.cells
          refine hK.out _ _ ?_ (fun hHeld => ?_)
          · (try dsimp only)
            exact ⟨p00, p01, p02, p10, p11, p12⟩
          clear hK K
          try simp only [Act.put, List.setIfInBounds_toArray, List.set_cons_zero, List.set_cons_succ]
          refine hCall (i := 8) rfl (by kernel_rfl) (by rfl) (fun K hK => ?_)
          go_simp
          obtain ⟨u45, hU, A7, hbU, hK9, ho⟩ := set3_world B7 (.bool n7) (.slice a7 x7.length c7) (.slice b7 y7.length d7)
          rw [← hU]
          clear hU
          replace hbW := hbU _ _ hbW (by omega)
          replace hP7 := hP7.keep hK9
          replace hP8 := hP8.keep hK9
          replace B1 := B1.other ho (by omega)
          replace B2 := B2.other ho (by omega)
          replace B8 := B8.other ho (by omega)
          clear hbU hK9 ho
          clear p00 p01 p02 p10 p11 p12 p20 p21 p22 p30 p31 p32
          obtain ⟨p00, p01, p02, _⟩ := B1.cells
          obtain ⟨p10, p11, p12, _⟩ := B2.cells
          obtain ⟨p20, p21, p22, _⟩ := B8.cells
          obtain ⟨p30, p31, p32, _⟩ := A7.cells
          refine hK.out _ _ ?_ (fun hHeld => ?_)
          · (try dsimp only)
            exact ⟨p00, p01, p02, p10, p11, p12⟩
          clear hK K
          try simp only [Act.put, List.setIfInBounds_toArray, List.set_cons_zero, List.set_cons_succ]
          refine hCall (i := 9) rfl (by kernel_rfl) (by rfl) (fun K hK => ?_)
          go_simp
          obtain ⟨u46, hU, A8, hbU, hK9, ho⟩ := set3_world B8 (.bool n8) (.slice a8 x8.length c8) (.slice b8 y8.length d8)
          rw [← hU]
          clear hU
          replace hbW := hbU _ _ hbW (by omega)
          replace hP7 := hP7.keep hK9
          replace hP8 := hP8.keep hK9
          replace B1 := B1.other ho (by omega)
          replace B2 := B2.other ho (by omega)
          replace A7 := A7.other ho (by omega)
          clear hbU hK9 ho
          clear p00 p01 p02 p10 p11 p12 p20 p21 p22 p30 p31 p32
          obtain ⟨p00, p01, p02, _⟩ := B1.cells
          obtain ⟨p10, p11, p12, _⟩ := B2.cells
          obtain ⟨p20, p21, p22, _⟩ := A7.cells
          obtain ⟨p30, p31, p32, _⟩ := A8.cells
          refine hK.out _ _ ?_ (fun hHeld => ?_)
          · (try dsimp only)
            exact ⟨p00, p01, p02, p10, p11, p12⟩
          clear hK K
          try simp only [Act.put, List.setIfInBounds_toArray, List.set_cons_zero, List.set_cons_succ]
          refine wpAnyH_done (by kernel_rfl) ?_ _
          clear hHeld
          go_wp2_with fail
          go_meet
          exact ⟨e7, e8, _, _, _, _, _, _, _, _, _, _, _, _, _, _, rfl, rfl, A7, A8, hP7, hP8, HPK.out _ hbW, hbW⟩
      · go_simp
        obtain ⟨u42, hU, B7, hb9⟩ : ∃ U, U = u41.alloc (.cells #[.bool false, .slice none 0 0, .slice none 0 0] 26) ∧ Box 26 U u41.heap.size (.bool false) (.slice none 0 0) (.slice none 0 0) ∧ Below u41.heap.size u41 U := ⟨_, rfl, Box.new _ _ _ _ _, al1 _⟩
        rw [← hU]
        clear hU
        have n71 := B1.lt
        have n72 := B2.lt
        replace hX := hX.below hb9
        replace hY := hY.below hb9
        replace hP := hP.below hb9
        replace hP7 := hP7.below hb9
        replace B1 := B1.below hb9
        replace B2 := B2.below hb9
        replace hbW : Below w.heap.size w u42 := hbW.trans (hb9.mono hbW.size)
        clear hb9
        generalize u41.heap.size = e7 at B7 n71 n72 ⊢
        clear p00 p01 p02 p10 p11 p12
        obtain ⟨p00, p01, p02, _⟩ := B1.cells
        obtain ⟨p10, p11, p12, _⟩ := B2.cells
        obtain ⟨p20, p21, p22, _⟩ := B7.cells
        refine hK.out _ _ ?_ (fun hHeld => ?_)
        · (try dsimp only)
          exact ⟨p00, p01, p02, p10, p11, p12⟩
        clear hK K
        try simp only [Act.put, List.setIfInBounds_toArray, List.set_cons_zero, List.set_cons_succ]
        refine wpAnyH_ready (rs := [5, 7]) (by kernel_rfl) (by simp) (hCons (i := 5) rfl (by rfl) (fun K hK => ?_) (hCons (i := 7) rfl (by rfl) (fun K hK => ?_) AllReadyH.nil))
        · go_simp
          refine (hbe 6 r _ _ hP hY (by decide) (by decide)).mono ?_
          rintro e u43 ⟨v8, rfl, hF8, hb43⟩
          replace hX := hX.below hb43
          replace hY := hY.below hb43
          replace hP := hP.below hb43
          replace hP7 := hP7.below hb43
          replace B1 := B1.below hb43
          replace B2 := B2.below hb43
          replace B7 := B7.below hb43
          replace hbW : Below w.heap.size w u43 := hbW.trans (hb43.mono hbW.size)
          clear hb43
          rw [HQA.out.2] at hF8
          have hP8 := hF8.ct
          obtain ⟨n8, x8, y8, ⟨a8, c8, b8, d8, rfl, _, _⟩, _⟩ := hF8
          clear p00 p01 p02 p10 p11 p12 p20 p21 p22
          obtain ⟨p00, p01, p02, _⟩ := B1.cells
          obtain ⟨p10, p11, p12, _⟩ := B2.cells
          obtain ⟨p20, p21, p22, _⟩ := B7.cells
          go_wp2_with fail
          refine hK.out _ _ ?_ (fun hHeld => ?_)
          · (try dsimp only)
            exact ⟨p00, p01, p02, p10, p11, p12⟩
          clear hK K
          try simp only [Act.put, List.setIfInBounds_toArray, List.set_cons_zero, List.set_cons_succ]
          refine hCall (i := 7) rfl (by kernel_rfl) (by rfl) (fun K hK => ?_)
          go_simp
          obtain ⟨u44, hU, B8, hb9⟩ : ∃ U, U = u43.alloc (.cells #[.bool false, .slice none 0 0, .slice none 0 0] 26) ∧ Box 26 U u43.heap.size (.bool false) (.slice none 0 0) (.slice none 0 0) ∧ Below u43.heap.size u43 U := ⟨_, rfl, Box.new _ _ _ _ _, al1 _⟩
          rw [← hU]
          clear hU
          have n81 := B1.lt
          have n82 := B2.lt
          have nn := B7.lt
          replace hX := hX.below hb9
          replace hY := hY.below hb9
          replace hP := hP.below hb9
          replace hP7 := hP7.below hb9
          replace hP8 := hP8.below hb9
          replace B1 := B1.below hb9
          replace B2 := B2.below hb9
          replace B7 := B7.below hb9
          replace hbW : Below w.heap.size w u44 := hbW.trans (hb9.mono hbW.size)
          clear hb9
          generalize u43.heap.size = e8 at B8 n81 n82 nn ⊢
          clear p00 p01 p02 p10 p11 p12 p20 p21 p22
          obtain ⟨p00, p01, p02, _⟩ := B1.cells
          obtain ⟨p10, p11, p12, _⟩ := B2.cells
          obtain ⟨p20, p21, p22, _⟩ := B7.cells
          obtain ⟨p30, p31, p32, _⟩ := B8.cells
          refine hK.out _ _ ?_ (fun hHeld => ?_)
          · (try dsimp only)
            exact ⟨p00, p01, p02, p10, p11, p12⟩
          clear hK K
          try simp only [Act.put, List.setIfInBounds_toArray, List.set_cons_zero, List.set_cons_succ]
          refine hCall (i := 8) rfl (by kernel_rfl) (by rfl) (fun K hK => ?_)
          go_simp
          obtain ⟨u45, hU, A7, hbU, hK9, ho⟩ := set3_world B7 (.bool n7) (.slice a7 x7.length c7) (.slice b7 y7.length d7)
          rw [← hU]
          clear hU
          replace hbW := hbU _ _ hbW (by omega)
          replace hP7 := hP7.keep hK9
          replace hP8 := hP8.keep hK9
          replace B1 := B1.other ho (by omega)
          replace B2 := B2.other ho (by omega)
          replace B8 := B8.other ho (by omega)
          clear hbU hK9 ho
          clear p00 p01 p02 p10 p11 p12 p20 p21 p22 p30 p31 p32
          obtain ⟨p00, p01, p02, _⟩ := B1.cells
          obtain ⟨p10, p11, p12, _⟩ := B2.cells
          obtain ⟨p20, p21, p22, _⟩ := B8.cells
          obtain ⟨p30, p31, p32, _⟩ := A7.cells
          refine hK.out _ _ ?_ (fun hHeld => ?_)
          · (try dsimp only)
            exact ⟨p00, p01, p02, p10, p11, p12⟩
          clear hK K
          try simp only [Act.put, List.setIfInBounds_toArray, List.set_cons_zero, List.set_cons_succ]
          refine hCall (i := 9) rfl (by kernel_rfl) (by rfl) (fun K hK => ?_)
          go_simp
          obtain ⟨u46, hU, A8, hbU, hK9, ho⟩ := set3_world B8 (.bool n8) (.slice a8 x8.length c8) (.slice b8 y8.length d8)
          rw [← hU]
          clear hU
          replace hbW := hbU _ _ hbW (by omega)
          replace hP7 := hP7.keep hK9
          replace hP8 := hP8.keep hK9
          replace B1 := B1.other ho (by omega)
          replace B2 := B2.other ho (by omega)
          replace A7 := A7.other ho (by omega)
          clear hbU hK9 ho
          clear p00 p01 p02 p10 p11 p12 p20 p21 p22 p30 p31 p32
          obtain ⟨p00, p01, p02, _⟩ := B1.cells
          obtain ⟨p10, p11, p12, _⟩ := B2.cells
          obtain ⟨p20, p21, p22, _⟩ := A7.cells
          obtain ⟨p30, p31, p32, _⟩ := A8.cells
          refine hK.out _ _ ?_ (fun hHeld => ?_)
          · (try dsimp only)
            exact ⟨p00, p01, p02, p10, p11, p12⟩
          clear hK K
          try simp only [Act.put, List.setIfInBounds_toArray, List.set_cons_zero, List.set_cons_succ]
          refine wpAnyH_done (by kernel_rfl) ?_ _
          clear hHeld
          go_wp2_with fail
          go_meet
          exact ⟨e7, e8, _, _, _, _, _, _, _, _, _, _, _, _, _, _, rfl, rfl, A7, A8, hP7, hP8, HPK.out _ hbW, hbW⟩
        · go_simp
          obtain ⟨u43, hU, B8, hb9⟩ : ∃ U, U = u42.alloc (.cells #[.bool false, .slice none 0 0, .slice none 0 0] 26) ∧ Box 26 U u42.heap.size (.bool false) (.slice none 0 0) (.slice none 0 0) ∧ Below u42.heap.size u42 U := ⟨_, rfl, Box.new _ _ _ _ _, al1 _⟩
          rw [← hU]
          clear hU
          have n81 := B1.lt
          have n82 := B2.lt
          have nn := B7.lt
          replace hX := hX.below hb9
          replace hY := hY.below hb9
          replace hP := hP.below hb9
          replace hP7 := hP7.below hb9
          replace B1 := B1.below hb9
          replace B2 := B2.below hb9
          replace B7 := B7.below hb9
          replace hbW : Below w.heap.size w u43 := hbW.trans (hb9.mono hbW.size)
          clear hb9
          generalize u42.heap.size = e8 at B8 n81 n82 nn ⊢
          clear p00 p01 p02 p10 p11 p12 p20 p21 p22
          obtain ⟨p00, p01, p02, _⟩ := B1.cells
          obtain ⟨p10, p11, p12, _⟩ := B2.cells
          obtain ⟨p20, p21, p22, _⟩ := B7.cells
          obtain ⟨p30, p31, p32, _⟩ := B8.cells
          refine hK.out _ _ ?_ (fun hHeld => ?_)
          · (try dsimp only)
            exact ⟨p00, p01, p02, p10, p11, p12⟩
          clear hK K
          try simp only [Act.put, List.setIfInBounds_toArray, List.set_cons_zero, List.set_cons_succ]
          refine hCall (i := 5) rfl (by kernel_rfl) (by rfl) (fun K hK => ?_)
          go_simp
          refine (hbe 6 r _ _ hP hY (by decide) (by decide)).mono ?_
          rintro e u44 ⟨v8, rfl, hF8, hb44⟩
          replace hX := hX.below hb44
          replace hY := hY.below hb44
          replace hP := hP.below hb44
          replace hP7 := hP7.below hb44
          replace B1 := B1.below hb44
          replace B2 := B2.below hb44
          replace B7 := B7.below hb44
          replace B8 := B8.below hb44
          replace hbW : Below w.heap.size w u44 := hbW.trans (hb44.mono hbW.size)
          clear hb44
          rw [HQA.out.2] at hF8
          have hP8 := hF8.ct
          obtain ⟨n8, x8, y8, ⟨a8, c8, b8, d8, rfl, _, _⟩, _⟩ := hF8
          clear p00 p01 p02 p10 p11 p12 p20 p21 p22 p30 p31 p32
          obtain ⟨p00, p01, p02, _⟩ := B1.cells
          obtain ⟨p10, p11, p12, _⟩ := B2.cells
          obtain ⟨p20, p21, p22, _⟩ := B7.cells
          obtain ⟨p30, p31, p32, _⟩ := B8.cells
          go_wp2_with fail
          refine hK.out _ _ ?_ (fun hHeld => ?_)
          · (try dsimp only)
            exact ⟨p00, p01, p02, p10, p11, p12⟩
          clear hK K
          try simp only [Act.put, List.setIfInBounds_toArray, List.set_cons_zero, List.set_cons_succ]
          refine hCall (i := 8) rfl (by kernel_rfl) (by rfl) (fun K hK => ?_)
          go_simp
          obtain ⟨u45, hU, A7, hbU, hK9, ho⟩ := set3_world B7 (.bool n7) (.slice a7 x7.length c7) (.slice b7 y7.length d7)
          rw [← hU]
          clear hU
          replace hbW := hbU _ _ hbW (by omega)
          replace hP7 := hP7.keep hK9
          replace hP8 := hP8.keep hK9
          replace B1 := B1.other ho (by omega)
          replace B2 := B2.other ho (by omega)
          replace B8 := B8.other ho (by omega)
          clear hbU hK9 ho
          clear p00 p01 p02 p10 p11 p12 p20 p21 p22 p30 p31 p32
          obtain ⟨p00, p01, p02, _⟩ := B1.cells
          obtain ⟨p10, p11, p12, _⟩ := B2.cells
          obtain ⟨p20, p21, p22, _⟩ := B8.cells
          obtain ⟨p30, p31, p32, _⟩ := A7.cells
          refine hK.out _ _ ?_ (fun hHeld => ?_)
          · (try dsimp only)
            exact ⟨p00, p01, p02, p10, p11, p12⟩
          clear hK K
          try simp only [Act.put, List.setIfInBounds_toArray, List.set_cons_zero, List.set_cons_succ]
          refine hCall (i := 9) rfl (by kernel_rfl) (by rfl) (fun K hK => ?_)
          go_simp
          obtain ⟨u46, hU, A8, hbU, hK9, ho⟩ := set3_world B8 (.bool n8) (.slice a8 x8.length c8) (.slice b8 y8.length d8)
          rw [← hU]
          clear hU
          replace hbW := hbU _ _ hbW (by omega)
          replace hP7 := hP7.keep hK9
          replace hP8 := hP8.keep hK9
          replace B1 := B1.other ho (by omega)
          replace B2 := B2.other ho (by omega)
          replace A7 := A7.other ho (by omega)
          clear hbU hK9 ho
          clear p00 p01 p02 p10 p11 p12 p20 p21 p22 p30 p31 p32
          obtain ⟨p00, p01, p02, _⟩ := B1.cells
          obtain ⟨p10, p11, p12, _⟩ := B2.cells
          obtain ⟨p20, p21, p22, _⟩ := A7.cells
          obtain ⟨p30, p31, p32, _⟩ := A8.cells
          refine hK.out _ _ ?_ (fun hHeld => ?_)
          · (try dsimp only)
            exact ⟨p00, p01, p02, p10, p11, p12⟩
          clear hK K
          try simp only [Act.put, List.setIfInBounds_toArray, List.set_cons_zero, List.set_cons_succ]
          refine wpAnyH_done (by kernel_rfl) ?_ _
          clear hHeld
          go_wp2_with fail
          go_meet
          exact ⟨e7, e8, _, _, _, _, _, _, _, _, _, _, _, _, _, _, rfl, rfl, A7, A8, hP7, hP8, HPK.out _ hbW, hbW⟩
      · go_simp
        obtain ⟨u42, hU, B8, hb9⟩ : ∃ U, U = u41.alloc (.cells #[.bool false, .slice none 0 0, .slice none 0 0] 26) ∧ Box 26 U u41.heap.size (.bool false) (.slice none 0 0) (.slice none 0 0) ∧ Below u41.heap.size u41 U := ⟨_, rfl, Box.new _ _ _ _ _, al1 _⟩
        rw [← hU]
        clear hU
        have n81 := B1.lt
        have n82 := B2.lt
        replace hX := hX.below hb9
        replace hY := hY.below hb9
        replace hP := hP.below hb9
        replace hP7 := hP7.below hb9
        replace B1 := B1.below hb9
        replace B2 := B2.below hb9
        replace hbW : Below w.heap.size w u42 := hbW.trans (hb9.mono hbW.size)
        clear hb9
        generalize u41.heap.size = e8 at B8 n81 n82 ⊢
        clear p00 p01 p02 p10 p11 p12
        obtain ⟨p00, p01, p02, _⟩ := B1.cells
        obtain ⟨p10, p11, p12, _⟩ := B2.cells
        obtain ⟨p20, p21, p22, _⟩ := B8.cells
        refine hK.out _ _ ?_ (fun hHeld => ?_)
        · (try dsimp only)
          exact ⟨p00, p01, p02, p10, p11, p12⟩
        clear hK K
        try simp only [Act.put, List.setIfInBounds_toArray, List.set_cons_zero, List.set_cons_succ]
        refine wpAnyH_ready (rs := [5, 6]) (by kernel_rfl) (by simp) (hCons (i := 5) rfl (by rfl) (fun K hK => ?_) (hCons (i := 6) rfl (by rfl) (fun K hK => ?_) AllReadyH.nil))
        · go_simp
          refine (hbe 6 r _ _ hP hY (by decide) (by decide)).mono ?_
          rintro e u43 ⟨v8, rfl, hF8, hb43⟩
          replace hX := hX.below hb43
          replace hY := hY.below hb43
          replace hP := hP.below hb43
          replace hP7 := hP7.below hb43
          replace B1 := B1.below hb43
          replace B2 := B2.below hb43
          replace B8 := B8.below hb43
          replace hbW : Below w.heap.size w u43 := hbW.trans (hb43.mono hbW.size)
          clear hb43
          rw [HQA.out.2] at hF8
          have hP8 := hF8.ct
          obtain ⟨n8, x8, y8, ⟨a8, c8, b8, d8, rfl, _, _⟩, _⟩ := hF8
          clear p00 p01 p02 p10 p11 p12 p20 p21 p22
          obtain ⟨p00, p01, p02, _⟩ := B1.cells
          obtain ⟨p10, p11, p12, _⟩ := B2.cells
          obtain ⟨p20, p21, p22, _⟩ := B8.cells
          go_wp2_with fail
          refine hK.out _ _ ?_ (fun hHeld => ?_)
          · (try dsimp only)
            exact ⟨p00, p01, p02, p10, p11, p12⟩
          clear hK K
          try simp only [Act.put, List.setIfInBounds_toArray, List.set_cons_zero, List.set_cons_succ]
          refine hCall (i := 6) rfl (by kernel_rfl) (by rfl) (fun K hK => ?_)
          go_simp
          obtain ⟨u44, hU, B7, hb9⟩ : ∃ U, U = u43.alloc (.cells #[.bool false, .slice none 0 0, .slice none 0 0] 26) ∧ Box 26 U u43.heap.size (.bool false) (.slice none 0 0) (.slice none 0 0) ∧ Below u43.heap.size u43 U := ⟨_, rfl, Box.new _ _ _ _ _, al1 _⟩
          rw [← hU]
          clear hU
          have n71 := B1.lt
          have n72 := B2.lt
          have nn := B8.lt
          replace hX := hX.below hb9
          replace hY := hY.below hb9
          replace hP := hP.below hb9
          replace hP7 := hP7.below hb9
          replace hP8 := hP8.below hb9
          replace B1 := B1.below hb9
          replace B2 := B2.below hb9
          replace B8 := B8.below hb9
          replace hbW : Below w.heap.size w u44 := hbW.trans (hb9.mono hbW.size)
          clear hb9
          generalize u43.heap.size = e7 at B7 n71 n72 nn ⊢
          clear p00 p01 p02 p10 p11 p12 p20 p21 p22
          obtain ⟨p00, p01, p02, _⟩ := B1.cells
          obtain ⟨p10, p11, p12, _⟩ := B2.cells
          obtain ⟨p20, p21, p22, _⟩ := B8.cells
          obtain ⟨p30, p31, p32, _⟩ := B7.cells
          refine hK.out _ _ ?_ (fun hHeld => ?_)
          · (try dsimp only)
            exact ⟨p00, p01, p02, p10, p11, p12⟩
          clear hK K
          try simp only [Act.put, List.setIfInBounds_toArray, List.set_cons_zero, List.set_cons_succ]
          refine hCall (i := 8) rfl (by kernel_rfl) (by rfl) (fun K hK => ?_)
          go_simp
          obtain ⟨u45, hU, A7, hbU, hK9, ho⟩ := set3_world B7 (.bool n7) (.slice a7 x7.length c7) (.slice b7 y7.length d7)
          rw [← hU]
          clear hU
          replace hbW := hbU _ _ hbW (by omega)
          replace hP7 := hP7.keep hK9
          replace hP8 := hP8.keep hK9
          replace B1 := B1.other ho (by omega)
          replace B2 := B2.other ho (by omega)
          replace B8 := B8.other ho (by omega)
          clear hbU hK9 ho
          clear p00 p01 p02 p10 p11 p12 p20 p21 p22 p30 p31 p32
          obtain ⟨p00, p01, p02, _⟩ := B1.cells
          obtain ⟨p10, p11, p12, _⟩ := B2.cells
          obtain ⟨p20, p21, p22, _⟩ := B8.cells
          obtain ⟨p30, p31, p32, _⟩ := A7.cells
          refine hK.out _ _ ?_ (fun hHeld => ?_)
          · (try dsimp only)
            exact ⟨p00, p01, p02, p10, p11, p12⟩
          clear hK K
          try simp only [Act.put, List.setIfInBounds_toArray, List.set_cons_zero, List.set_cons_succ]
          refine hCall (i := 9) rfl (by kernel_rfl) (by rfl) (fun K hK => ?_)
          go_simp
          obtain ⟨u46, hU, A8, hbU, hK9, ho⟩ := set3_world B8 (.bool n8) (.slice a8 x8.length c8) (.slice b8 y8.length d8)
          rw [← hU]
          clear hU
          replace hbW := hbU _ _ hbW (by omega)
          replace hP7 := hP7.keep hK9
          replace hP8 := hP8.keep hK9
          replace B1 := B1.other ho (by omega)
          replace B2 := B2.other ho (by omega)
          replace A7 := A7.other ho (by omega)
          clear hbU hK9 ho
          clear p00 p01 p02 p10 p11 p12 p20 p21 p22 p30 p31 p32
          obtain ⟨p00, p01, p02, _⟩ := B1.cells
          obtain ⟨p10, p11, p12, _⟩ := B2.cells
          obtain ⟨p20, p21, p22, _⟩ := A7.cells
          obtain ⟨p30, p31, p32, _⟩ := A8.cells
          refine hK.out _ _ ?_ (fun hHeld => ?_)
          · (try dsimp only)
            exact ⟨p00, p01, p02, p10, p11, p12⟩
          clear hK K
          try simp only [Act.put, List.setIfInBounds_toArray, List.set_cons_zero, List.set_cons_succ]
          refine wpAnyH_done (by kernel_rfl) ?_ _
          clear hHeld
          go_wp2_with fail
          go_meet
          exact ⟨e7, e8, _, _, _, _, _, _, _, _, _, _, _, _, _, _, rfl, rfl, A7, A8, hP7, hP8, HPK.out _ hbW, hbW⟩
        · go_simp
          obtain ⟨u43, hU, B7, hb9⟩ : ∃ U, U = u42.alloc (.cells #[.bool false, .slice none 0 0, .slice none 0 0] 26) ∧ Box 26 U u42.heap.size (.bool false) (.slice none 0 0) (.slice none 0 0) ∧ Below u42.heap.size u42 U := ⟨_, rfl, Box.new _ _ _ _ _, al1 _⟩
          rw [← hU]
          clear hU
          have n71 := B1.lt
          have n72 := B2.lt
          have nn := B8.lt
          replace hX := hX.below hb9
          replace hY := hY.below hb9
          replace hP := hP.below hb9
          replace hP7 := hP7.below hb9
          replace B1 := B1.below hb9
          replace B2 := B2.below hb9
          replace B8 := B8.below hb9
          replace hbW : Below w.heap.size w u43 := hbW.trans (hb9.mono hbW.size)
          clear hb9
          generalize u42.heap.size = e7 at B7 n71 n72 nn ⊢
          clear p00 p01 p02 p10 p11 p12 p20 p21 p22
          obtain ⟨p00, p01, p02, _⟩ := B1.cells
          obtain ⟨p10, p11, p12, _⟩ := B2.cells
          obtain ⟨p20, p21, p22, _⟩ := B8.cells
          obtain ⟨p30, p31, p32, _⟩ := B7.cells
          refine hK.out _ _ ?_ (fun hHeld => ?_)
          · (try dsimp only)
            exact ⟨p00, p01, p02, p10, p11, p12⟩
          clear hK K
          try simp only [Act.put, List.setIfInBounds_toArray, List.set_cons_zero, List.set_cons_succ]
          refine hCall (i := 5) rfl (by kernel_rfl) (by rfl) (fun K hK => ?_)
          go_simp
          refine (hbe 6 r _ _ hP hY (by decide) (by decide)).mono ?_
          rintro e u44 ⟨v8, rfl, hF8, hb44⟩
          replace hX := hX.below hb44
          replace hY := hY.below hb44
          replace hP := hP.below hb44
          replace hP7 := hP7.below hb44
          replace B1 := B1.below hb44
          replace B2 := B2.below hb44
          replace B8 := B8.below hb44
          replace B7 := B7.below hb44
          replace hbW : Below w.heap.size w u44 := hbW.trans (hb44.mono hbW.size)
          clear hb44
          rw [HQA.out.2] at hF8
          have hP8 := hF8.ct
          obtain ⟨n8, x8, y8, ⟨a8, c8, b8, d8, rfl, _, _⟩, _⟩ := hF8
          clear p00 p01 p02 p10 p11 p12 p20 p21 p22 p30 p31 p32
          obtain ⟨p00, p01, p02, _⟩ := B1.cells
          obtain ⟨p10, p11, p12, _⟩ := B2.cells
          obtain ⟨p20, p21, p22, _⟩ := B8.cells
          obtain ⟨p30, p31, p32, _⟩ := B7.cells
          go_wp2_with fail
          refine hK.out _ _ ?_ (fun hHeld => ?_)
          · (try dsimp only)
            exact ⟨p00, p01, p02, p10, p11, p12⟩
          clear hK K
          try simp only [Act.put, List.setIfInBounds_toArray, List.set_cons_zero, List.set_cons_succ]
          refine hCall (i := 8) rfl (by kernel_rfl) (by rfl) (fun K hK => ?_)
          go_simp
          obtain ⟨u45, hU, A7, hbU, hK9, ho⟩ := set3_world B7 (.bool n7) (.slice a7 x7.length c7) (.slice b7 y7.length d7)
          rw [← hU]
          clear hU
          replace hbW := hbU _ _ hbW (by omega)
          replace hP7 := hP7.keep hK9
          replace hP8 := hP8.keep hK9
          replace B1 := B1.other ho (by omega)
          replace B2 := B2.other ho (by omega)
          replace B8 := B8.other ho (by omega)
          clear hbU hK9 ho
          clear p00 p01 p02 p10 p11 p12 p20 p21 p22 p30 p31 p32
          obtain ⟨p00, p01, p02, _⟩ := B1.cells
          obtain ⟨p10, p11, p12, _⟩ := B2.cells
          obtain ⟨p20, p21, p22, _⟩ := B8.cells
          obtain ⟨p30, p31, p32, _⟩ := A7.cells
          refine hK.out _ _ ?_ (fun hHeld => ?_)
          · (try dsimp only)
            exact ⟨p00, p01, p02, p10, p11, p12⟩
          clear hK K
          try simp only [Act.put, List.setIfInBounds_toArray, List.set_cons_zero, List.set_cons_succ]
          refine hCall (i := 9) rfl (by kernel_rfl) (by rfl) (fun K hK => ?_)
          go_simp
          obtain ⟨u46, hU, A8, hbU, hK9, ho⟩ := set3_world B8 (.bool n8) (.slice a8 x8.length c8) (.slice b8 y8.length d8)
          rw [← hU]
          clear hU
          replace hbW := hbU _ _ hbW (by omega)
          replace hP7 := hP7.keep hK9
          replace hP8 := hP8.keep hK9
          replace B1 := B1.other ho (by omega)
          replace B2 := B2.other ho (by omega)
          replace A7 := A7.other ho (by omega)
          clear hbU hK9 ho
          clear p00 p01 p02 p10 p11 p12 p20 p21 p22 p30 p31 p32
          obtain ⟨p00, p01, p02, _⟩ := B1.cells
          obtain ⟨p10, p11, p12, _⟩ := B2.cells
          obtain ⟨p20, p21, p22, _⟩ := A7.cells
          obtain ⟨p30, p31, p32, _⟩ := A8.cells
          refine hK.out _ _ ?_ (fun hHeld => ?_)
          · (try dsimp only)
            exact ⟨p00, p01, p02, p10, p11, p12⟩
          clear hK K
          try simp only [Act.put, List.setIfInBounds_toArray, List.set_cons_zero, List.set_cons_succ]
          refine wpAnyH_done (by kernel_rfl) ?_ _
          clear hHeld
          go_wp2_with fail
          go_meet
          exact ⟨e7, e8, _, _, _, _, _, _, _, _, _, _, _, _, _, _, rfl, rfl, A7, A8, hP7, hP8, HPK.out _ hbW, hbW⟩
    · go_simp
      obtain ⟨u41, hU, B7, hb9⟩ : ∃ U, U = ud1.alloc (.cells #[.bool false, .slice none 0 0, .slice none 0 0] 26) ∧ Box 26 U ud1.heap.size (.bool false) (.slice none 0 0) (.slice none 0 0) ∧ Below ud1.heap.size ud1 U := ⟨_, rfl, Box.new _ _ _ _ _, al1 _⟩
      rw [← hU]
      clear hU
      have n71 := B1.lt
      have n72 := B2.lt
      replace hX := hX.below hb9
      replace hY := hY.below hb9
      replace hP := hP.below hb9
      replace B1 := B1.below hb9
      replace B2 := B2.below hb9
      replace hbW : Below w.heap.size w u41 := hbW.trans (hb9.mono hbW.size)
      clear hb9
      generalize ud1.heap.size = e7 at B7 n71 n72 ⊢
      clear p00 p01 p02 p10 p11 p12
      obtain ⟨p00, p01, p02, _⟩ := B1.cells
      obtain ⟨p10, p11, p12, _⟩ := B2.cells
      obtain ⟨p20, p21, p22, _⟩ := B7.cells
      refine hK.out _ _ ?_ (fun hHeld => ?_)
      · (try dsimp only)
        exact ⟨p00, p01, p02, p10, p11, p12⟩
      clear hK K
      try simp only [Act.put, List.setIfInBounds_toArray, List.set_cons_zero, List.set_cons_succ]
      refine wpAnyH_ready (rs := [2, 7]) (by kernel_rfl) (by simp) (hCons (i := 2) rfl (by rfl) (fun K hK => ?_) (hCons (i := 7) rfl (by rfl) (fun K hK => ?_) AllReadyH.nil))
      · go_simp
        refine (hbe 6 p _ _ hP hX (by decide) (by decide)).mono ?_
        rintro e u42 ⟨v7, rfl, hF7, hb42⟩
        replace hX := hX.below hb42
        replace hY := hY.below hb42
        replace hP := hP.below hb42
        replace B1 := B1.below hb42
        replace B2 := B2.below hb42
        replace B7 := B7.below hb42
        replace hbW : Below w.heap.size w u42 := hbW.trans (hb42.mono hbW.size)
        clear hb42
        rw [HQA.out.1] at hF7
        have hP7 := hF7.ct
        obtain ⟨n7, x7, y7, ⟨a7, c7, b7, d7, rfl, _, _⟩, _⟩ := hF7
        clear p00 p01 p02 p10 p11 p12 p20 p21 p22
        obtain ⟨p00, p01, p02, _⟩ := B1.cells
        obtain ⟨p10, p11, p12, _⟩ := B2.cells
        obtain ⟨p20, p21, p22, _⟩ := B7.cells
        go_wp2_with fail
        refine hK.out _ _ ?_ (fun hHeld => ?_)
        · (try dsimp only)
          exact ⟨p00, p01, p02, p10, p11, p12⟩
        clear hK K
        try simp only [Act.put, List.setIfInBounds_toArray, List.set_cons_zero, List.set_cons_succ]
        refine wpAnyH_ready (rs := [5, 7]) (by kernel_rfl) (by simp) (hCons (i := 5) rfl (by rfl) (fun K hK => ?_) (hCons (i := 7) rfl (by rfl) (fun K hK => ?_) AllReadyH.nil))
        · go_simp
          refine (hbe 6 r _ _ hP hY (by decide) (by decide)).mono ?_
          rintro e u43 ⟨v8, rfl, hF8, hb43⟩
          replace hX := hX.below hb43
          replace hY := hY.below hb43
          replace hP := hP.below hb43
          replace hP7 := hP7.below hb43
          replace B1 := B1.below hb43
          replace B2 := B2.below hb43
          replace B7 := B7.below hb43
          replace hbW : Below w.heap.size w u43 := hbW.trans (hb43.mono hbW.size)
          clear hb43
          rw [HQA.out.2] at hF8
          have hP8 := hF8.ct
          obtain ⟨n8, x8, y8, ⟨a8, c8, b8, d8, rfl, _, _⟩, _⟩ := hF8
          clear p00 p01 p02 p10 p11 p12 p20 p21 p22
          obtain ⟨p00, p01, p02, _⟩ := B1.cells
          obtain ⟨p10, p11, p12, _⟩ := B2.cells
          obtain ⟨p20, p21, p22, _⟩ := B7.cells
          go_wp2_with fail
          refine hK.out _ _ ?_ (fun hHeld => ?_)
          · (try dsimp only)
            exact ⟨p00, p01, p02, p10, p11, p12⟩
          clear hK K
          try simp only [Act.put, List.setIfInBounds_toArray, List.set_cons_zero, List.set_cons_succ]
          refine hCall (i := 7) rfl (by kernel_rfl) (by rfl) (fun K hK => ?_)
          go_simp
          obtain ⟨u44, hU, B8, hb9⟩ : ∃ U, U = u43.alloc (.cells #[.bool false, .slice none 0 0, .slice none 0 0] 26) ∧ Box 26 U u43.heap.size (.bool false) (.slice none 0 0) (.slice none 0 0) ∧ Below u43.heap.size u43 U := ⟨_, rfl, Box.new _ _ _ _ _, al1 _⟩
          rw [← hU]
          clear hU
          have n81 := B1.lt
          have n82 := B2.lt
          have nn := B7.lt
          replace hX := hX.below hb9
          replace hY := hY.below hb9
          replace hP := hP.below hb9
          replace hP7 := hP7.below hb9
          replace hP8 := hP8.below hb9
          replace B1 := B1.below hb9
          replace B2 := B2.below hb9
          replace B7 := B7.below hb9
          replace hbW : Below w.heap.size w u44 := hbW.trans (hb9.mono hbW.size)
          clear hb9
          generalize u43.heap.size = e8 at B8 n81 n82 nn ⊢
          clear p00 p01 p02 p10 p11 p12 p20 p21 p22
          obtain ⟨p00, p01, p02, _⟩ := B1.cells
          obtain ⟨p10, p11, p12, _⟩ := B2.cells
          obtain ⟨p20, p21, p22, _⟩ := B7.cells
          obtain ⟨p30, p31, p32, _⟩ := B8.cells
          refine hK.out _ _ ?_ (fun hHeld => ?_)
          · (try dsimp only)
            exact ⟨p00, p01, p02, p10, p11, p12⟩
          clear hK K
          try simp only [Act.put, List.setIfInBounds_toArray, List.set_cons_zero, List.set_cons_succ]
          refine hCall (i := 8) rfl (by kernel_rfl) (by rfl) (fun K hK => ?_)
          go_simp
          obtain ⟨u45, hU, A7, hbU, hK9, ho⟩ := set3_world B7 (.bool n7) (.slice a7 x7.length c7) (.slice b7 y7.length d7)
          rw [← hU]
          clear hU
          replace hbW := hbU _ _ hbW (by omega)
          replace hP7 := hP7.keep hK9
          replace hP8 := hP8.keep hK9
          replace B1 := B1.other ho (by omega)
          replace B2 := B2.other ho (by omega)
          replace B8 := B8.other ho (by omega)
          clear hbU hK9 ho
          clear p00 p01 p02 p10 p11 p12 p20 p21 p22 p30 p31 p32
          obtain ⟨p00, p01, p02, _⟩ := B1.cells
          obtain ⟨p10, p11, p12, _⟩ := B2.cells
          obtain ⟨p20, p21, p22, _⟩ := B8.cells
          obtain ⟨p30, p31, p32, _⟩ := A7.cells
          refine hK.out _ _ ?_ (fun hHeld => ?_)
          · (try dsimp only)
            exact ⟨p00, p01, p02, p10, p11, p12⟩
          clear hK K
          try simp only [Act.put, List.setIfInBounds_toArray, List.set_cons_zero, List.set_cons_succ]
          refine hCall (i := 9) rfl (by kernel_rfl) (by rfl) (fun K hK => ?_)
          go_simp
          obtain ⟨u46, hU, A8, hbU, hK9, ho⟩ := set3_world B8 (.bool n8) (.slice a8 x8.length c8) (.slice b8 y8.length d8)
          rw [← hU]
          clear hU
          replace hbW := hbU _ _ hbW (by omega)
          replace hP7 := hP7.keep hK9
          replace hP8 := hP8.keep hK9
          replace B1 := B1.other ho (by omega)
          replace B2 := B2.other ho (by omega)
          replace A7 := A7.other ho (by omega)
          clear hbU hK9 ho
          clear p00 p01 p02 p10 p11 p12 p20 p21 p22 p30 p31 p32
          obtain ⟨p00, p01, p02, _⟩ := B1.cells
          obtain ⟨p10, p11, p12, _⟩ := B2.cells
          obtain ⟨p20, p21, p22, _⟩ := A7.cells
          obtain ⟨p30, p31, p32, _⟩ := A8.cells
          refine hK.out _ _ ?_ (fun hHeld => ?_)
          · (try dsimp only)
            exact ⟨p00, p01, p02, p10, p11, p12⟩
          clear hK K
          try simp only [Act.put, List.setIfInBounds_toArray, List.set_cons_zero, List.set_cons_succ]
          refine wpAnyH_done (by kernel_rfl) ?_ _
          clear hHeld
          go_wp2_with fail
          go_meet
          exact ⟨e7, e8, _, _, _, _, _, _, _, _, _, _, _, _, _, _, rfl, rfl, A7, A8, hP7, hP8, HPK.out _ hbW, hbW⟩
        · go_simp
          obtain ⟨u43, hU, B8, hb9⟩ : ∃ U, U = u42.alloc (.cells #[.bool false, .slice none 0 0, .slice none 0 0] 26) ∧ Box 26 U u42.heap.size (.bool false) (.slice none 0 0) (.slice none 0 0) ∧ Below u42.heap.size u42 U := ⟨_, rfl, Box.new _ _ _ _ _, al1 _⟩
          rw [← hU]
          clear hU
          have n81 := B1.lt
          have n82 := B2.lt
          have nn := B7.lt
          replace hX := hX.below hb9
          replace hY := hY.below hb9
          replace hP := hP.below hb9
          replace hP7 := hP7.below hb9
          replace B1 := B1.below hb9
          replace B2 := B2.below hb9
          replace B7 := B7.below hb9
          replace hbW : Below w.heap.size w u43 := hbW.trans (hb9.mono hbW.size)
          clear hb9
          generalize u42.heap.size = e8 at B8 n81 n82 nn ⊢
          clear p00 p01 p02 p10 p11 p12 p20 p21 p22
          obtain ⟨p00, p01, p02, _⟩ := B1.cells
          obtain ⟨p10, p11, p12, _⟩ := B2.cells
          obtain ⟨p20, p21, p22, _⟩ := B7.cells
          obtain ⟨p30, p31, p32, _⟩ := B8.cells
          refine hK.out _ _ ?_ (fun hHeld => ?_)
          · (try dsimp only)
            exact ⟨p00, p01, p02, p10, p11, p12⟩
          clear hK K
          try simp only [Act.put, List.setIfInBounds_toArray, List.set_cons_zero, List.set_cons_succ]
          refine hCall (i := 5) rfl (by kernel_rfl) (by rfl) (fun K hK => ?_)
          go_simp
          refine (hbe 6 r _ _ hP hY (by decide) (by decide)).mono ?_
          rintro e u44 ⟨v8, rfl, hF8, hb44⟩
          replace hX := hX.below hb44
          replace hY := hY.below hb44
          replace hP := hP.below hb44
          replace hP7 := hP7.below hb44
          replace B1 := B1.below hb44
          replace B2 := B2.below hb44
          replace B7 := B7.below hb44
          replace B8 := B8.below hb44
          replace hbW : Below w.heap.size w u44 := hbW.trans (hb44.mono hbW.size)
          clear hb44
          rw [HQA.out.2] at hF8
          have hP8 := hF8.ct
          obtain ⟨n8, x8, y8, ⟨a8, c8, b8, d8, rfl, _, _⟩, _⟩ := hF8
          clear p00 p01 p02 p10 p11 p12 p20 p21 p22 p30 p31 p32
          obtain ⟨p00, p01, p02, _⟩ := B1.cells
          obtain ⟨p10, p11, p12, _⟩ := B2.cells
          obtain ⟨p20, p21, p22, _⟩ := B7.cells
          obtain ⟨p30, p31, p32, _⟩ := B8.cells
          go_wp2_with fail
          refine hK.out _ _ ?_ (fun hHeld => ?_)
          · (try dsimp only)
            exact ⟨p00, p01, p02, p10, p11, p12⟩
          clear hK K
          try simp only [Act.put, List.setIfInBounds_toArray, List.set_cons_zero, List.set_cons_succ]
          refine hCall (i := 8) rfl (by kernel_rfl) (by rfl) (fun K hK => ?_)
          go_simp
          obtain ⟨u45, hU, A7, hbU, hK9, ho⟩ := set3_world B7 (.bool n7) (.slice a7 x7.length c7) (.slice b7 y7.length d7)
          rw [← hU]
          clear hU
          replace hbW := hbU _ _ hbW (by omega)
          replace hP7 := hP7.keep hK9
          replace hP8 := hP8.keep hK9
          replace B1 := B1.other ho (by omega)
          replace B2 := B2.other ho (by omega)
          replace B8 := B8.other ho (by omega)
          clear hbU hK9 ho
          clear p00 p01 p02 p10 p11 p12 p20 p21 p22 p30 p31 p32
          obtain ⟨p00, p01, p02, _⟩ := B1.cells
          obtain ⟨p10, p11, p12, _⟩ := B2.cells
          obtain ⟨p20, p21, p22, _⟩ := B8.cells
          obtain ⟨p30, p31, p32, _⟩ := A7.cells
          refine hK.out _ _ ?_ (fun hHeld => ?_)
          · (try dsimp only)
            exact ⟨p00, p01, p02, p10, p11, p12⟩
          clear hK K
          try simp only [Act.put, List.setIfInBounds_toArray, List.set_cons_zero, List.set_cons_succ]
          refine hCall (i := 9) rfl (by kernel_rfl) (by rfl) (fun K hK => ?_)
          go_simp
          obtain ⟨u46, hU, A8, hbU, hK9, ho⟩ := set3_world B8 (.bool n8) (.slice a8 x8.length c8) (.slice b8 y8.length d8)
          rw [← hU]
          clear hU
          replace hbW := hbU _ _ hbW (by omega)
          replace hP7 := hP7.keep hK9
          replace hP8 := hP8.keep hK9
          replace B1 := B1.other ho (by omega)
          replace B2 := B2.other ho (by omega)
          replace A7 := A7.other ho (by omega)
          clear hbU hK9 ho
          clear p00 p01 p02 p10 p11 p12 p20 p21 p22 p30 p31 p32
          obtain ⟨p00, p01, p02, _⟩ := B1.cells
          obtain ⟨p10, p11, p12, _⟩ := B2.cells
          obtain ⟨p20, p21, p22, _⟩ := A7.cells
          obtain ⟨p30, p31, p32, _⟩ := A8.cells
          refine hK.out _ _ ?_ (fun hHeld => ?_)
          · (try dsimp only)
            exact ⟨p00, p01, p02, p10, p11, p12⟩
          clear hK K
          try simp only [Act.put, List.setIfInBounds_toArray, List.set_cons_zero, List.set_cons_succ]
          refine wpAnyH_done (by kernel_rfl) ?_ _
          clear hHeld
          go_wp2_with fail
          go_meet
          exact ⟨e7, e8, _, _, _, _, _, _, _, _, _, _, _, _, _, _, rfl, rfl, A7, A8, hP7, hP8, HPK.out _ hbW, hbW⟩
      · go_simp
        obtain ⟨u42, hU, B8, hb9⟩ : ∃ U, U = u41.alloc (.cells #[.bool false, .slice none 0 0, .slice none 0 0] 26) ∧ Box 26 U u41.heap.size (.bool false) (.slice none 0 0) (.slice none 0 0) ∧ Below u41.heap.size u41 U := ⟨_, rfl, Box.new _ _ _ _ _, al1 _⟩
        rw [← hU]
        clear hU
        have n81 := B1.lt
        have n82 := B2.lt
        have nn := B7.lt
        replace hX := hX.below hb9
        replace hY := hY.below hb9
        replace hP := hP.below hb9
        replace B1 := B1.below hb9
        replace B2 := B2.below hb9
        replace B7 := B7.below hb9
        replace hbW : Below w.heap.size w u42 := hbW.trans (hb9.mono hbW.size)
        clear hb9
        generalize u41.heap.size = e8 at B8 n81 n82 nn ⊢
        clear p00 p01 p02 p10 p11 p12 p20 p21 p22
        obtain ⟨p00, p01, p02, _⟩ := B1.cells
        obtain ⟨p10, p11, p12, _⟩ := B2.cells
        obtain ⟨p20, p21, p22, _⟩ := B7.cells
        obtain ⟨p30, p31, p32, _⟩ := B8.cells
        refine hK.out _ _ ?_ (fun hHeld => ?_)
        · (try dsimp only)
          exact ⟨p00, p01, p02, p10, p11, p12⟩
        clear hK K
        try simp only [Act.put, List.setIfInBounds_toArray, List.set_cons_zero, List.set_cons_succ]
        refine hCall (i := 2) rfl (by kernel_rfl) (by rfl) (fun K hK => ?_)
        go_simp
        refine (hbe 6 p _ _ hP hX (by decide) (by decide)).mono ?_
        rintro e u43 ⟨v7, rfl, hF7, hb43⟩
        replace hX := hX.below hb43
        replace hY := hY.below hb43
        replace hP := hP.below hb43
        replace B1 := B1.below hb43
        replace B2 := B2.below hb43
        replace B7 := B7.below hb43
        replace B8 := B8.below hb43
        replace hbW : Below w.heap.size w u43 := hbW.trans (hb43.mono hbW.size)
        clear hb43
        rw [HQA.out.1] at hF7
        have hP7 := hF7.ct
        obtain ⟨n7, x7, y7, ⟨a7, c7, b7, d7, rfl, _, _⟩, _⟩ := hF7
        clear p00 p01 p02 p10 p11 p12 p20 p21 p22 p30 p31 p32
        obtain ⟨p00, p01, p02, _⟩ := B1.cells
        obtain ⟨p10, p11, p12, _⟩ := B2.cells
        obtain ⟨p20, p21, p22, _⟩ := B7.cells
        obtain ⟨p30, p31, p32, _⟩ := B8.cells
        go_wp2_with fail
        refine hK.out _ _ ?_ (fun hHeld => ?_)
        · (try dsimp only)
          exact ⟨p00, p01, p02, p10, p11, p12⟩
        clear hK K
        try simp only [Act.put, List.setIfInBounds_toArray, List.set_cons_zero, List.set_cons_succ]
        refine hCall (i := 5) rfl (by kernel_rfl) (by rfl) (fun K hK => ?_)
        go_simp
        refine (hbe 6 r _ _ hP hY (by decide) (by decide)).mono ?_
        rintro e u44 ⟨v8, rfl, hF8, hb44⟩
        replace hX := hX.below hb44
        replace hY := hY.below hb44
        replace hP := hP.below hb44
        replace hP7 := hP7.below hb44
        replace B1 := B1.below hb44
        replace B2 := B2.below hb44
        replace B7 := B7.below hb44
        replace B8 := B8.below hb44
        replace hbW : Below w.heap.size w u44 := hbW.trans (hb44.mono hbW.size)
        clear hb44
        rw [HQA.out.2] at hF8
        have hP8 := hF8.ct
        obtain ⟨n8, x8, y8, ⟨a8, c8, b8, d8, rfl, _, _⟩, _⟩ := hF8
        clear p00 p01 p02 p10 p11 p12 p20 p21 p22 p30 p31 p32
        obtain ⟨p00, p01, p02, _⟩ := B1.cells
        obtain ⟨p10, p11, p12, _⟩ := B2.cells
        obtain ⟨p20, p21, p22, _⟩ := B7.cells
        obtain ⟨p30, p31, p32, _⟩ := B8.cells
        go_wp2_with fail
        refine hK.out _ _ ?_ (fun hHeld => ?_)
        · (try dsimp only)
          exact ⟨p00, p01, p02, p10, p11, p12⟩
        clear hK K
        try simp only [Act.put, List.setIfInBounds_toArray, List.set_cons_zero, List.set_cons_succ]
        refine hCall (i := 8) rfl (by kernel_rfl) (by rfl) (fun K hK => ?_)
        go_simp
        obtain ⟨u45, hU, A7, hbU, hK9, ho⟩ := set3_world B7 (.bool n7) (.slice a7 x7.length c7) (.slice b7 y7.length d7)
        rw [← hU]
        clear hU
        replace hbW := hbU _ _ hbW (by omega)
        replace hP7 := hP7.keep hK9
        replace hP8 := hP8.keep hK9
        replace B1 := B1.other ho (by omega)
        replace B2 := B2.other ho (by omega)
        replace B8 := B8.other ho (by omega)
        clear hbU hK9 ho
        clear p00 p01 p02 p10 p11 p12 p20 p21 p22 p30 p31 p32
        obtain ⟨p00, p01, p02, _⟩ := B1.cells
        obtain ⟨p10, p11, p12, _⟩ := B2.cells
        obtain ⟨p20, p21, p22, _⟩ := B8.cells
        obtain ⟨p30, p31, p32, _⟩ := A7.cells
        refine hK.out _ _ ?_ (fun hHeld => ?_)
        · (try dsimp only)
          exact ⟨p00, p01, p02, p10, p11, p12⟩
        clear hK K
        try simp only [Act.put, List.setIfInBounds_toArray, List.set_cons_zero, List.set_cons_succ]
        refine hCall (i := 9) rfl (by kernel_rfl) (by rfl) (fun K hK => ?_)
        go_simp
        obtain ⟨u46, hU, A8, hbU, hK9, ho⟩ := set3_world B8 (.bool n8) (.slice a8 x8.length c8) (.slice b8 y8.length d8)
        rw [← hU]
        clear hU
        replace hbW := hbU _ _ hbW (by omega)
        replace hP7 := hP7.keep hK9
        replace hP8 := hP8.keep hK9
        replace B1 := B1.other ho (by omega)
        replace B2 := B2.other ho (by omega)
        replace A7 := A7.other ho (by omega)
        clear hbU hK9 ho
        clear p00 p01 p02 p10 p11 p12 p20 p21 p22 p30 p31 p32
        obtain ⟨p00, p01, p02, _⟩ := B1.cells
        obtain ⟨p10, p11, p12, _⟩ := B2.cells
        obtain ⟨p20, p21, p22, _⟩ := A7.cells
        obtain ⟨p30, p31, p32, _⟩ := A8.cells
        refine hK.out _ _ ?_ (fun hHeld => ?_)
        · (try dsimp only)
          exact ⟨p00, p01, p02, p10, p11, p12⟩
        clear hK K
        try simp only [Act.put, List.setIfInBounds_toArray, List.set_cons_zero, List.set_cons_succ]
        refine wpAnyH_done (by kernel_rfl) ?_ _
        clear hHeld
        go_wp2_with fail
        go_meet
        exact ⟨e7, e8, _, _, _, _, _, _, _, _, _, _, _, _, _, _, rfl, rfl, A7, A8, hP7, hP8, HPK.out _ hbW, hbW⟩
    · go_simp
      obtain ⟨u41, hU, B8, hb9⟩ : ∃ U, U = ud1.alloc (.cells #[.bool false, .slice none 0 0, .slice none 0 0] 26) ∧ Box 26 U ud1.heap.size (.bool false) (.slice none 0 0) (.slice none 0 0) ∧ Below ud1.heap.size ud1 U := ⟨_, rfl, Box.new _ _ _ _ _, al1 _⟩
      rw [← hU]
      clear hU
      have n81 := B1.lt
      have n82 := B2.lt
      replace hX := hX.below hb9
      replace hY := hY.below hb9
      replace hP := hP.below hb9
      replace B1 := B1.below hb9
      replace B2 := B2.below hb9
      replace hbW : Below w.heap.size w u41 := hbW.trans (hb9.mono hbW.size)
      clear hb9
      generalize ud1.heap.size = e8 at B8 n81 n82 ⊢
      clear p00 p01 p02 p10 p11 p12
      obtain ⟨p00, p01, p02, _⟩ := B1.cells
      obtain ⟨p10, p11, p12, _⟩ := B2.cells
      obtain ⟨p20, p21, p22, _⟩ := B8.cells
      refine hK.out _ _ ?_ (fun hHeld => ?_)
      · (try dsimp only)
        exact ⟨p00, p01, p02, p10, p11, p12⟩
      clear hK K
      try simp only [Act.put, List.setIfInBounds_toArray, List.set_cons_zero, List.set_cons_succ]
      refine wpAnyH_ready (rs := [2, 6]) (by kernel_rfl) (by simp) (hCons (i := 2) rfl (by rfl) (fun K hK => ?_) (hCons (i := 6) rfl (by rfl) (fun K hK => ?_) AllReadyH.nil))
      · go_simp
        refine (hbe 6 p _ _ hP hX (by decide) (by decide)).mono ?_
        rintro e u42 ⟨v7, rfl, hF7, hb42⟩
        replace hX := hX.below hb42
        replace hY := hY.below hb42
        replace hP := hP.below hb42
        replace B1 := B1.below hb42
        replace B2 := B2.below hb42
        replace B8 := B8.below hb42
        replace hbW : Below w.heap.size w u42 := hbW.trans (hb42.mono hbW.size)
        clear hb42
        rw [HQA.out.1] at hF7
        have hP7 := hF7.ct
        obtain ⟨n7, x7, y7, ⟨a7, c7, b7, d7, rfl, _, _⟩, _⟩ := hF7
        clear p00 p01 p02 p10 p11 p12 p20 p21 p22
        obtain ⟨p00, p01, p02, _⟩ := B1.cells
        obtain ⟨p10, p11, p12, _⟩ := B2.cells
        obtain ⟨p20, p21, p22, _⟩ := B8.cells
        go_wp2_with fail
        refine hK.out _ _ ?_ (fun hHeld => ?_)
        · (try dsimp only)
          exact ⟨p00, p01, p02, p10, p11, p12⟩
        clear hK K
        try simp only [Act.put, List.setIfInBounds_toArray, List.set_cons_zero, List.set_cons_succ]
        refine wpAnyH_ready (rs := [5, 6]) (by kernel_rfl) (by simp) (hCons (i := 5) rfl (by rfl) (fun K hK => ?_) (hCons (i := 6) rfl (by rfl) (fun K hK => ?_) AllReadyH.nil))
        · go_simp
          refine (hbe 6 r _ _ hP hY (by decide) (by decide)).mono ?_
          rintro e u43 ⟨v8, rfl, hF8, hb43⟩
          replace hX := hX.below hb43
          replace hY := hY.below hb43
          replace hP := hP.below hb43
          replace hP7 := hP7.below hb43
          replace B1 := B1.below hb43
          replace B2 := B2.below hb43
          replace B8 := B8.below hb43
          replace hbW : Below w.heap.size w u43 := hbW.trans (hb43.mono hbW.size)
          clear hb43
          rw [HQA.out.2] at hF8
          have hP8 := hF8.ct
          obtain ⟨n8, x8, y8, ⟨a8, c8, b8, d8, rfl, _, _⟩, _⟩ := hF8
          clear p00 p01 p02 p10 p11 p12 p20 p21 p22
          obtain ⟨p00, p01, p02, _⟩ := B1.cells
          obtain ⟨p10, p11, p12, _⟩ := B2.cells
          obtain ⟨p20, p21, p22, _⟩ := B8.cells
          go_wp2_with fail
          refine hK.out _ _ ?_ (fun hHeld => ?_)
          · (try dsimp only)
            exact ⟨p00, p01, p02, p10, p11, p12⟩
          clear hK K
          try simp only [Act.put, List.setIfInBounds_toArray, List.set_cons_zero, List.set_cons_succ]
          refine hCall (i := 6) rfl (by kernel_rfl) (by rfl) (fun K hK => ?_)
          go_simp
          obtain ⟨u44, hU, B7, hb9⟩ : ∃ U, U = u43.alloc (.cells #[.bool false, .slice none 0 0, .slice none 0 0] 26) ∧ Box 26 U u43.heap.size (.bool false) (.slice none 0 0) (.slice none 0 0) ∧ Below u43.heap.size u43 U := ⟨_, rfl, Box.new _ _ _ _ _, al1 _⟩
          rw [← hU]
          clear hU
          have n71 := B1.lt
          have n72 := B2.lt
          have nn := B8.lt
          replace hX := hX.below hb9
          replace hY := hY.below hb9
          replace hP := hP.below hb9
          replace hP7 := hP7.below hb9
          replace hP8 := hP8.below hb9
          replace B1 := B1.below hb9
          replace B2 := B2.below hb9
          replace B8 := B8.below hb9
          replace hbW : Below w.heap.size w u44 := hbW.trans (hb9.mono hbW.size)
          clear hb9
          generalize u43.heap.size = e7 at B7 n71 n72 nn ⊢
          clear p00 p01 p02 p10 p11 p12 p20 p21 p22
          obtain ⟨p00, p01, p02, _⟩ := B1.cells
          obtain ⟨p10, p11, p12, _⟩ := B2.cells
          obtain ⟨p20, p21, p22, _⟩ := B8.cells
          obtain ⟨p30, p31, p32, _⟩ := B7.cells
          refine hK.out _ _ ?_ (fun hHeld => ?_)
          · (try dsimp only)
            exact ⟨p00, p01, p02, p10, p11, p12⟩
          clear hK K
          try simp only [Act.put, List.setIfInBounds_toArray, List.set_cons_zero, List.set_cons_succ]
          refine hCall (i := 8) rfl (by kernel_rfl) (by rfl) (fun K hK => ?_)
          go_simp
          obtain ⟨u45, hU, A7, hbU, hK9, ho⟩ := set3_world B7 (.bool n7) (.slice a7 x7.length c7) (.slice b7 y7.length d7)
          rw [← hU]
          clear hU
          replace hbW := hbU _ _ hbW (by omega)
          replace hP7 := hP7.keep hK9
          replace hP8 := hP8.keep hK9
          replace B1 := B1.other ho (by omega)
          replace B2 := B2.other ho (by omega)
          replace B8 := B8.other ho (by omega)
          clear hbU hK9 ho
          clear p00 p01 p02 p10 p11 p12 p20 p21 p22 p30 p31 p32
          obtain ⟨p00, p01, p02, _⟩ := B1.cells
          obtain ⟨p10, p11, p12, _⟩ := B2.cells
          obtain ⟨p20, p21, p22, _⟩ := B8.cells
          obtain ⟨p30, p31, p32, _⟩ := A7.cells
          refine hK.out _ _ ?_ (fun hHeld => ?_)
          · (try dsimp only)
            exact ⟨p00, p01, p02, p10, p11, p12⟩
          clear hK K
          try simp only [Act.put, List.setIfInBounds_toArray, List.set_cons_zero, List.set_cons_succ]
          refine hCall (i := 9) rfl (by kernel_rfl) (by rfl) (fun K hK => ?_)
          go_simp
          obtain ⟨u46, hU, A8, hbU, hK9, ho⟩ := set3_world B8 (.bool n8) (.slice a8 x8.length c8) (.slice b8 y8.length d8)
          rw [← hU]
          clear hU
          replace hbW := hbU _ _ hbW (by omega)
          replace hP7 := hP7.keep hK9
          replace hP8 := hP8.keep hK9
          replace B1 := B1.other ho (by omega)
          replace B2 := B2.other ho (by omega)
          replace A7 := A7.other ho (by omega)
          clear hbU hK9 ho
          clear p00 p01 p02 p10 p11 p12 p20 p21 p22 p30 p31 p32
          obtain ⟨p00, p01, p02, _⟩ := B1.cells
          obtain ⟨p10, p11, p12, _⟩ := B2.cells
          obtain ⟨p20, p21, p22, _⟩ := A7.cells
          obtain ⟨p30, p31, p32, _⟩ := A8.cells
          refine hK.out _ _ ?_ (fun hHeld => ?_)
          · (try dsimp only)
            exact ⟨p00, p01, p02, p10, p11, p12⟩
          clear hK K
          try simp only [Act.put, List.setIfInBounds_toArray, List.set_cons_zero, List.set_cons_succ]
          refine wpAnyH_done (by kernel_rfl) ?_ _
          clear hHeld
          go_wp2_with fail
          go_meet
          exact ⟨e7, e8, _, _, _, _, _, _, _, _, _, _, _, _, _, _, rfl, rfl, A7, A8, hP7, hP8, HPK.out _ hbW, hbW⟩
        · go_simp
          obtain ⟨u43, hU, B7, hb9⟩ : ∃ U, U = u42.alloc (.cells #[.bool false, .slice none 0 0, .slice none 0 0] 26) ∧ Box 26 U u42.heap.size (.bool false) (.slice none 0 0) (.slice none 0 0) ∧ Below u42.heap.size u42 U := ⟨_, rfl, Box.new _ _ _ _ _, al1 _⟩
          rw [← hU]
          clear hU
          have n71 := B1.lt
          have n72 := B2.lt
          have nn := B8.lt
          replace hX := hX.below hb9
          replace hY := hY.below hb9
          replace hP := hP.below hb9
          replace hP7 := hP7.below hb9
          replace B1 := B1.below hb9
          replace B2 := B2.below hb9
          replace B8 := B8.below hb9
          replace hbW : Below w.heap.size w u43 := hbW.trans (hb9.mono hbW.size)
          clear hb9
          generalize u42.heap.size = e7 at B7 n71 n72 nn ⊢
          clear p00 p01 p02 p10 p11 p12 p20 p21 p22
          obtain ⟨p00, p01, p02, _⟩ := B1.cells
          obtain ⟨p10, p11, p12, _⟩ := B2.cells
          obtain ⟨p20, p21, p22, _⟩ := B8.cells
          obtain ⟨p30, p31, p32, _⟩ := B7.cells
          refine hK.out _ _ ?_ (fun hHeld => ?_)
          · (try dsimp only)
            exact ⟨p00, p01, p02, p10, p11, p12⟩
          clear hK K
          try simp only [Act.put, List.setIfInBounds_toArray, List.set_cons_zero, List.set_cons_succ]
          refine hCall (i := 5) rfl (by kernel_rfl) (by rfl) (fun K hK => ?_)
          go_simp
          refine (hbe 6 r _ _ hP hY (by decide) (by decide)).mono ?_
          rintro e u44 ⟨v8, rfl, hF8, hb44⟩
          replace hX := hX.below hb44
          replace hY := hY.below hb44
          replace hP := hP.below hb44
          replace hP7 := hP7.below hb44
          replace B1 := B1.below hb44
          replace B2 := B2.below hb44
          replace B8 := B8.below hb44
          replace B7 := B7.below hb44
          replace hbW : Below w.heap.size w u44 := hbW.trans (hb44.mono hbW.size)
          clear hb44
          rw [HQA.out.2] at hF8
          have hP8 := hF8.ct
          obtain ⟨n8, x8, y8, ⟨a8, c8, b8, d8, rfl, _, _⟩, _⟩ := hF8
          clear p00 p01 p02 p10 p11 p12 p20 p21 p22 p30 p31 p32
          obtain ⟨p00, p01, p02, _⟩ := B1.cells
          obtain ⟨p10, p11, p12, _⟩ := B2.cells
          obtain ⟨p20, p21, p22, _⟩ := B8.cells
          obtain ⟨p30, p31, p32, _⟩ := B7.cells
          go_wp2_with fail
          refine hK.out _ _ ?_ (fun hHeld => ?_)
          · (try dsimp only)
            exact ⟨p00, p01, p02, p10, p11, p12⟩
          clear hK K
          try simp only [Act.put, List.setIfInBounds_toArray, List.set_cons_zero, List.set_cons_succ]
          refine hCall (i := 8) rfl (by kernel_rfl) (by rfl) (fun K hK => ?_)
          go_simp
          obtain ⟨u45, hU, A7, hbU, hK9, ho⟩ := set3_world B7 (.bool n7) (.slice a7 x7.length c7) (.slice b7 y7.length d7)
          rw [← hU]
          clear hU
          replace hbW := hbU _ _ hbW (by omega)
          replace hP7 := hP7.keep hK9
          replace hP8 := hP8.keep hK9
          replace B1 := B1.other ho (by omega)
          replace B2 := B2.other ho (by omega)
          replace B8 := B8.other ho (by omega)
          clear hbU hK9 ho
          clear p00 p01 p02 p10 p11 p12 p20 p21 p22 p30 p31 p32
          obtain ⟨p00, p01, p02, _⟩ := B1.cells
          obtain ⟨p10, p11, p12, _⟩ := B2.cells
          obtain ⟨p20, p21, p22, _⟩ := B8.cells
          obtain ⟨p30, p31, p32, _⟩ := A7.cells
          refine hK.out _ _ ?_ (fun hHeld => ?_)
          · (try dsimp only)
            exact ⟨p00, p01, p02, p10, p11, p12⟩
          clear hK K
          try simp only [Act.put, List.setIfInBounds_toArray, List.set_cons_zero, List.set_cons_succ]
          refine hCall (i := 9) rfl (by kernel_rfl) (by rfl) (fun K hK => ?_)
          go_simp
          obtain ⟨u46, hU, A8, hbU, hK9, ho⟩ := set3_world B8 (.bool n8) (.slice a8 x8.length c8) (.slice b8 y8.length d8)
          rw [← hU]
          clear hU
          replace hbW := hbU _ _ hbW (by omega)
          replace hP7 := hP7.keep hK9
          replace hP8 := hP8.keep hK9
          replace B1 := B1.other ho (by omega)
          replace B2 := B2.other ho (by omega)
          replace A7 := A7.other ho (by omega)
          clear hbU hK9 ho
          clear p00 p01 p02 p10 p11 p12 p20 p21 p22 p30 p31 p32
          obtain ⟨p00, p01, p02, _⟩ := B1.cells
          obtain ⟨p10, p11, p12, _⟩ := B2.cells
          obtain ⟨p20, p21, p22, _⟩ := A7.cells
          obtain ⟨p30, p31, p32, _⟩ := A8.cells
          refine hK.out _ _ ?_ (fun hHeld => ?_)
          · (try dsimp only)
            exact ⟨p00, p01, p02, p10, p11, p12⟩
          clear hK K
          try simp only [Act.put, List.setIfInBounds_toArray, List.set_cons_zero, List.set_cons_succ]
          refine wpAnyH_done (by kernel_rfl) ?_ _
          clear hHeld
          go_wp2_with fail
          go_meet
          exact ⟨e7, e8, _, _, _, _, _, _, _, _, _, _, _, _, _, _, rfl, rfl, A7, A8, hP7, hP8, HPK.out _ hbW, hbW⟩
      · go_simp
        obtain ⟨u42, hU, B7, hb9⟩ : ∃ U, U = u41.alloc (.cells #[.bool false, .slice none 0 0, .slice none 0 0] 26) ∧ Box 26 U u41.heap.size (.bool false) (.slice none 0 0) (.slice none 0 0) ∧ Below u41.heap.size u41 U := ⟨_, rfl, Box.new _ _ _ _ _, al1 _⟩
        rw [← hU]
        clear hU
        have n71 := B1.lt
        have n72 := B2.lt
        have nn := B8.lt
        replace hX := hX.below hb9
        replace hY := hY.below hb9
        replace hP := hP.below hb9
        replace B1 := B1.below hb9
        replace B2 := B2.below hb9
        replace B8 := B8.below hb9
        replace hbW : Below w.heap.size w u42 := hbW.trans (hb9.mono hbW.size)
        clear hb9
        generalize u41.heap.size = e7 at B7 n71 n72 nn ⊢
        clear p00 p01 p02 p10 p11 p12 p20 p21 p22
        obtain ⟨p00, p01, p02, _⟩ := B1.cells
        obtain ⟨p10, p11, p12, _⟩ := B2.cells
        obtain ⟨p20, p21, p22, _⟩ := B8.cells
        obtain ⟨p30, p31, p32, _⟩ := B7.cells
        refine hK.out _ _ ?_ (fun hHeld => ?_)
        · (try dsimp only)
          exact ⟨p00, p01, p02, p10, p11, p12⟩
        clear hK K
        try simp only [Act.put, List.setIfInBounds_toArray, List.set_cons_zero, List.set_cons_succ]
        refine hCall (i := 2) rfl (by kernel_rfl) (by rfl) (fun K hK => ?_)
        go_simp
        refine (hbe 6 p _ _ hP hX (by decide) (by decide)).mono ?_
        rintro e u43 ⟨v7, rfl, hF7, hb43⟩
        replace hX := hX.below hb43
        replace hY := hY.below hb43
        replace hP := hP.below hb43
        replace B1 := B1.below hb43
        replace B2 := B2.below hb43
        replace B8 := B8.below hb43
        replace B7 := B7.below hb43
        replace hbW : Below w.heap.size w u43 := hbW.trans (hb43.mono hbW.size)
        clear hb43
        rw [HQA.out.1] at hF7
        have hP7 := hF7.ct
        obtain ⟨n7, x7, y7, ⟨a7, c7, b7, d7, rfl, _, _⟩, _⟩ := hF7
        clear p00 p01 p02 p10 p11 p12 p20 p21 p22 p30 p31 p32
        obtain ⟨p00, p01, p02, _⟩ := B1.cells
        obtain ⟨p10, p11, p12, _⟩ := B2.cells
        obtain ⟨p20, p21, p22, _⟩ := B8.cells
        obtain ⟨p30, p31, p32, _⟩ := B7.cells
        go_wp2_with fail
        refine hK.out _ _ ?_ (fun hHeld => ?_)
        · (try dsimp only)
          exact ⟨p00, p01, p02, p10, p11, p12⟩
        clear hK K
        try simp only [Act.put, List.setIfInBounds_toArray, List.set_cons_zero, List.set_cons_succ]
        refine hCall (i := 5) rfl (by kernel_rfl) (by rfl) (fun K hK => ?_)
        go_simp
        refine (hbe 6 r _ _ hP hY (by decide) (by decide)).mono ?_
        rintro e u44 ⟨v8, rfl, hF8, hb44⟩
        replace hX := hX.below hb44
        replace hY := hY.below hb44
        replace hP := hP.below hb44
        replace hP7 := hP7.below hb44
        replace B1 := B1.below hb44
        replace B2 := B2.below hb44
        replace B8 := B8.below hb44
        replace B7 := B7.below hb44
        replace hbW : Below w.heap.size w u44 := hbW.trans (hb44.mono hbW.size)
        clear hb44
        rw [HQA.out.2] at hF8
        have hP8 := hF8.ct
        obtain ⟨n8, x8, y8, ⟨a8, c8, b8, d8, rfl, _, _⟩, _⟩ := hF8
        clear p00 p01 p02 p10 p11 p12 p20 p21 p22 p30 p31 p32
        obtain ⟨p00, p01, p02, _⟩ := B1.cells
        obtain ⟨p10, p11, p12, _⟩ := B2.cells
        obtain ⟨p20, p21, p22, _⟩ := B8.cells
        obtain ⟨p30, p31, p32, _⟩ := B7.cells
        go_wp2_with fail
        refine hK.out _ _ ?_ (fun hHeld => ?_)
        · (try dsimp only)
          exact ⟨p00, p01, p02, p10, p11, p12⟩
        clear hK K
        try simp only [Act.put, List.setIfInBounds_toArray, List.set_cons_zero, List.set_cons_succ]
        refine hCall (i := 8) rfl (by kernel_rfl) (by rfl) (fun K hK => ?_)
        go_simp
        obtain ⟨u45, hU, A7, hbU, hK9, ho⟩ := set3_world B7 (.bool n7) (.slice a7 x7.length c7) (.slice b7 y7.length d7)
        rw [← hU]
        clear hU
        replace hbW := hbU _ _ hbW (by omega)
        replace hP7 := hP7.keep hK9
        replace hP8 := hP8.keep hK9
        replace B1 := B1.other ho (by omega)
        replace B2 := B2.other ho (by omega)
        replace B8 := B8.other ho (by omega)
        clear hbU hK9 ho
        clear p00 p01 p02 p10 p11 p12 p20 p21 p22 p30 p31 p32
        obtain ⟨p00, p01, p02, _⟩ := B1.cells
        obtain ⟨p10, p11, p12, _⟩ := B2.cells
        obtain ⟨p20, p21, p22, _⟩ := B8.cells
        obtain ⟨p30, p31, p32, _⟩ := A7.cells
        refine hK.out _ _ ?_ (fun hHeld => ?_)
        · (try dsimp only)
          exact ⟨p00, p01, p02, p10, p11, p12⟩
        clear hK K
        try simp only [Act.put, List.setIfInBounds_toArray, List.set_cons_zero, List.set_cons_succ]
        refine hCall (i := 9) rfl (by kernel_rfl) (by rfl) (fun K hK => ?_)
        go_simp
        obtain ⟨u46, hU, A8, hbU, hK9, ho⟩ := set3_world B8 (.bool n8) (.slice a8 x8.length c8) (.slice b8 y8.length d8)
        rw [← hU]
        clear hU
        replace hbW := hbU _ _ hbW (by omega)
        replace hP7 := hP7.keep hK9
        replace hP8 := hP8.keep hK9
        replace B1 := B1.other ho (by omega)
        replace B2 := B2.other ho (by omega)
        replace A7 := A7.other ho (by omega)
        clear hbU hK9 ho
        clear p00 p01 p02 p10 p11 p12 p20 p21 p22 p30 p31 p32
        obtain ⟨p00, p01, p02, _⟩ := B1.cells
        obtain ⟨p10, p11, p12, _⟩ := B2.cells
        obtain ⟨p20, p21, p22, _⟩ := A7.cells
        obtain ⟨p30, p31, p32, _⟩ := A8.cells
        refine hK.out _ _ ?_ (fun hHeld => ?_)
        · (try dsimp only)
          exact ⟨p00, p01, p02, p10, p11, p12⟩
        clear hK K
        try simp only [Act.put, List.setIfInBounds_toArray, List.set_cons_zero, List.set_cons_succ]
        refine wpAnyH_done (by kernel_rfl) ?_ _
        clear hHeld
        go_wp2_with fail
        go_meet
        exact ⟨e7, e8, _, _, _, _, _, _, _, _, _, _, _, _, _, _, rfl, rfl, A7, A8, hP7, hP8, HPK.out _ hbW, hbW⟩
  case rest =>
  clear B1 B2 hX hY hP hbW
  obtain ⟨e7, e8, n7, a7, x7, c7, b7, y7, d7, n8, a8, x8, c8, b8, y8, d8, rfl, rfl, B7, B8, hX, hY, hP, hbW⟩ := hcut
  obtain ⟨p00, p01, p02, _⟩ := B7.cells
  obtain ⟨p10, p11, p12, _⟩ := B8.cells
  go_wp2_with fail
  refine (whole_any 1 _ (by decide) (by decide)).mono ?_
  rintro e u61 ⟨v9, rfl, hF9, hb61⟩
  replace hX := hX.below hb61
  replace hY := hY.below hb61
  replace hP := hP.below hb61
  replace B7 := B7.below hb61
  replace B8 := B8.below hb61
  replace hbW : Below w.heap.size w u61 := hbW.trans (hb61.mono hbW.size)
  clear hb61
  clear p00 p01 p02 p10 p11 p12
  obtain ⟨p00, p01, p02, _⟩ := B7.cells
  obtain ⟨p10, p11, p12, _⟩ := B8.cells
  have hO := hF9.ct
  obtain ⟨n9, l9, m9, ⟨a9, c9, b9, d9, rfl, _, _⟩, _⟩ := hF9
  generalize l9.length = x9 at hO ⊢
  generalize m9.length = y9 at hO ⊢
  have s7 := B7.lt
  have s8 := B8.lt
  go_wp2_with fail
  obtain ⟨V, hV, B9, hb9⟩ : ∃ V, V = u61.alloc (.cells #[.bool n9, .slice a9 x9 c9, .slice b9 y9 d9] 26) ∧ Box 26 V u61.heap.size (.bool n9) (.slice a9 x9 c9) (.slice b9 y9 d9) ∧ Below u61.heap.size u61 V := ⟨_, rfl, Box.new _ _ _ _ _, al1 _⟩
  rw [← hV]
  clear hV s7 s8
  replace hX := hX.below hb9
  replace hY := hY.below hb9
  replace hP := hP.below hb9
  replace hO := hO.below hb9
  replace B7 := B7.below hb9
  replace B8 := B8.below hb9
  replace hbW : Below w.heap.size w V := hbW.trans (hb9.mono hbW.size)
  clear hb9
  generalize u61.heap.size = e9 at B9 ⊢
  clear p00 p01 p02 p10 p11 p12
  obtain ⟨p00, p01, p02, _⟩ := B7.cells
  obtain ⟨p10, p11, p12, _⟩ := B8.cells
  obtain ⟨p20, p21, p22, _⟩ := B9.cells
  obtain ⟨s1, h1⟩ : ∃ s, sgnQ (qa - qb) = s := ⟨_, rfl⟩
  obtain ⟨s2, h2⟩ : ∃ s, sgnQ (qa - ((-1 : Int) : Rat)) = s := ⟨_, rfl⟩
  obtain ⟨s3, h3⟩ : ∃ s, sgnQ (qb - ((1 : Int) : Rat)) = s := ⟨_, rfl⟩
  have hd1 : decide (0 < s1) = false := by rw [← h1]; exact decide_eq_false (fun hh => Rat.not_lt.2 HM.out.1 (sgn_pos.1 hh))
  have hd2 : decide (s2 < 0) = false := by rw [← h2]; exact decide_eq_false (fun hh => Rat.not_lt.2 HM.out.2.1 (sgn_neg.1 hh))
  have hd3 : decide (0 < s3) = false := by rw [← h3]; exact decide_eq_false (fun hh => Rat.not_lt.2 HM.out.2.2.1 (sgn_pos.1 hh))
  have HZ : Hid (sgnQ (qa - qb) = s1 ∧ sgnQ (qa - ((-1 : Int) : Rat)) = s2 ∧ sgnQ (qb - ((1 : Int) : Rat)) = s3) := ⟨h1, h2, h3⟩
  have HZ0 : Hid (sgnQ (beQ l ((0 : Int) : Rat)) = 0) := by show _ = _; rw [HM.out.2.2.2.1]; rfl
  clear h1 h2 h3
  refine wp_region_held_drew (S := (fun u => u.cell? ⟨e7, 0, none⟩ = some (.bool n7) ∧ u.cell? ⟨e7, 1, none⟩ = some (.slice a7 x7 c7) ∧ u.cell? ⟨e7, 2, none⟩ = some (.slice b7 y7 d7) ∧ u.cell? ⟨e8, 0, none⟩ = some (.bool n8) ∧ u.cell? ⟨e8, 1, none⟩ = some (.slice a8 x8 c8) ∧ u.cell? ⟨e8, 2, none⟩ = some (.slice b8 y8 d8) ∧ u.cell? ⟨e9, 0, none⟩ = some (.bool n9) ∧ u.cell? ⟨e9, 1, none⟩ = some (.slice a9 x9 c9) ∧ u.cell? ⟨e9, 2, none⟩ = some (.slice b9 y9 d9))) (by kernel_rfl) ?_ (fun hHeld => ?_)
  · (try dsimp only)
    go_keep
  have hdr : Below V.heap.size V V.drew := Below.drew1
  generalize V.drew = ud6 at hdr hHeld ⊢
  replace hX := hX.below hdr
  replace hY := hY.below hdr
  replace hP := hP.below hdr
  replace hO := hO.below hdr
  replace B7 := B7.below hdr
  replace B8 := B8.below hdr
  replace B9 := B9.below hdr
  replace hbW : Below w.heap.size w ud6 := hbW.trans (hdr.mono hbW.size)
  clear hdr
  clear p00 p01 p02 p10 p11 p12 p20 p21 p22
  obtain ⟨p00, p01, p02, _⟩ := B7.cells
  obtain ⟨p10, p11, p12, _⟩ := B8.cells
  obtain ⟨p20, p21, p22, _⟩ := B9.cells
  refine hTake (i := 0) (v := ?v7) rfl (by kernel_rfl) (by kernel_rfl) (by kernel_rfl) (fun _ _ _ h => h) (Or.inl ⟨by rfl, ?y7⟩) hHeld ?r7
  case y7 =>
    intro w9 hSw
    (try dsimp only at hSw)
    go_simp
    try with_reducible rfl
  try simp only [Act.put, List.setIfInBounds_toArray, List.set_cons_zero, List.set_cons_succ]
  refine hTake (i := 1) (v := ?v8) rfl (by kernel_rfl) (by kernel_rfl) (by kernel_rfl) (fun _ _ _ h => h) (Or.inl ⟨by rfl, ?y8⟩) hHeld ?r8
  case y8 =>
    intro w9 hSw
    (try dsimp only at hSw)
    go_simp
    try with_reducible rfl
  try simp only [Act.put, List.setIfInBounds_toArray, List.set_cons_zero, List.set_cons_succ]
  refine hCall (i := 2) rfl (by kernel_rfl) (by rfl) (fun K hK => ?_)
  go_simp
  refine (qcmp_any 14 14 _ _ _ _ _ hX hY (by decide) (by decide) (by decide) (by decide)).mono ?_
  rintro e u62 ⟨rfl, hb62⟩
  replace hX := hX.below hb62
  replace hY := hY.below hb62
  replace hP := hP.below hb62
  replace hO := hO.below hb62
  replace B7 := B7.below hb62
  replace B8 := B8.below hb62
  replace B9 := B9.below hb62
  replace hbW : Below w.heap.size w u62 := hbW.trans (hb62.mono hbW.size)
  clear hb62
  rw [HZ.out.1]
  clear p00 p01 p02 p10 p11 p12 p20 p21 p22
  obtain ⟨p00, p01, p02, _⟩ := B7.cells
  obtain ⟨p10, p11, p12, _⟩ := B8.cells
  obtain ⟨p20, p21, p22, _⟩ := B9.cells
  go_wp2_with fail
  refine hK.out _ _ ?_ (fun hHeld => ?_)
  · (try dsimp only)
    exact ⟨p00, p01, p02, p10, p11, p12, p20, p21, p22⟩
  clear hK K
  try simp only [Act.put, List.setIfInBounds_toArray, List.set_cons_zero, List.set_cons_succ]
  refine hTake (i := 3) (v := ?v9) rfl (by kernel_rfl) (by kernel_rfl) (by kernel_rfl) (fun _ _ _ h => h) (Or.inl ⟨by rfl, ?y9⟩) hHeld ?r9
  case y9 =>
    intro w9 hSw
    (try dsimp only at hSw)
    go_simp
    try with_reducible rfl
  try simp only [Act.put, List.setIfInBounds_toArray, List.set_cons_zero, List.set_cons_succ]
  refine hTake (i := 4) (v := ?v10) rfl (by kernel_rfl) (by kernel_rfl) (by kernel_rfl) (fun _ _ _ h => h) (Or.inl ⟨by rfl, ?y10⟩) hHeld ?r10
  case y10 =>
    intro w9 hSw
    (try dsimp only at hSw)
    go_simp
    try with_reducible rfl
  try simp only [Act.put, List.setIfInBounds_toArray, List.set_cons_zero, List.set_cons_succ]
  refine hTake (i := 5) (v := ?v11) rfl (by kernel_rfl) (by kernel_rfl) (by kernel_rfl) (fun _ _ _ h => h) (Or.inl ⟨by rfl, ?y11⟩) hHeld ?r11
  case y11 =>
    intro w9 hSw
    (try dsimp only at hSw)
    go_simp
    try with_reducible rfl
  try simp only [Act.put, List.setIfInBounds_toArray, List.set_cons_zero, List.set_cons_succ]
  refine hCall (i := 6) rfl (by kernel_rfl) (by rfl) (fun K hK => ?_)
  go_simp
  refine (whole_any (-1) _ (by decide) (by decide)).mono ?_
  rintro e u63 ⟨vm, rfl, hFm, hb63⟩
  replace hX := hX.below hb63
  replace hY := hY.below hb63
  replace hP := hP.below hb63
  replace hO := hO.below hb63
  replace B7 := B7.below hb63
  replace B8 := B8.below hb63
  replace B9 := B9.below hb63
  replace hbW : Below w.heap.size w u63 := hbW.trans (hb63.mono hbW.size)
  clear hb63
  clear p00 p01 p02 p10 p11 p12 p20 p21 p22
  obtain ⟨p00, p01, p02, _⟩ := B7.cells
  obtain ⟨p10, p11, p12, _⟩ := B8.cells
  obtain ⟨p20, p21, p22, _⟩ := B9.cells
  go_wp2_with fail
  refine hK.out _ _ ?_ (fun hHeld => ?_)
  · (try dsimp only)
    exact ⟨p00, p01, p02, p10, p11, p12, p20, p21, p22⟩
  clear hK K
  try simp only [Act.put, List.setIfInBounds_toArray, List.set_cons_zero, List.set_cons_succ]
  refine hCall (i := 7) rfl (by kernel_rfl) (by rfl) (fun K hK => ?_)
  go_simp
  refine (qcmp_any 14 2 _ _ _ _ _ hX hFm.ct (by decide) (by decide) (by decide) (by decide)).mono ?_
  rintro e u64 ⟨rfl, hb64⟩
  replace hX := hX.below hb64
  replace hY := hY.below hb64
  replace hP := hP.below hb64
  replace hO := hO.below hb64
  replace hFm := hFm.below hb64
  replace B7 := B7.below hb64
  replace B8 := B8.below hb64
  replace B9 := B9.below hb64
  replace hbW : Below w.heap.size w u64 := hbW.trans (hb64.mono hbW.size)
  clear hb64 hFm
  rw [HZ.out.2.1]
  clear p00 p01 p02 p10 p11 p12 p20 p21 p22
  obtain ⟨p00, p01, p02, _⟩ := B7.cells
  obtain ⟨p10, p11, p12, _⟩ := B8.cells
  obtain ⟨p20, p21, p22, _⟩ := B9.cells
  go_wp2_with fail
  refine hK.out _ _ ?_ (fun hHeld => ?_)
  · (try dsimp only)
    exact ⟨p00, p01, p02, p10, p11, p12, p20, p21, p22⟩
  clear hK K
  try simp only [Act.put, List.setIfInBounds_toArray, List.set_cons_zero, List.set_cons_succ]
  refine hTake (i := 8) (v := ?v12) rfl (by kernel_rfl) (by kernel_rfl) (by kernel_rfl) (fun _ _ _ h => h) (Or.inl ⟨by rfl, ?y12⟩) hHeld ?r12
  case y12 =>
    intro w9 hSw
    (try dsimp only at hSw)
    go_simp
    try with_reducible rfl
  try simp only [Act.put, List.setIfInBounds_toArray, List.set_cons_zero, List.set_cons_succ]
  refine hTake (i := 9) (v := ?v13) rfl (by kernel_rfl) (by kernel_rfl) (by kernel_rfl) (fun _ _ _ h => h) (Or.inl ⟨by rfl, ?y13⟩) hHeld ?r13
  case y13 =>
    intro w9 hSw
    (try dsimp only at hSw)
    go_simp
    try with_reducible rfl
  try simp only [Act.put, List.setIfInBounds_toArray, List.set_cons_zero, List.set_cons_succ]
  refine hTake (i := 10) (v := ?v14) rfl (by kernel_rfl) (by kernel_rfl) (by kernel_rfl) (fun _ _ _ h => h) (Or.inl ⟨by rfl, ?y14⟩) hHeld ?r14
  case y14 =>
    intro w9 hSw
    (try dsimp only at hSw)
    go_simp
    try with_reducible rfl
  try simp only [Act.put, List.setIfInBounds_toArray, List.set_cons_zero, List.set_cons_succ]
  refine hTake (i := 11) (v := ?v15) rfl (by kernel_rfl) (by kernel_rfl) (by kernel_rfl) (fun _ _ _ h => h) (Or.inl ⟨by rfl, ?y15⟩) hHeld ?r15
  case y15 =>
    intro w9 hSw
    (try dsimp only at hSw)
    go_simp
    try with_reducible rfl
  try simp only [Act.put, List.setIfInBounds_toArray, List.set_cons_zero, List.set_cons_succ]
  refine hTake (i := 12) (v := ?v16) rfl (by kernel_rfl) (by kernel_rfl) (by kernel_rfl) (fun _ _ _ h => h) (Or.inl ⟨by rfl, ?y16⟩) hHeld ?r16
  case y16 =>
    intro w9 hSw
    (try dsimp only at hSw)
    go_simp
    try with_reducible rfl
  try simp only [Act.put, List.setIfInBounds_toArray, List.set_cons_zero, List.set_cons_succ]
  refine hCall (i := 13) rfl (by kernel_rfl) (by rfl) (fun K hK => ?_)
  go_simp
  refine (qcmp_any 14 2 _ _ _ _ _ hY hO (by decide) (by decide) (by decide) (by decide)).mono ?_
  rintro e u65 ⟨rfl, hb65⟩
  replace hX := hX.below hb65
  replace hY := hY.below hb65
  replace hP := hP.below hb65
  replace hO := hO.below hb65
  replace B7 := B7.below hb65
  replace B8 := B8.below hb65
  replace B9 := B9.below hb65
  replace hbW : Below w.heap.size w u65 := hbW.trans (hb65.mono hbW.size)
  clear hb65
  rw [HZ.out.2.2]
  clear p00 p01 p02 p10 p11 p12 p20 p21 p22
  obtain ⟨p00, p01, p02, _⟩ := B7.cells
  obtain ⟨p10, p11, p12, _⟩ := B8.cells
  obtain ⟨p20, p21, p22, _⟩ := B9.cells
  go_wp2_with fail
  refine hK.out _ _ ?_ (fun hHeld => ?_)
  · (try dsimp only)
    exact ⟨p00, p01, p02, p10, p11, p12, p20, p21, p22⟩
  clear hK K
  try simp only [Act.put, List.setIfInBounds_toArray, List.set_cons_zero, List.set_cons_succ]
  refine hTake (i := 14) (v := ?v17) rfl (by kernel_rfl) (by kernel_rfl) (by kernel_rfl) (fun _ _ _ h => h) (Or.inl ⟨by rfl, ?y17⟩) hHeld ?r17
  case y17 =>
    intro w9 hSw
    (try dsimp only at hSw)
    go_simp
    try with_reducible rfl
  try simp only [Act.put, List.setIfInBounds_toArray, List.set_cons_zero, List.set_cons_succ]
  refine hTake (i := 15) (v := ?v18) rfl (by kernel_rfl) (by kernel_rfl) (by kernel_rfl) (fun _ _ _ h => h) (Or.inl ⟨by rfl, ?y18⟩) hHeld ?r18
  case y18 =>
    intro w9 hSw
    (try dsimp only at hSw)
    go_simp
    try with_reducible rfl
  try simp only [Act.put, List.setIfInBounds_toArray, List.set_cons_zero, List.set_cons_succ]
  refine hTake (i := 16) (v := ?v19) rfl (by kernel_rfl) (by kernel_rfl) (by kernel_rfl) (fun _ _ _ h => h) (Or.inl ⟨by rfl, ?y19⟩) hHeld ?r19
  case y19 =>
    intro w9 hSw
    (try dsimp only at hSw)
    go_simp
    try with_reducible rfl
  try simp only [Act.put, List.setIfInBounds_toArray, List.set_cons_zero, List.set_cons_succ]
  refine hTake (i := 17) (v := ?v20) rfl (by kernel_rfl) (by kernel_rfl) (by kernel_rfl) (fun _ _ _ h => h) (Or.inl ⟨by rfl, ?y20⟩) hHeld ?r20
  case y20 =>
    intro w9 hSw
    (try dsimp only at hSw)
    go_simp
    try with_reducible rfl
  try simp only [Act.put, List.setIfInBounds_toArray, List.set_cons_zero, List.set_cons_succ]
  refine hCall (i := 18) rfl (by kernel_rfl) (by rfl) (fun K hK => ?_)
  go_simp
  refine (whole_any 0 _ (by decide) (by decide)).mono ?_
  rintro e u66 ⟨vz, rfl, hFz, hb66⟩
  replace hX := hX.below hb66
  replace hY := hY.below hb66
  replace hP := hP.below hb66
  replace hO := hO.below hb66
  replace B7 := B7.below hb66
  replace B8 := B8.below hb66
  replace B9 := B9.below hb66
  replace hbW : Below w.heap.size w u66 := hbW.trans (hb66.mono hbW.size)
  clear hb66
  clear p00 p01 p02 p10 p11 p12 p20 p21 p22
  obtain ⟨p00, p01, p02, _⟩ := B7.cells
  obtain ⟨p10, p11, p12, _⟩ := B8.cells
  obtain ⟨p20, p21, p22, _⟩ := B9.cells
  go_wp2_with fail
  refine hK.out _ _ ?_ (fun hHeld => ?_)
  · (try dsimp only)
    exact ⟨p00, p01, p02, p10, p11, p12, p20, p21, p22⟩
  clear hK K
  try simp only [Act.put, List.setIfInBounds_toArray, List.set_cons_zero, List.set_cons_succ]
  refine hCall (i := 19) rfl (by kernel_rfl) (by rfl) (fun K hK => ?_)
  go_simp
  refine (hbe 2 ((0 : Int) : Rat) _ _ hP hFz.ct (by decide) (by decide)).mono ?_
  rintro e u67 ⟨vu, rfl, hFu, hb67⟩
  replace hX := hX.below hb67
  replace hY := hY.below hb67
  replace hP := hP.below hb67
  replace hO := hO.below hb67
  replace hFz := hFz.below hb67
  replace B7 := B7.below hb67
  replace B8 := B8.below hb67
  replace B9 := B9.below hb67
  replace hbW : Below w.heap.size w u67 := hbW.trans (hb67.mono hbW.size)
  clear hb67
  clear p00 p01 p02 p10 p11 p12 p20 p21 p22
  obtain ⟨p00, p01, p02, _⟩ := B7.cells
  obtain ⟨p10, p11, p12, _⟩ := B8.cells
  obtain ⟨p20, p21, p22, _⟩ := B9.cells
  go_wp2_with fail
  refine hK.out _ _ ?_ (fun hHeld => ?_)
  · (try dsimp only)
    exact ⟨p00, p01, p02, p10, p11, p12, p20, p21, p22⟩
  clear hK K
  try simp only [Act.put, List.setIfInBounds_toArray, List.set_cons_zero, List.set_cons_succ]
  refine hCall (i := 20) rfl (by kernel_rfl) (by rfl) (fun K hK => ?_)
  go_simp
  refine (qsign_any 10 _ _ _ hFu.ct (by decide) (by decide)).mono ?_
  rintro e u68 ⟨rfl, hb68⟩
  replace hX := hX.below hb68
  replace hY := hY.below hb68
  replace hP := hP.below hb68
  replace hO := hO.below hb68
  replace hFz := hFz.below hb68
  replace hFu := hFu.below hb68
  replace B7 := B7.below hb68
  replace B8 := B8.below hb68
  replace B9 := B9.below hb68
  replace hbW : Below w.heap.size w u68 := hbW.trans (hb68.mono hbW.size)
  clear hb68 hFu hFz
  rw [HZ0.out]
  clear p00 p01 p02 p10 p11 p12 p20 p21 p22
  obtain ⟨p00, p01, p02, _⟩ := B7.cells
  obtain ⟨p10, p11, p12, _⟩ := B8.cells
  obtain ⟨p20, p21, p22, _⟩ := B9.cells
  go_wp2_with fail
  refine hK.out _ _ ?_ (fun hHeld => ?_)
  · (try dsimp only)
    exact ⟨p00, p01, p02, p10, p11, p12, p20, p21, p22⟩
  clear hK K
  try simp only [Act.put, List.setIfInBounds_toArray, List.set_cons_zero, List.set_cons_succ]
  refine hTake (i := 21) (v := ?v21) rfl (by kernel_rfl) (by kernel_rfl) (by kernel_rfl) (fun _ _ _ h => h) (Or.inl ⟨by rfl, ?y21⟩) hHeld ?r21
  case y21 =>
    intro w9 hSw
    (try dsimp only at hSw)
    go_simp
    try with_reducible rfl
  try simp only [Act.put, List.setIfInBounds_toArray, List.set_cons_zero, List.set_cons_succ]
  refine hTake (i := 22) (v := ?v22) rfl (by kernel_rfl) (by kernel_rfl) (by kernel_rfl) (fun _ _ _ h => h) (Or.inl ⟨by rfl, ?y22⟩) hHeld ?r22
  case y22 =>
    intro w9 hSw
    (try dsimp only at hSw)
    go_simp
    try with_reducible rfl
  try simp only [Act.put, List.setIfInBounds_toArray, List.set_cons_zero, List.set_cons_succ]
  refine hTake (i := 23) (v := ?v23) rfl (by kernel_rfl) (by kernel_rfl) (by kernel_rfl) (fun _ _ _ h => h) (Or.inl ⟨by rfl, ?y23⟩) hHeld ?r23
  case y23 =>
    intro w9 hSw
    (try dsimp only at hSw)
    go_simp
    try with_reducible rfl
  try simp only [Act.put, List.setIfInBounds_toArray, List.set_cons_zero, List.set_cons_succ]
  refine hTake (i := 24) (v := ?v24) rfl (by kernel_rfl) (by kernel_rfl) (by kernel_rfl) (fun _ _ _ h => h) (Or.inl ⟨by rfl, ?y24⟩) hHeld ?r24
  case y24 =>
    intro w9 hSw
    (try dsimp only at hSw)
    go_simp
    try with_reducible rfl
  try simp only [Act.put, List.setIfInBounds_toArray, List.set_cons_zero, List.set_cons_succ]
  refine hTake (i := 25) (v := ?v25) rfl (by kernel_rfl) (by kernel_rfl) (by kernel_rfl) (fun _ _ _ h => h) (Or.inl ⟨by rfl, ?y25⟩) hHeld ?r25
  case y25 =>
    intro w9 hSw
    (try dsimp only at hSw)
    go_simp
    try with_reducible rfl
  try simp only [Act.put, List.setIfInBounds_toArray, List.set_cons_zero, List.set_cons_succ]
  refine hTake (i := 27) (v := ?v26) rfl (by kernel_rfl) (by kernel_rfl) (by kernel_rfl) (fun _ _ _ h => h) (Or.inl ⟨by rfl, ?y26⟩) hHeld ?r26
  case y26 =>
    intro w9 hSw
    (try dsimp only at hSw)
    go_simp
    try with_reducible rfl
  try simp only [Act.put, List.setIfInBounds_toArray, List.set_cons_zero, List.set_cons_succ]
  refine hCall (i := 26) rfl (by kernel_rfl) (by rfl) (fun K hK => ?_)
  go_simp
  refine (hbe 2 ((1 : Int) : Rat) _ _ hP hO (by decide) (by decide)).mono ?_
  rintro e u69 ⟨vt, rfl, hFt, hb69⟩
  replace hX := hX.below hb69
  replace hY := hY.below hb69
  replace hP := hP.below hb69
  replace hO := hO.below hb69
  replace B7 := B7.below hb69
  replace B8 := B8.below hb69
  replace B9 := B9.below hb69
  replace hbW : Below w.heap.size w u69 := hbW.trans (hb69.mono hbW.size)
  clear hb69
  clear p00 p01 p02 p10 p11 p12 p20 p21 p22
  obtain ⟨p00, p01, p02, _⟩ := B7.cells
  obtain ⟨p10, p11, p12, _⟩ := B8.cells
  obtain ⟨p20, p21, p22, _⟩ := B9.cells
  go_wp2_with fail
  refine hK.out _ _ ?_ (fun hHeld => ?_)
  · (try dsimp only)
    exact ⟨p00, p01, p02, p10, p11, p12, p20, p21, p22⟩
  clear hK K
  try simp only [Act.put, List.setIfInBounds_toArray, List.set_cons_zero, List.set_cons_succ]
  refine hCall (i := 28) rfl (by kernel_rfl) (by rfl) (fun K hK => ?_)
  go_simp
  refine (qcmp_any 10 2 _ _ _ _ _ hFt.ct hO (by decide) (by decide) (by decide) (by decide)).mono ?_
  rintro e u70 ⟨rfl, hb70⟩
  replace hX := hX.below hb70
  replace hY := hY.below hb70
  replace hP := hP.below hb70
  replace hO := hO.below hb70
  replace hFt := hFt.below hb70
  replace B7 := B7.below hb70
  replace B8 := B8.below hb70
  replace B9 := B9.below hb70
  replace hbW : Below w.heap.size w u70 := hbW.trans (hb70.mono hbW.size)
  clear hb70 hFt
  rw [sgn_eq0.2 HM.out.2.2.2.2]
  clear p00 p01 p02 p10 p11 p12 p20 p21 p22
  obtain ⟨p00, p01, p02, _⟩ := B7.cells
  obtain ⟨p10, p11, p12, _⟩ := B8.cells
  obtain ⟨p20, p21, p22, _⟩ := B9.cells
  go_wp2_with fail
  refine hK.out _ _ ?_ (fun hHeld => ?_)
  · (try dsimp only)
    exact ⟨p00, p01, p02, p10, p11, p12, p20, p21, p22⟩
  clear hK K
  try simp only [Act.put, List.setIfInBounds_toArray, List.set_cons_zero, List.set_cons_succ]
  refine hTake (i := 29) (v := ?v27) rfl (by kernel_rfl) (by kernel_rfl) (by kernel_rfl) (fun _ _ _ h => h) (Or.inl ⟨by rfl, ?y27⟩) hHeld ?r27
  case y27 =>
    intro w9 hSw
    (try dsimp only at hSw)
    go_simp
    try with_reducible rfl
  try simp only [Act.put, List.setIfInBounds_toArray, List.set_cons_zero, List.set_cons_succ]
  refine hTake (i := 30) (v := ?v28) rfl (by kernel_rfl) (by kernel_rfl) (by kernel_rfl) (fun _ _ _ h => h) (Or.inl ⟨by rfl, ?y28⟩) hHeld ?r28
  case y28 =>
    intro w9 hSw
    (try dsimp only at hSw)
    go_simp
    try with_reducible rfl
  try simp only [Act.put, List.setIfInBounds_toArray, List.set_cons_zero, List.set_cons_succ]
  refine wpAnyH_done (by kernel_rfl) ?_ _
  clear hHeld hd1 hd2 hd3 HZ HZ0 HM HQA p00 p01 p02 p10 p11 p12 p20 p21 p22 B7 B8 B9 hX hY hO
  have HPU : Hid (Pz u70 a cap l) := hP
  clear hP
  go_wp2
  go_loopw [10] (fun i wr => ∃ k : Nat, k ≤ l.length ∧ i = .int .i64 k ∧ Below u70.heap.size u70 wr) (fun i _ => l.length - (intOf i).toNat)
  case atStart => exact ⟨0, Nat.zero_le _, rfl, Below.refl _ _⟩
  case round =>
    obtain ⟨k, hk, rfl, hB⟩ := hrel
    replace hbW : Below w.heap.size w wr := hbW.trans (hB.mono hbW.size)
    by_cases hkn : k < l.length
    · have HB : Hid (Below u70.heap.size u70 wr) := hB
      have hP := HPU.out.below hB
      obtain ⟨b, off, ea, C2⟩ := hP.one hkn
      have HAT : Hid (_) := beQ_at HF.out hkn
      have hin := frP_in HF.out hkn
      obtain ⟨s, hs⟩ : ∃ s, l.getD k (0, 0) = s := ⟨_, rfl⟩
      rw [hs] at C2 HAT hin
      clear hs hB
      obtain ⟨x, y⟩ := s
      dsimp only at C2 HAT hin
      subst ea
      have hk0 : (0 : Int) ≤ (k : Int) := by omega
      have hk1 : (k : Int) < (l.length : Int) := by omega
      obtain ⟨p00, p01⟩ := C2.cells
      go_wp2_with fail
      have hbR : Below wr.heap.size wr wr := Below.refl _ _
      refine wp_region_held_drew (S := (fun u => u.cell? ⟨b, (off + k * 2), none⟩ = some (.int .i64 x) ∧ u.cell? ⟨b, (off + k * 2 + 1), none⟩ = some (.int .i64 y))) (by kernel_rfl) ?_ (fun hHeld => ?_)
      · (try dsimp only)
        go_keep
      have hdr : Below wr.heap.size wr wr.drew := Below.drew1
      generalize wr.drew = ud29 at hdr hHeld ⊢
      replace hP := hP.below hdr
      replace C2 := C2.below hdr
      replace hbW : Below w.heap.size w ud29 := hbW.trans (hdr.mono hbW.size)
      replace hbR : Below wr.heap.size wr ud29 := hbR.trans (hdr.mono hbR.size)
      clear hdr
      clear p00 p01
      obtain ⟨p00, p01⟩ := C2.cells
      refine hTake (i := 0) (v := ?v30) rfl (by kernel_rfl) (by kernel_rfl) (by kernel_rfl) (fun _ _ _ h => h) (Or.inl ⟨by rfl, ?y30⟩) hHeld ?r30
      case y30 =>
        intro w9 hSw
        (try dsimp only at hSw)
        go_simp
        try with_reducible rfl
      try simp only [Act.put, List.setIfInBounds_toArray, List.set_cons_zero, List.set_cons_succ]
      refine hTake (i := 1) (v := ?v31) rfl (by kernel_rfl) (by kernel_rfl) (by kernel_rfl) (fun _ _ _ h => h) (Or.inl ⟨by rfl, ?y31⟩) hHeld ?r31
      case y31 =>
        intro w9 hSw
        (try dsimp only at hSw)
        go_simp
        try with_reducible rfl
      try simp only [Act.put, List.setIfInBounds_toArray, List.set_cons_zero, List.set_cons_succ]
      refine hTake (i := 2) (v := ?v32) rfl (by kernel_rfl) (by kernel_rfl) (by kernel_rfl) (fun _ _ _ h => h) (Or.inl ⟨by rfl, ?y32⟩) hHeld ?r32
      case y32 =>
        intro w9 hSw
        (try dsimp only at hSw)
        go_simp
        try with_reducible rfl
      try simp only [Act.put, List.setIfInBounds_toArray, List.set_cons_zero, List.set_cons_succ]
      refine hTake (i := 3) (v := ?v33) rfl (by kernel_rfl) (by kernel_rfl) (by kernel_rfl) (fun _ _ _ h => h) (Or.inl ⟨by rfl, ?y33⟩) hHeld ?r33
      case y33 =>
        intro w9 hSw
        (try dsimp only at hSw)
        go_simp
        try with_reducible rfl
      try simp only [Act.put, List.setIfInBounds_toArray, List.set_cons_zero, List.set_cons_succ]
      refine hTake (i := 4) (v := ?v34) rfl (by kernel_rfl) (by kernel_rfl) (by kernel_rfl) (fun _ _ _ h => h) (Or.inl ⟨by rfl, ?y34⟩) hHeld ?r34
      case y34 =>
        intro w9 hSw
        (try dsimp only at hSw)
        go_simp
        try with_reducible rfl
      try simp only [Act.put, List.setIfInBounds_toArray, List.set_cons_zero, List.set_cons_succ]
      refine hTake (i := 5) (v := ?v35) rfl (by kernel_rfl) (by kernel_rfl) (by kernel_rfl) (fun _ _ _ h => h) (Or.inl ⟨by rfl, ?y35⟩) hHeld ?r35
      case y35 =>
        intro w9 hSw
        (try dsimp only at hSw)
        go_simp
        try with_reducible rfl
      try simp only [Act.put, List.setIfInBounds_toArray, List.set_cons_zero, List.set_cons_succ]
      refine hTake (i := 8) (v := ?v36) rfl (by kernel_rfl) (by kernel_rfl) (by kernel_rfl) (fun _ _ _ h => h) (Or.inl ⟨by rfl, ?y36⟩) hHeld ?r36
      case y36 =>
        intro w9 hSw
        (try dsimp only at hSw)
        go_simp
        try with_reducible rfl
      try simp only [Act.put, List.setIfInBounds_toArray, List.set_cons_zero, List.set_cons_succ]
      refine hTake (i := 9) (v := ?v37) rfl (by kernel_rfl) (by kernel_rfl) (by kernel_rfl) (fun _ _ _ h => h) (Or.inl ⟨by rfl, ?y37⟩) hHeld ?r37
      case y37 =>
        intro w9 hSw
        (try dsimp only at hSw)
        go_simp
        try with_reducible rfl
      try simp only [Act.put, List.setIfInBounds_toArray, List.set_cons_zero, List.set_cons_succ]
      refine hTake (i := 10) (v := ?v38) rfl (by kernel_rfl) (by kernel_rfl) (by kernel_rfl) (fun _ _ _ h => h) (Or.inl ⟨by rfl, ?y38⟩) hHeld ?r38
      case y38 =>
        intro w9 hSw
        (try dsimp only at hSw)
        go_simp
        try with_reducible rfl
      try simp only [Act.put, List.setIfInBounds_toArray, List.set_cons_zero, List.set_cons_succ]
      refine hTake (i := 11) (v := ?v39) rfl (by kernel_rfl) (by kernel_rfl) (by kernel_rfl) (fun _ _ _ h => h) (Or.inl ⟨by rfl, ?y39⟩) hHeld ?r39
      case y39 =>
        intro w9 hSw
        (try dsimp only at hSw)
        go_simp
        try with_reducible rfl
      try simp only [Act.put, List.setIfInBounds_toArray, List.set_cons_zero, List.set_cons_succ]
      refine hTake (i := 12) (v := ?v40) rfl (by kernel_rfl) (by kernel_rfl) (by kernel_rfl) (fun _ _ _ h => h) (Or.inl ⟨by rfl, ?y40⟩) hHeld ?r40
      case y40 =>
        intro w9 hSw
        (try dsimp only at hSw)
        go_simp
        try with_reducible rfl
      try simp only [Act.put, List.setIfInBounds_toArray, List.set_cons_zero, List.set_cons_succ]
      refine hCall (i := 6) rfl (by kernel_rfl) (by rfl) (fun K hK => ?_)
      go_simp
      refine (of14_any x _ (by omega) (by omega)).mono ?_
      rintro e u81 ⟨v1, rfl, hF1, hb81⟩
      replace hP := hP.below hb81
      replace C2 := C2.below hb81
      replace hbW : Below w.heap.size w u81 := hbW.trans (hb81.mono hbW.size)
      replace hbR : Below wr.heap.size wr u81 := hbR.trans (hb81.mono hbR.size)
      clear hb81
      clear p00 p01
      obtain ⟨p00, p01⟩ := C2.cells
      go_wp2_with fail
      refine hK.out _ _ ?_ (fun hHeld => ?_)
      · (try dsimp only)
        exact ⟨p00, p01⟩
      clear hK K
      try simp only [Act.put, List.setIfInBounds_toArray, List.set_cons_zero, List.set_cons_succ]
      refine hCall (i := 7) rfl (by kernel_rfl) (by rfl) (fun K hK => ?_)
      go_simp
      refine (hbe 2 (((x : Int) : Rat) / ((16384 : Int) : Rat)) _ _ hP hF1.ct (by decide) (by decide)).mono ?_
      rintro e u82 ⟨v2, rfl, hF2, hb82⟩
      replace hP := hP.below hb82
      replace hF1 := hF1.below hb82
      replace C2 := C2.below hb82
      replace hbW : Below w.heap.size w u82 := hbW.trans (hb82.mono hbW.size)
      replace hbR : Below wr.heap.size wr u82 := hbR.trans (hb82.mono hbR.size)
      clear hb82
      clear p00 p01
      obtain ⟨p00, p01⟩ := C2.cells
      go_wp2_with fail
      refine hK.out _ _ ?_ (fun hHeld => ?_)
      · (try dsimp only)
        exact ⟨p00, p01⟩
      clear hK K
      try simp only [Act.put, List.setIfInBounds_toArray, List.set_cons_zero, List.set_cons_succ]
      refine hCall (i := 13) rfl (by kernel_rfl) (by rfl) (fun K hK => ?_)
      go_simp
      refine (of14_any y _ (by omega) (by omega)).mono ?_
      rintro e u83 ⟨v3, rfl, hF3, hb83⟩
      replace hP := hP.below hb83
      replace hF1 := hF1.below hb83
      replace hF2 := hF2.below hb83
      replace C2 := C2.below hb83
      replace hbW : Below w.heap.size w u83 := hbW.trans (hb83.mono hbW.size)
      replace hbR : Below wr.heap.size wr u83 := hbR.trans (hb83.mono hbR.size)
      clear hb83
      clear p00 p01
      obtain ⟨p00, p01⟩ := C2.cells
      go_wp2_with fail
      refine hK.out _ _ ?_ (fun hHeld => ?_)
      · (try dsimp only)
        exact ⟨p00, p01⟩
      clear hK K
      try simp only [Act.put, List.setIfInBounds_toArray, List.set_cons_zero, List.set_cons_succ]
      refine hCall (i := 14) rfl (by kernel_rfl) (by rfl) (fun K hK => ?_)
      go_simp
      refine (qcmp_any 10 2 _ _ _ _ _ hF2.ct hF3.ct (by decide) (by decide) (by decide) (by decide)).mono ?_
      rintro e u84 ⟨rfl, hb84⟩
      replace hP := hP.below hb84
      replace hF1 := hF1.below hb84
      replace hF2 := hF2.below hb84
      replace hF3 := hF3.below hb84
      replace C2 := C2.below hb84
      replace hbW : Below w.heap.size w u84 := hbW.trans (hb84.mono hbW.size)
      replace hbR : Below wr.heap.size wr u84 := hbR.trans (hb84.mono hbR.size)
      clear hb84
      rw [sgn_eq0.2 HAT.out]
      clear p00 p01
      obtain ⟨p00, p01⟩ := C2.cells
      go_wp2_with fail
      refine hK.out _ _ ?_ (fun hHeld => ?_)
      · (try dsimp only)
        exact ⟨p00, p01⟩
      clear hK K
      try simp only [Act.put, List.setIfInBounds_toArray, List.set_cons_zero, List.set_cons_succ]
      refine hTake (i := 15) (v := ?v41) rfl (by kernel_rfl) (by kernel_rfl) (by kernel_rfl) (fun _ _ _ h => h) (Or.inl ⟨by rfl, ?y41⟩) hHeld ?r41
      case y41 =>
        intro w9 hSw
        (try dsimp only at hSw)
        go_simp
        try with_reducible rfl
      try simp only [Act.put, List.setIfInBounds_toArray, List.set_cons_zero, List.set_cons_succ]
      refine wpAnyH_done (by kernel_rfl) ?_ _
      clear hHeld
      go_wp2
      go_roundw
      case rel => exact ⟨k + 1, by omega, by go_num, HB.out.trans (hbR.mono HB.out.size)⟩
      case measure => simp [intOf]; omega
    · have g1 : ¬ (k : Int) < (l.length : Int) := by omega
      go_wp2
      go_ret
      exact ⟨rfl, hbW⟩

end Go.Proofs.YtdholmnniccbcaaDoor
