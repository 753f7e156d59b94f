/-
  foundrylaw17: the walk of a law.
-/
import Derived.Test.YtgambbmonbhpnaaZ6
import Derived.Test.YtgambbmonbhpnaaZ7
import Derived.Test.YtgambbmonbhpnaaZ11
import Derived.Test.YtgambbmonbhpnaaZ10
import Derived.Test.YtgambbmonbhpnaaZ12
import Derived.Test.YtgambbmonbhpnaaZ8
namespace Go.Proofs.Ytgambbmonbhpnaa
open Go.RowKit Go.Maps
set_option linter.unusedSimpArgs false
set_option linter.unusedVariables false

theorem twoK {n h : Nat} {w U : World} {v0 v1 : Value} (hb : Below n w U) (hlt : h < n) (hC : w.cell? ⟨h, 0, none⟩ = some v0 ∧ w.cell? ⟨h, 1, none⟩ = some v1) : U.cell? ⟨h, 0, none⟩ = some v0 ∧ U.cell? ⟨h, 1, none⟩ = some v1 :=
  ⟨(hb.cell (p := ⟨h, 0, none⟩) hlt).trans hC.1, (hb.cell (p := ⟨h, 1, none⟩) hlt).trans hC.2⟩

set_option maxHeartbeats 8000000 in
set_option maxRecDepth 100000 in
theorem charsBytes_any (S : Nat → Prop) (a : Option Addr) (ca : Nat) (l : List Rn) (pa : Option Addr) (pc : Nat) (xs : List Nat) (n0 n1 : Int) (w : World) (hl : Gr RnE S w a ca l) (hxs : Rb w pa pc xs) (hn0 : I64 n0) (hn1 : I64 n1) :
    Calls Try.prog 4 #[.slice a l.length ca, .slice pa xs.length pc, .agg #[.int .i64 n0, .int .i64 n1]] w fun e w' => e = .returned (.bool true) ∧ Below w.heap.size w w' := by
  have kl := hl.lenB
  obtain ⟨W, hW, X1, hbW⟩ : ∃ W, W = w.alloc (.cells #[.int .i64 n0, .int .i64 n1] 31) ∧ Bk 31 W w.heap.size [.int .i64 n0, .int .i64 n1] ∧ Below w.heap.size w W := ⟨_, rfl, Bk.new _ _ _, bl1 _⟩
  replace hl := hl.below hbW
  replace hxs := hxs.below hbW
  go_enter Try.func4, Try.ntmps4
  go_upto_region 1 with fail
  rw [← hW]
  clear hW
  obtain ⟨p0, p1, -⟩ := X1.two
  go_wp2_with fail
  refine (awake17_any _).mono ?_
  rintro e y1 ⟨rfl, hb1⟩
  replace hl := hl.below hb1
  replace hxs := hxs.below hb1
  replace X1 := X1.below hb1
  replace hbW := hbW.trans (hb1.mono hbW.size)
  clear p0 p1 hb1
  obtain ⟨p0, p1, -⟩ := X1.two
  have kx := hxs.le
  have kx2 := hxs.cap
  unfold maxLen at kx2
  by_cases hxg1 : 100 < l.length
  · have g1 : decide ((100 : Int) < (l.length : Int)) = true := decide_eq_true (by omega)
    go_wp2_with fail
    refine (awake17_any _).mono ?_
    rintro e uz ⟨rfl, hbz⟩
    have hfin := hbW.trans (hbz.mono hbW.size)
    clear hbz
    go_wp2
    go_ret
    exact ⟨rfl, hfin⟩
  have g1 : decide ((100 : Int) < (l.length : Int)) = false := decide_eq_false (by omega)
  by_cases hxg2 : 2000 < xs.length
  · have g2 : decide ((2000 : Int) < (xs.length : Int)) = true := decide_eq_true (by omega)
    go_wp2_with fail
    refine (awake17_any _).mono ?_
    rintro e uz ⟨rfl, hbz⟩
    have hfin := hbW.trans (hbz.mono hbW.size)
    clear hbz
    go_wp2
    go_ret
    exact ⟨rfl, hfin⟩
  have g2 : decide ((2000 : Int) < (xs.length : Int)) = false := decide_eq_false (by omega)
  have hcc := cwriteC_any S a ca l n0 _ hl hn0
  go_wp2_with fail
  refine hcc.mono ?_
  rintro e y3 ⟨a1, c1, rfl, hr1, hb1⟩
  clear hcc
  have hrd1 := hr1.rd
  clear hr1 g1 g2
  replace hl := hl.below hb1
  replace hxs := hxs.below hb1
  replace X1 := X1.below hb1
  replace hbW := hbW.trans (hb1.mono hbW.size)
  clear p0 p1 hb1
  obtain ⟨p0, p1, -⟩ := X1.two
  have hcc := swriteC_any S a ca l n0 _ hl hn0
  go_wp2_with fail
  refine hcc.mono ?_
  rintro e y4 ⟨a2, c2, rfl, hr2, hb1⟩
  clear hcc
  have hrd2 := hr2.rd
  clear hr2
  replace hl := hl.below hb1
  replace hxs := hxs.below hb1
  replace hrd1 := hrd1.below hb1
  replace X1 := X1.below hb1
  replace hbW := hbW.trans (hb1.mono hbW.size)
  clear p0 p1 hb1
  obtain ⟨p0, p1, -⟩ := X1.two
  have hcc := creadC_any pa pc xs n0 _ hxs hn0 (by omega)
  go_wp2_with fail
  refine hcc.mono ?_
  rintro e y5 ⟨a3, c3, rfl, hg3, hb1⟩
  clear hcc
  replace hl := hl.below hb1
  replace hxs := hxs.below hb1
  replace hrd1 := hrd1.below hb1
  replace hrd2 := hrd2.below hb1
  replace X1 := X1.below hb1
  replace hbW := hbW.trans (hb1.mono hbW.size)
  clear p0 p1 hb1
  obtain ⟨p0, p1, -⟩ := X1.two
  have hcc := sreadC_any pa pc xs n0 _ hxs hn0 (by omega)
  go_wp2_with fail
  refine hcc.mono ?_
  rintro e y6 ⟨a4, c4, rfl, hg4, hb1⟩
  clear hcc
  replace hl := hl.below hb1
  replace hxs := hxs.below hb1
  replace hrd1 := hrd1.below hb1
  replace hrd2 := hrd2.below hb1
  replace hg3 := hg3.below hb1
  replace X1 := X1.below hb1
  replace hbW := hbW.trans (hb1.mono hbW.size)
  clear p0 p1 hb1
  obtain ⟨p0, p1, -⟩ := X1.two
  have k5 := hg3.lenB
  have k6 := hrd1.le
  have k7 := hrd1.cap
  have k8 := hrd2.le
  have k9 := hrd2.cap
  unfold maxLen at k7 k9
  have hc1 := fun U (hU : Below y6.heap.size y6 U) => same8g_any a1 a2 c1 c2 (wrCB l n0) (wrCB l n0) U (hrd1.below hU) (hrd2.below hU)
  simp only [decide_true] at hc1
  have hc2 := fun U (hU : Below y6.heap.size y6 U) => ssameR17_any _ _ a3 c3 a4 c4 (rdCL xs n0) U (hg3.below hU) (hg4.below hU)
  have hc3 := fun U (hU : Below y6.heap.size y6 U) => cformC_any S a ca l n0 U (hl.below hU) hn0
  have hc4 := fun U (hU : Below y6.heap.size y6 U) => sformC_any S a ca l n0 U (hl.below hU) hn0
  have hc5 := fun U (hU : Below y6.heap.size y6 U) => cchars_any S a ca l n1 U (hl.below hU) hn1
  have hc6 := fun U (hU : Below y6.heap.size y6 U) => schars_any S a ca l n1 U (hl.below hU) hn1
  have hw0 : w.heap.size < y6.heap.size := X1.lt
  clear hrd1 hrd2 hg3 hg4
  generalize (wrCB l n0).length = m1 at *
  generalize (rdCL xs n0).length = m2 at *
  generalize wrCE l n0 = z1 at *
  generalize rdCE xs n0 = z2 at *
  generalize foC l n0 = fb at *
  generalize chC l n1 = ch at *
  go_upto_region 7 with fail
  refine wp_region_held_drew (S := fun w9 => w9.cell? ⟨w.heap.size, 0, none⟩ = some (.int .i64 n0) ∧ w9.cell? ⟨w.heap.size, 1, none⟩ = some (.int .i64 n1)) (by kernel_rfl) ?_ (fun hHeld => ?_)
  · (try dsimp only)
    go_keep
  have hdr : Below y6.heap.size y6 y6.drew := (Below.refl _ _).drew
  generalize y6.drew = Z at hdr hHeld ⊢
  have HC0 : Hid (_) := And.intro p0 (p1)
  clear p0 p1
  refine hT 0 hHeld ?_
  refine hT 1 hHeld ?_
  refine hT 2 hHeld ?_
  refine hT 3 hHeld ?_
  refine hT 4 hHeld ?_
  refine hT 5 hHeld ?_
  refine hCall (i := 6) rfl (by kernel_rfl) (by rfl) (fun K hK => ?_)
  go_simp
  refine (hc1 _ hdr).mono ?_
  rintro e v1 ⟨rfl, hv1⟩
  replace hdr := hdr.trans (hv1.mono hdr.size)
  clear hc1
  go_wp2_with fail
  refine hK.out _ _ ?_ (fun hHeld => ?_)
  · (try dsimp only)
    exact twoK hdr hw0 HC0.out
  clear hK K
  try simp only [Act.put, List.setIfInBounds_toArray, List.set_cons_zero, List.set_cons_succ]
  refine hT 7 hHeld ?_
  refine hT 8 hHeld ?_
  refine hT 9 hHeld ?_
  refine hT 10 hHeld ?_
  refine hT 11 hHeld ?_
  refine hT 12 hHeld ?_
  refine hT 13 hHeld ?_
  refine hT 14 hHeld ?_
  refine hT 15 hHeld ?_
  refine hCall (i := 16) rfl (by kernel_rfl) (by rfl) (fun K hK => ?_)
  go_simp
  refine (hc2 _ hdr).mono ?_
  rintro e v2 ⟨rfl, hv2⟩
  replace hdr := hdr.trans (hv2.mono hdr.size)
  clear hc2
  go_wp2_with fail
  refine hK.out _ _ ?_ (fun hHeld => ?_)
  · (try dsimp only)
    exact twoK hdr hw0 HC0.out
  clear hK K
  try simp only [Act.put, List.setIfInBounds_toArray, List.set_cons_zero, List.set_cons_succ]
  refine hT 17 hHeld ?_
  refine hT 18 hHeld ?_
  refine hT 19 hHeld ?_
  refine hT 20 hHeld ?_
  refine hT 21 hHeld ?_
  refine hT 23 hHeld ?_
  refine hT 24 hHeld ?_
  refine hT 25 hHeld ?_
  refine hCall (i := 22) rfl (by kernel_rfl) (by rfl) (fun K hK => ?_)
  go_simp
  refine (hc3 _ hdr).mono ?_
  rintro e v3 ⟨rfl, hv3⟩
  replace hdr := hdr.trans (hv3.mono hdr.size)
  clear hc3
  go_wp2_with fail
  refine hK.out _ _ ?_ (fun hHeld => ?_)
  · (try dsimp only)
    exact twoK hdr hw0 HC0.out
  clear hK K
  try simp only [Act.put, List.setIfInBounds_toArray, List.set_cons_zero, List.set_cons_succ]
  refine hCall (i := 26) rfl (by kernel_rfl) (by rfl) (fun K hK => ?_)
  go_simp
  refine (hc4 _ hdr).mono ?_
  rintro e v4 ⟨rfl, hv4⟩
  replace hdr := hdr.trans (hv4.mono hdr.size)
  clear hc4
  go_wp2_with fail
  refine hK.out _ _ ?_ (fun hHeld => ?_)
  · (try dsimp only)
    exact twoK hdr hw0 HC0.out
  clear hK K
  try simp only [Act.put, List.setIfInBounds_toArray, List.set_cons_zero, List.set_cons_succ]
  refine hT 27 hHeld ?_
  refine hT 28 hHeld ?_
  refine hT 29 hHeld ?_
  refine hT 30 hHeld ?_
  refine hT 31 hHeld ?_
  refine hT 32 hHeld ?_
  refine hT 34 hHeld ?_
  refine hT 35 hHeld ?_
  refine hT 36 hHeld ?_
  refine hCall (i := 33) rfl (by kernel_rfl) (by rfl) (fun K hK => ?_)
  go_simp
  refine (hc5 _ hdr).mono ?_
  rintro e v5 ⟨t5, rfl, hI5, hv5⟩
  obtain ⟨a5, d5, rfl, R5⟩ := hI5.slice
  clear hI5
  replace hdr := hdr.trans (hv5.mono hdr.size)
  clear hc5
  go_wp2_with fail
  refine hK.out _ _ ?_ (fun hHeld => ?_)
  · (try dsimp only)
    exact twoK hdr hw0 HC0.out
  clear hK K
  try simp only [Act.put, List.setIfInBounds_toArray, List.set_cons_zero, List.set_cons_succ]
  refine hCall (i := 37) rfl (by kernel_rfl) (by rfl) (fun K hK => ?_)
  go_simp
  refine (hc6 _ hdr).mono ?_
  rintro e v6 ⟨t6, rfl, hI6, hv6⟩
  obtain ⟨a6, d6, rfl, R6⟩ := hI6.slice
  replace R5 := R5.below hv6
  clear hI6
  replace hdr := hdr.trans (hv6.mono hdr.size)
  clear hc6
  go_wp2_with fail
  refine hK.out _ _ ?_ (fun hHeld => ?_)
  · (try dsimp only)
    exact twoK hdr hw0 HC0.out
  clear hK K
  try simp only [Act.put, List.setIfInBounds_toArray, List.set_cons_zero, List.set_cons_succ]
  have hc7 := ssameI_any a5 a6 d5 d6 ch _ R5 R6
  refine hCall (i := 38) rfl (by kernel_rfl) (by rfl) (fun K hK => ?_)
  go_simp
  refine hc7.mono ?_
  rintro e v7 ⟨rfl, hv7⟩
  replace hdr := hdr.trans (hv7.mono hdr.size)
  clear hc7 R5 R6
  go_wp2_with fail
  refine hK.out _ _ ?_ (fun hHeld => ?_)
  · (try dsimp only)
    exact twoK hdr hw0 HC0.out
  clear hK K
  try simp only [Act.put, List.setIfInBounds_toArray, List.set_cons_zero, List.set_cons_succ]
  refine hT 39 hHeld ?_
  refine hT 40 hHeld ?_
  refine wpAnyH_done (by kernel_rfl) ?_ _
  have hfin := hbW.trans (hdr.mono hbW.size)
  clear hHeld HC0 hdr hbW
  go_wp2
  go_ret
  exact ⟨rfl, hfin⟩

end Go.Proofs.Ytgambbmonbhpnaa
