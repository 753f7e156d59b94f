/-
  foundrylaw16: the walk of a law.
-/
import Derived.Test.YtfpeioccnpinkaaZ19
import Derived.Test.YtfpeioccnpinkaaZ29
import Derived.Test.YtfpeioccnpinkaaZ30
import Derived.Test.YtfpeioccnpinkaaZ16
namespace Go.Proofs.Ytfpeioccnpinkaa
open Go.RowKit Go.Maps
set_option linter.unusedSimpArgs false
set_option linter.unusedVariables false

theorem threeM {n h : Nat} {w U : World} {v0 v1 v2 : Value} (hb : Below n w U) (hlt : h < n) (hC : w.cell? ⟨h, 0, none⟩ = some v0 ∧ w.cell? ⟨h, 1, none⟩ = some v1 ∧ w.cell? ⟨h, 2, none⟩ = some v2) : U.cell? ⟨h, 0, none⟩ = some v0 ∧ U.cell? ⟨h, 1, none⟩ = some v1 ∧ U.cell? ⟨h, 2, none⟩ = some v2 :=
  ⟨(hb.cell (p := ⟨h, 0, none⟩) hlt).trans hC.1, (hb.cell (p := ⟨h, 1, none⟩) hlt).trans hC.2.1, (hb.cell (p := ⟨h, 2, none⟩) hlt).trans hC.2.2⟩

set_option maxHeartbeats 8000000 in
set_option maxRecDepth 100000 in
theorem metricsBytes_any (S : Nat → Prop) (a : Option Addr) (ca : Nat) (l : List Mt) (ga : Option Addr) (gc : Nat) (ma : Option Addr) (mc : Nat) (s : Sr) (pa : Option Addr) (pc : Nat) (xs : List Nat) (w : World) (hl : Gr MtE S w a ca l) (hg : Tzz w ga gc s.rg) (hm : Rii w ma mc s.rw) (hxs : Rb w pa pc xs) :
    Calls Try.prog 4 #[.agg #[.slice a l.length ca, .slice ga s.rg.length gc, .slice ma s.rw.length mc], .slice pa xs.length pc] w fun e w' => e = .returned (.bool true) ∧ Below w.heap.size w w' := by
  have kl := hl.lenB
  have kg := hg.lenB
  have km := hm.lenB
  obtain ⟨W, hW, X1, hbW⟩ : ∃ W, W = w.alloc (.cells #[.slice a l.length ca, .slice ga s.rg.length gc, .slice ma s.rw.length mc] 28) ∧ Bk 28 W w.heap.size [.slice a l.length ca, .slice ga s.rg.length gc, .slice ma s.rw.length mc] ∧ Below w.heap.size w W := ⟨_, rfl, Bk.new _ _ _, bl1 _⟩
  replace hl := hl.below hbW
  replace hg := hg.below hbW
  replace hm := hm.below hbW
  replace hxs := hxs.below hbW
  go_enter Try.func4, Try.ntmps4
  go_upto_region 1 with fail
  rw [← hW]
  clear hW
  obtain ⟨p0, p1, p2, -⟩ := X1.three
  go_wp2_with fail
  refine (awake16_any _).mono ?_
  rintro e y1 ⟨rfl, hb1⟩
  replace hl := hl.below hb1
  replace hg := hg.below hb1
  replace hm := hm.below hb1
  replace hxs := hxs.below hb1
  replace X1 := X1.below hb1
  replace hbW := hbW.trans (hb1.mono hbW.size)
  clear p0 p1 p2 hb1
  obtain ⟨p0, p1, p2, -⟩ := X1.three
  go_wp2_with fail
  refine (few16_any a ca l.length ga gc ma mc s _ kl hg hm).mono ?_
  rintro e y2 ⟨⟨q, rfl, HQ⟩, hb1⟩
  replace HQ : Hid (q = true → l.length ≤ 40 ∧ s.rg.length ≤ 20 ∧ ∀ l ∈ s.rg, l.length ≤ 8) := HQ
  replace hl := hl.below hb1
  replace hg := hg.below hb1
  replace hm := hm.below hb1
  replace hxs := hxs.below hb1
  replace X1 := X1.below hb1
  replace hbW := hbW.trans (hb1.mono hbW.size)
  clear p0 p1 p2 hb1
  obtain ⟨p0, p1, p2, -⟩ := X1.three
  cases q with
  | false =>
    go_wp2_with fail
    refine (awake16_any _).mono ?_
    rintro e uz ⟨rfl, hbz⟩
    have hfin := hbW.trans (hbz.mono hbW.size)
    clear hbz
    go_wp2
    go_ret
    exact ⟨rfl, hfin⟩
  | true =>
  have HQ2 : Hid (l.length ≤ 40 ∧ s.rg.length ≤ 20 ∧ ∀ l ∈ s.rg, l.length ≤ 8) := HQ.out rfl
  clear HQ
  have kx := hxs.le
  have kx2 := hxs.cap
  unfold maxLen at kx2
  by_cases hx6 : 1000 < xs.length
  · have g1 : decide ((1000 : Int) < (xs.length : Int)) = true := decide_eq_true (by omega)
    go_wp2_with fail
    refine (awake16_any _).mono ?_
    rintro e uz ⟨rfl, hbz⟩
    have hfin := hbW.trans (hbz.mono hbW.size)
    clear hbz
    go_wp2
    go_ret
    exact ⟨rfl, hfin⟩
  have g1 : decide ((1000 : Int) < (xs.length : Int)) = false := decide_eq_false (by omega)
  have hw1 := mwrite_any S a ca l ga gc ma mc s _ hl km
  go_wp2_with fail
  refine hw1.mono ?_
  rintro e y3 ⟨a1, c1, rfl, hr1, hb1⟩
  have hrd1 := hr1.rd
  clear hw1 hr1 g1
  replace hl := hl.below hb1
  replace hg := hg.below hb1
  replace hm := hm.below hb1
  replace hxs := hxs.below hb1
  replace X1 := X1.below hb1
  replace hbW := hbW.trans (hb1.mono hbW.size)
  clear p0 p1 p2 hb1
  obtain ⟨p0, p1, p2, -⟩ := X1.three
  have hw2 := swriteM_any S a ca l ga gc ma mc s _ hl km
  go_wp2_with fail
  refine hw2.mono ?_
  rintro e y4 ⟨a2, c2, rfl, hr2, hb1⟩
  have hrd2 := hr2.rd
  clear hw2 hr2
  replace hl := hl.below hb1
  replace hg := hg.below hb1
  replace hm := hm.below hb1
  replace hxs := hxs.below hb1
  replace hrd1 := hrd1.below hb1
  replace X1 := X1.below hb1
  replace hbW := hbW.trans (hb1.mono hbW.size)
  clear p0 p1 p2 hb1
  obtain ⟨p0, p1, p2, -⟩ := X1.three
  have hr3 := mread_any pa pc xs ga gc ma mc s _ hxs km (by omega)
  go_wp2_with fail
  refine hr3.mono ?_
  rintro e y5 ⟨a3, c3, rfl, hg3, hb1⟩
  clear hr3
  replace hl := hl.below hb1
  replace hg := hg.below hb1
  replace hm := hm.below hb1
  replace hxs := hxs.below hb1
  replace hrd1 := hrd1.below hb1
  replace hrd2 := hrd2.below hb1
  replace X1 := X1.below hb1
  replace hbW := hbW.trans (hb1.mono hbW.size)
  clear p0 p1 p2 hb1
  obtain ⟨p0, p1, p2, -⟩ := X1.three
  have hr4 := sreadM_any pa pc xs ga gc ma mc s _ hxs km (by omega)
  go_wp2_with fail
  refine hr4.mono ?_
  rintro e y6 ⟨a4, c4, rfl, hg4, hb1⟩
  clear hr4
  replace hl := hl.below hb1
  replace hg := hg.below hb1
  replace hm := hm.below hb1
  replace hxs := hxs.below hb1
  replace hrd1 := hrd1.below hb1
  replace hrd2 := hrd2.below hb1
  replace hg3 := hg3.below hb1
  replace X1 := X1.below hb1
  replace hbW := hbW.trans (hb1.mono hbW.size)
  clear p0 p1 p2 hb1
  obtain ⟨p0, p1, p2, -⟩ := X1.three
  have k5 := hg3.lenB
  have k6 := hrd1.le
  have k7 := hrd1.cap
  have k8 := hrd2.le
  have k9 := hrd2.cap
  unfold maxLen at k7 k9
  have hc1 := fun U (hU : Below y6.heap.size y6 U) => same8g_any a1 a2 c1 c2 (wrMB l s) (wrMB l s) U (hrd1.below hU) (hrd2.below hU)
  simp only [decide_true] at hc1
  have hc2 := fun U (hU : Below y6.heap.size y6 U) => ssameM_any _ _ a3 c3 a4 c4 (rdML xs s) U (hg3.below hU) (hg4.below hU)
  have hc3 := fun U (hU : Below y6.heap.size y6 U) => mform_any S a ca l ga gc ma mc s U (hl.below hU) km
  have hc4 := fun U (hU : Below y6.heap.size y6 U) => sformM_any S a ca l ga gc ma mc s U (hl.below hU) km
  have hw0 : w.heap.size < y6.heap.size := X1.lt
  clear hrd1 hrd2 hg3 hg4
  generalize (wrMB l s).length = n1 at *
  generalize (rdML xs s).length = n2 at *
  generalize wrME l s = z1 at *
  generalize rdME xs s = z2 at *
  generalize foM l s = fb at *
  go_upto_region 7 with fail
  refine wp_region_held_drew (S := fun w9 => w9.cell? ⟨w.heap.size, 0, none⟩ = some (.slice a l.length ca) ∧ w9.cell? ⟨w.heap.size, 1, none⟩ = some (.slice ga s.rg.length gc) ∧ w9.cell? ⟨w.heap.size, 2, none⟩ = some (.slice ma s.rw.length mc)) (by kernel_rfl) ?_ (fun hHeld => ?_)
  · (try dsimp only)
    go_keep
  have hdr : Below y6.heap.size y6 y6.drew := Below.drew1
  generalize y6.drew = Z at hdr hHeld ⊢
  have HC0 : Hid (_) := And.intro p0 (And.intro p1 (p2))
  clear p0 p1 p2
  refine hT 0 hHeld ?_
  refine hT 1 hHeld ?_
  refine hT 2 hHeld ?_
  refine hT 3 hHeld ?_
  refine hT 4 hHeld ?_
  refine hT 5 hHeld ?_
  refine hCall (i := 6) rfl (by kernel_rfl) (by rfl) (fun K hK => ?_)
  go_simp
  refine (hc1 _ hdr).mono ?_
  rintro e v1 ⟨rfl, hv1⟩
  replace hdr := hdr.trans (hv1.mono hdr.size)
  clear hv1 hc1
  go_wp2_with fail
  refine hK.out _ _ ?_ (fun hHeld => ?_)
  · (try dsimp only)
    exact threeM hdr hw0 HC0.out
  clear hK K
  try simp only [Act.put, List.setIfInBounds_toArray, List.set_cons_zero, List.set_cons_succ]
  refine hT 7 hHeld ?_
  refine hT 8 hHeld ?_
  refine hT 9 hHeld ?_
  refine hT 10 hHeld ?_
  refine hT 11 hHeld ?_
  refine hT 12 hHeld ?_
  refine hT 13 hHeld ?_
  refine hT 14 hHeld ?_
  refine hT 15 hHeld ?_
  refine hCall (i := 16) rfl (by kernel_rfl) (by rfl) (fun K hK => ?_)
  go_simp
  refine (hc2 _ hdr).mono ?_
  rintro e v2 ⟨rfl, hv2⟩
  replace hdr := hdr.trans (hv2.mono hdr.size)
  clear hv2 hc2
  go_wp2_with fail
  refine hK.out _ _ ?_ (fun hHeld => ?_)
  · (try dsimp only)
    exact threeM hdr hw0 HC0.out
  clear hK K
  try simp only [Act.put, List.setIfInBounds_toArray, List.set_cons_zero, List.set_cons_succ]
  refine hT 17 hHeld ?_
  refine hT 18 hHeld ?_
  refine hT 19 hHeld ?_
  refine hT 20 hHeld ?_
  refine hT 21 hHeld ?_
  refine hT 22 hHeld ?_
  refine hT 24 hHeld ?_
  refine hT 25 hHeld ?_
  refine hT 26 hHeld ?_
  refine hT 27 hHeld ?_
  refine hCall (i := 23) rfl (by kernel_rfl) (by rfl) (fun K hK => ?_)
  go_simp
  refine (hc3 _ hdr).mono ?_
  rintro e v3 ⟨rfl, hv3⟩
  replace hdr := hdr.trans (hv3.mono hdr.size)
  clear hv3 hc3
  go_wp2_with fail
  refine hK.out _ _ ?_ (fun hHeld => ?_)
  · (try dsimp only)
    exact threeM hdr hw0 HC0.out
  clear hK K
  try simp only [Act.put, List.setIfInBounds_toArray, List.set_cons_zero, List.set_cons_succ]
  refine hCall (i := 28) rfl (by kernel_rfl) (by rfl) (fun K hK => ?_)
  go_simp
  refine (hc4 _ hdr).mono ?_
  rintro e v4 ⟨rfl, hv4⟩
  replace hdr := hdr.trans (hv4.mono hdr.size)
  clear hv4 hc4
  go_wp2_with fail
  refine hK.out _ _ ?_ (fun hHeld => ?_)
  · (try dsimp only)
    exact threeM hdr hw0 HC0.out
  clear hK K
  try simp only [Act.put, List.setIfInBounds_toArray, List.set_cons_zero, List.set_cons_succ]
  refine hT 29 hHeld ?_
  refine hT 30 hHeld ?_
  refine hT 31 hHeld ?_
  refine wpAnyH_done (by kernel_rfl) ?_ _
  have hfin := hbW.trans (hdr.mono hbW.size)
  clear hHeld HC0 hdr hbW
  go_wp2
  go_ret
  exact ⟨rfl, hfin⟩

end Go.Proofs.Ytfpeioccnpinkaa
