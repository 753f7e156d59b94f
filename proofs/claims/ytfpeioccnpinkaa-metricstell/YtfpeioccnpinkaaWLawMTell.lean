/-
  foundrylaw16: the walk of a law.
-/
import Derived.Test.YtfpeioccnpinkaaZ19
import Derived.Test.YtfpeioccnpinkaaZ25
import Derived.Test.YtfpeioccnpinkaaZ16
namespace Go.Proofs.Ytfpeioccnpinkaa
open Go.RowKit Go.Maps
set_option linter.unusedSimpArgs false
set_option linter.unusedVariables false

theorem threeM {n h : Nat} {w U : World} {v0 v1 v2 : Value} (hb : Below n w U) (hlt : h < n) (hC : w.cell? ⟨h, 0, none⟩ = some v0 ∧ w.cell? ⟨h, 1, none⟩ = some v1 ∧ w.cell? ⟨h, 2, none⟩ = some v2) : U.cell? ⟨h, 0, none⟩ = some v0 ∧ U.cell? ⟨h, 1, none⟩ = some v1 ∧ U.cell? ⟨h, 2, none⟩ = some v2 :=
  ⟨(hb.cell (p := ⟨h, 0, none⟩) hlt).trans hC.1, (hb.cell (p := ⟨h, 1, none⟩) hlt).trans hC.2.1, (hb.cell (p := ⟨h, 2, none⟩) hlt).trans hC.2.2⟩

set_option maxHeartbeats 8000000 in
set_option maxRecDepth 100000 in
theorem metricsTell_any (S : Nat → Prop) (a : Option Addr) (ca : Nat) (l : List Mt) (ga : Option Addr) (gc : Nat) (ma : Option Addr) (mc : Nat) (s : Sr) (t : ByteArray) (pa : Option Addr) (pc : Nat) (cs : List Int) (w : World) (hl : Gr MtE S w a ca l) (hg : Tzz w ga gc s.rg) (hm : Rii w ma mc s.rw) (hp : Ri w pa pc cs) :
    Calls Try.prog 3 #[.agg #[.slice a l.length ca, .slice ga s.rg.length gc, .slice ma s.rw.length mc], .string t, .slice pa cs.length pc] w fun e w' => e = .returned (.bool true) ∧ Below w.heap.size w w' := by
  have kl := hl.lenB
  have kg := hg.lenB
  have km := hm.lenB
  obtain ⟨W, hW, X1, hbW⟩ : ∃ W, W = w.alloc (.cells #[.slice a l.length ca, .slice ga s.rg.length gc, .slice ma s.rw.length mc] 28) ∧ Bk 28 W w.heap.size [.slice a l.length ca, .slice ga s.rg.length gc, .slice ma s.rw.length mc] ∧ Below w.heap.size w W := ⟨_, rfl, Bk.new _ _ _, bl1 _⟩
  replace hl := hl.below hbW
  replace hg := hg.below hbW
  replace hm := hm.below hbW
  replace hp := hp.below hbW
  go_enter Try.func3, Try.ntmps3
  go_upto_region 1 with fail
  rw [← hW]
  clear hW
  obtain ⟨p0, p1, p2, -⟩ := X1.three
  go_wp2_with fail
  refine (awake16_any _).mono ?_
  rintro e y1 ⟨rfl, hb1⟩
  replace hl := hl.below hb1
  replace hg := hg.below hb1
  replace hm := hm.below hb1
  replace hp := hp.below hb1
  replace X1 := X1.below hb1
  replace hbW := hbW.trans (hb1.mono hbW.size)
  clear p0 p1 p2 hb1
  obtain ⟨p0, p1, p2, -⟩ := X1.three
  go_wp2_with fail
  refine (few16_any a ca l.length ga gc ma mc s _ kl hg hm).mono ?_
  rintro e y2 ⟨⟨q, rfl, HQ⟩, hb1⟩
  replace HQ : Hid (q = true → l.length ≤ 40 ∧ s.rg.length ≤ 20 ∧ ∀ l ∈ s.rg, l.length ≤ 8) := HQ
  replace hl := hl.below hb1
  replace hg := hg.below hb1
  replace hm := hm.below hb1
  replace hp := hp.below hb1
  replace X1 := X1.below hb1
  replace hbW := hbW.trans (hb1.mono hbW.size)
  clear p0 p1 p2 hb1
  obtain ⟨p0, p1, p2, -⟩ := X1.three
  cases q with
  | false =>
    go_wp2_with fail
    refine (awake16_any _).mono ?_
    rintro e uz ⟨rfl, hbz⟩
    have hfin := hbW.trans (hbz.mono hbW.size)
    clear hbz
    go_wp2
    go_ret
    exact ⟨rfl, hfin⟩
  | true =>
  have HQ2 : Hid (l.length ≤ 40 ∧ s.rg.length ≤ 20 ∧ ∀ l ∈ s.rg, l.length ≤ 8) := HQ.out rfl
  clear HQ
  have kp := hp.lenB
  by_cases hx6 : 20 < cs.length
  · have g1 : decide ((20 : Int) < (cs.length : Int)) = true := decide_eq_true (by omega)
    go_wp2_with fail
    refine (awake16_any _).mono ?_
    rintro e uz ⟨rfl, hbz⟩
    have hfin := hbW.trans (hbz.mono hbW.size)
    clear hbz
    go_wp2
    go_ret
    exact ⟨rfl, hfin⟩
  have g1 : decide ((20 : Int) < (cs.length : Int)) = false := decide_eq_false (by omega)
  have hv1 := mvalue_any S a ca l ga gc ma mc s t pa pc cs _ hl hg hm hp (Nat.le_trans HQ2.out.2.1 (by decide)) HQ2.out.2.2
  go_wp2_with fail
  refine hv1.mono ?_
  rintro e y3 ⟨rfl, hb1⟩
  clear hv1 g1
  replace hl := hl.below hb1
  replace hg := hg.below hb1
  replace hm := hm.below hb1
  replace hp := hp.below hb1
  replace X1 := X1.below hb1
  replace hbW := hbW.trans (hb1.mono hbW.size)
  clear p0 p1 p2 hb1
  obtain ⟨p0, p1, p2, -⟩ := X1.three
  have hv2 := svalueM_any S a ca l ga gc ma mc s t pa pc cs _ hl hg hm hp (Nat.le_trans HQ2.out.2.1 (by decide)) HQ2.out.2.2
  go_wp2_with fail
  refine hv2.mono ?_
  rintro e y4 ⟨rfl, hb1⟩
  clear hv2
  replace hl := hl.below hb1
  replace hg := hg.below hb1
  replace hm := hm.below hb1
  replace hp := hp.below hb1
  replace X1 := X1.below hb1
  replace hbW := hbW.trans (hb1.mono hbW.size)
  clear p0 p1 p2 hb1
  obtain ⟨p0, p1, p2, -⟩ := X1.three
  generalize vaMN l s t cs = z1 at *
  generalize vaME l s t cs = z2 at *
  have hc1 := fun U (hU : Below y4.heap.size y4 U) => mfind_any S a ca l t U (hl.below hU)
  have hc2 := fun U (hU : Below y4.heap.size y4 U) => sfindM_any S a ca l t U (hl.below hU)
  generalize fnM l t = z3 at *
  have hw0 : w.heap.size < y4.heap.size := X1.lt
  go_upto_region 5 with fail
  refine wp_region_held_drew (S := fun w9 => w9.cell? ⟨w.heap.size, 0, none⟩ = some (.slice a l.length ca) ∧ w9.cell? ⟨w.heap.size, 1, none⟩ = some (.slice ga s.rg.length gc) ∧ w9.cell? ⟨w.heap.size, 2, none⟩ = some (.slice ma s.rw.length mc)) (by kernel_rfl) ?_ (fun hHeld => ?_)
  · (try dsimp only)
    go_keep
  have hdr : Below y4.heap.size y4 y4.drew := Below.drew1
  generalize y4.drew = Z at hdr hHeld ⊢
  have HC0 : Hid (_) := And.intro p0 (And.intro p1 (p2))
  clear p0 p1 p2
  refine hT 0 hHeld ?_
  refine hT 1 hHeld ?_
  refine hT 2 hHeld ?_
  refine hT 3 hHeld ?_
  refine hT 4 hHeld ?_
  refine hT 5 hHeld ?_
  refine hT 6 hHeld ?_
  refine hT 7 hHeld ?_
  refine hT 8 hHeld ?_
  refine hT 9 hHeld ?_
  refine hT 10 hHeld ?_
  refine hT 11 hHeld ?_
  refine hT 13 hHeld ?_
  refine hT 14 hHeld ?_
  refine hT 15 hHeld ?_
  refine hCall (i := 12) rfl (by kernel_rfl) (by rfl) (fun K hK => ?_)
  go_simp
  refine (hc1 _ hdr).mono ?_
  rintro e u5 ⟨rfl, hu5⟩
  replace hdr := hdr.trans (hu5.mono hdr.size)
  clear hu5 hc1
  go_wp2_with fail
  refine hK.out _ _ ?_ (fun hHeld => ?_)
  · (try dsimp only)
    exact threeM hdr hw0 HC0.out
  clear hK K
  try simp only [Act.put, List.setIfInBounds_toArray, List.set_cons_zero, List.set_cons_succ]
  refine hCall (i := 16) rfl (by kernel_rfl) (by rfl) (fun K hK => ?_)
  go_simp
  refine (hc2 _ hdr).mono ?_
  rintro e u6 ⟨rfl, hu6⟩
  replace hdr := hdr.trans (hu6.mono hdr.size)
  clear hu6 hc2
  go_wp2_with fail
  refine hK.out _ _ ?_ (fun hHeld => ?_)
  · (try dsimp only)
    exact threeM hdr hw0 HC0.out
  clear hK K
  try simp only [Act.put, List.setIfInBounds_toArray, List.set_cons_zero, List.set_cons_succ]
  refine hT 17 hHeld ?_
  refine hT 18 hHeld ?_
  refine hT 19 hHeld ?_
  refine wpAnyH_done (by kernel_rfl) ?_ _
  have hfin := hbW.trans (hdr.mono hbW.size)
  clear hHeld HC0 hdr hbW
  go_wp2
  go_ret
  exact ⟨rfl, hfin⟩

end Go.Proofs.Ytfpeioccnpinkaa
