/-
  foundrylaw18.StrokesDraw: the walk (written by mk_dlaw.py).
-/
import Derived.Test.YtkbbdkecillnpaaGreatZD26
import Derived.Test.YtkbbdkecillnpaaGreatZD36
import Derived.Test.YtkbbdkecillnpaaGreatZD37
namespace Go.Proofs.YtkbbdkecillnpaaGreat
open Go.RowKit Go.Maps
set_option linter.unusedSimpArgs false
set_option linter.unusedVariables false

set_option maxHeartbeats 8000000 in
set_option maxRecDepth 100000 in
theorem strokesDraw_any (S : Nat → Prop) (a : Option Addr) (ca : Nat) (l : List (List Sp)) (ga : Option Addr) (gc : Nat) (ma : Option Addr) (mc : Nat) (s : Sr) (n : Int) (pa : Option Addr) (pc : Nat) (cs : List Int) (w : World) (hl : Gr SpE.row S w a ca l) (hg : Tzz w ga gc s.rg) (hm : Rii w ma mc s.rw) (hp : Ri w pa pc cs) (hn : I64 n) :
    Calls Tryz.prog 3 #[.agg #[.slice a l.length ca, .slice ga s.rg.length gc, .slice ma s.rw.length mc], .int .i64 n, .slice pa cs.length pc] w fun e w' => e = .returned (.bool true) ∧ Below w.heap.size w w' := by
  have kl := hl.lenB
  have kg := hg.lenB
  have km := hm.lenB
  obtain ⟨W, hW, X1, hbW⟩ : ∃ W, W = w.alloc (.cells #[.slice a l.length ca, .slice ga s.rg.length gc, .slice ma s.rw.length mc] 28) ∧ Bk 28 W w.heap.size [.slice a l.length ca, .slice ga s.rg.length gc, .slice ma s.rw.length mc] ∧ Below w.heap.size w W := ⟨_, rfl, Bk.new _ _ _, bl1 _⟩
  replace hl := hl.below hbW
  replace hg := hg.below hbW
  replace hm := hm.below hbW
  replace hp := hp.below hbW
  have kp := hp.lenB
  go_enter Tryz.func3, Tryz.ntmps3
  go_upto_region 1 with fail
  rw [← hW]
  clear hW
  obtain ⟨p0, p1, p2, -⟩ := X1.three
  go_wp2_with fail
  refine (awake18_any _).mono ?_
  rintro e y1 ⟨rfl, hb1⟩
  replace hl := hl.below hb1
  replace hg := hg.below hb1
  replace hm := hm.below hb1
  replace hp := hp.below hb1
  replace X1 := X1.below hb1
  replace hbW := hbW.trans (hb1.mono hbW.size)
  clear p0 p1 p2 hb1
  obtain ⟨p0, p1, p2, -⟩ := X1.three
  go_wp2_with fail
  refine (few18_any S a ca l ga gc ma mc s pa cs.length pc _ hl hg hm kp).mono ?_
  rintro e y2 ⟨⟨⟨q, rfl, HQ⟩⟩, hb1⟩
  replace HQ : Hid (q = true → s.rg.length ≤ 40 ∧ ∀ l ∈ s.rg, l.length ≤ 8) := HQ
  replace hl := hl.below hb1
  replace hg := hg.below hb1
  replace hm := hm.below hb1
  replace hp := hp.below hb1
  replace X1 := X1.below hb1
  replace hbW := hbW.trans (hb1.mono hbW.size)
  clear p0 p1 p2 hb1
  obtain ⟨p0, p1, p2, -⟩ := X1.three
  cases q with
  | false =>
    go_wp2_with fail
    refine (awake18_any _).mono ?_
    rintro e uz ⟨rfl, hbz⟩
    have hfin := hbW.trans (hbz.mono hbW.size)
    clear hbz
    go_wp2
    go_ret
    exact ⟨rfl, hfin⟩
  | true =>
  obtain ⟨h40, h8⟩ := HQ.out rfl
  have H8 : Hid (∀ l ∈ s.rg, l.length ≤ 8) := h8
  clear HQ h8
  have hq := atD_any S a ca l ga gc ma mc s n pa pc cs _ hl hg hm hp hn h40 H8.out
  go_wp2_with fail
  refine hq.mono ?_
  rintro e y3 ⟨a1, c1, rfl, hg1, hb1⟩
  clear hq
  replace hl := hl.below hb1
  replace hg := hg.below hb1
  replace hm := hm.below hb1
  replace hp := hp.below hb1
  replace X1 := X1.below hb1
  replace hbW := hbW.trans (hb1.mono hbW.size)
  clear p0 p1 p2 hb1
  obtain ⟨p0, p1, p2, -⟩ := X1.three
  have hq := satD_any S a ca l ga gc ma mc s n pa pc cs _ hl hg hm hp hn h40 H8.out
  go_wp2_with fail
  refine hq.mono ?_
  rintro e y4 ⟨a2, c2, rfl, hg2, hb1⟩
  clear hq
  replace hl := hl.below hb1
  replace hg := hg.below hb1
  replace hm := hm.below hb1
  replace hp := hp.below hb1
  replace hg1 := hg1.below hb1
  replace X1 := X1.below hb1
  replace hbW := hbW.trans (hb1.mono hbW.size)
  clear p0 p1 p2 hb1
  obtain ⟨p0, p1, p2, -⟩ := X1.three
  have k1 := hg1.lenB
  obtain ⟨al, hal⟩ : ∃ b, atDL (fiS s) (RS s cs) l n = b := ⟨_, rfl⟩
  rw [hal] at hg1 hg2 k1 ⊢
  generalize atDE (fiS s) (RS s cs) l n = ae at *
  have g3 : (ae == ae) = true := by simp
  clear hal
  go_upto_region 5 with fail
  refine wp_region_held_drew (S := fun w9 => (w9.cell? ⟨w.heap.size, 0, none⟩ = some (.slice a l.length ca) ∧ w9.cell? ⟨w.heap.size, 1, none⟩ = some (.slice ga s.rg.length gc)) ∧ w9.cell? ⟨w.heap.size, 2, none⟩ = some (.slice ma s.rw.length mc)) (by kernel_rfl) ?_ (fun hHeld => ?_)
  · (try dsimp only)
    go_keep
  have hdr : Below y4.heap.size y4 y4.drew := Below.drew1
  generalize y4.drew = Z at hdr hHeld ⊢
  replace hl := hl.below hdr
  replace hg1 := hg1.below hdr
  replace hg2 := hg2.below hdr
  replace X1 := X1.below hdr
  replace hbW := hbW.trans (hdr.mono hbW.size)
  have hsc := ssameC18_any _ _ a1 c1 a2 c2 al Z hg1 hg2
  clear hdr p0 p1 p2 hg hm hp
  refine hT 0 hHeld ?_
  refine hT 1 hHeld ?_
  refine hT 2 hHeld ?_
  refine hT 3 hHeld ?_
  refine hT 4 hHeld ?_
  refine hT 5 hHeld ?_
  refine hCall (i := 6) rfl (by kernel_rfl) (by rfl) (fun K hK => ?_)
  go_simp
  refine (hsc).mono ?_
  rintro e y5 ⟨rfl, hb1⟩
  replace hl := hl.below hb1
  replace X1 := X1.below hb1
  replace hbW := hbW.trans (hb1.mono hbW.size)
  go_wp2_with fail
  refine hK.out _ _ ?_ (fun hHeld => ?_)
  · (try dsimp only)
    exact ⟨⟨X1.three.1, X1.three.2.1⟩, X1.three.2.2.1⟩
  clear hK K
  try simp only [Act.put, List.setIfInBounds_toArray, List.set_cons_zero, List.set_cons_succ]
  clear hsc hb1 hg1 hg2
  refine hT 7 hHeld ?_
  refine hT 8 hHeld ?_
  refine hT 9 hHeld ?_
  refine hT 10 hHeld ?_
  refine hT 11 hHeld ?_
  refine hT 12 hHeld ?_
  refine hT 14 hHeld ?_
  refine hT 15 hHeld ?_
  refine hT 16 hHeld ?_
  refine hT 17 hHeld ?_
  have hf1 := formD_any S a ca l ga gc ma mc s y5 hl km
  generalize hfo : foD (fiS s) l = fo at *
  refine hCall (i := 13) rfl (by kernel_rfl) (by rfl) (fun K hK => ?_)
  go_simp
  refine (hf1).mono ?_
  rintro e y6 ⟨rfl, hb1⟩
  replace hl := hl.below hb1
  replace X1 := X1.below hb1
  replace hbW := hbW.trans (hb1.mono hbW.size)
  go_wp2_with fail
  refine hK.out _ _ ?_ (fun hHeld => ?_)
  · (try dsimp only)
    exact ⟨⟨X1.three.1, X1.three.2.1⟩, X1.three.2.2.1⟩
  clear hK K
  try simp only [Act.put, List.setIfInBounds_toArray, List.set_cons_zero, List.set_cons_succ]
  clear hf1 hb1
  have hf2 := sformD_any S a ca l ga gc ma mc s y6 hl km kg
  rw [hfo] at hf2
  clear hfo
  refine hCall (i := 18) rfl (by kernel_rfl) (by rfl) (fun K hK => ?_)
  go_simp
  refine (hf2).mono ?_
  rintro e y7 ⟨rfl, hb1⟩
  replace hl := hl.below hb1
  replace X1 := X1.below hb1
  replace hbW := hbW.trans (hb1.mono hbW.size)
  go_wp2_with fail
  refine hK.out _ _ ?_ (fun hHeld => ?_)
  · (try dsimp only)
    exact ⟨⟨X1.three.1, X1.three.2.1⟩, X1.three.2.2.1⟩
  clear hK K
  try simp only [Act.put, List.setIfInBounds_toArray, List.set_cons_zero, List.set_cons_succ]
  clear hf2 hb1
  have g9 : (fo == fo) = true := by simp
  refine hT 19 hHeld ?_
  refine hT 20 hHeld ?_
  refine hT 21 hHeld ?_
  refine wpAnyH_done (by kernel_rfl) ?_ _
  clear hHeld X1 hl
  go_wp2
  go_ret
  exact ⟨rfl, hbW⟩

end Go.Proofs.YtkbbdkecillnpaaGreat
