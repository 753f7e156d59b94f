/-
  foundrylaw18.StrokesBakes: the walk (written by mk_dlaw.py).
-/
import Derived.Test.YtkbbdkecillnpaaGreatZK26
import Derived.Test.YtkbbdkecillnpaaGreatZK27
import Derived.Test.YtkbbdkecillnpaaGreatZK36
import Derived.Test.YtkbbdkecillnpaaGreatZK37
namespace Go.Proofs.YtkbbdkecillnpaaGreat
open Go.RowKit Go.Maps
set_option linter.unusedSimpArgs false
set_option linter.unusedVariables false

set_option maxHeartbeats 8000000 in
set_option maxRecDepth 100000 in
theorem strokesBakes_any (S : Nat → Prop) (a : Option Addr) (ca : Nat) (l : List (List Sp)) (ga : Option Addr) (gc : Nat) (ma : Option Addr) (mc : Nat) (s : Sr) (pa : Option Addr) (pc : Nat) (cs : List Int) (w : World) (hl : Gr SpE.row S w a ca l) (hg : Tzz w ga gc s.rg) (hm : Rii w ma mc s.rw) (hp : Ri w pa pc cs) :
    Calls Tryz.prog 4 #[.agg #[.slice a l.length ca, .slice ga s.rg.length gc, .slice ma s.rw.length mc], .slice pa cs.length pc] w fun e w' => e = .returned (.bool true) ∧ Below w.heap.size w w' := by
  have kl := hl.lenB
  have kg := hg.lenB
  have km := hm.lenB
  obtain ⟨W, hW, X1, hbW⟩ : ∃ W, W = w.alloc (.cells #[.slice a l.length ca, .slice ga s.rg.length gc, .slice ma s.rw.length mc] 28) ∧ Bk 28 W w.heap.size [.slice a l.length ca, .slice ga s.rg.length gc, .slice ma s.rw.length mc] ∧ Below w.heap.size w W := ⟨_, rfl, Bk.new _ _ _, bl1 _⟩
  replace hl := hl.below hbW
  replace hg := hg.below hbW
  replace hm := hm.below hbW
  replace hp := hp.below hbW
  have kp := hp.lenB
  go_enter Tryz.func4, Tryz.ntmps4
  go_upto_region 1 with fail
  rw [← hW]
  clear hW
  obtain ⟨p0, p1, p2, -⟩ := X1.three
  go_wp2_with fail
  refine (awake18_any _).mono ?_
  rintro e y1 ⟨rfl, hb1⟩
  replace hl := hl.below hb1
  replace hg := hg.below hb1
  replace hm := hm.below hb1
  replace hp := hp.below hb1
  replace X1 := X1.below hb1
  replace hbW := hbW.trans (hb1.mono hbW.size)
  clear p0 p1 p2 hb1
  obtain ⟨p0, p1, p2, -⟩ := X1.three
  go_wp2_with fail
  refine (few18_any S a ca l ga gc ma mc s pa cs.length pc _ hl hg hm kp).mono ?_
  rintro e y2 ⟨⟨⟨q, rfl, HQ⟩⟩, hb1⟩
  replace HQ : Hid (q = true → s.rg.length ≤ 40 ∧ ∀ l ∈ s.rg, l.length ≤ 8) := HQ
  replace hl := hl.below hb1
  replace hg := hg.below hb1
  replace hm := hm.below hb1
  replace hp := hp.below hb1
  replace X1 := X1.below hb1
  replace hbW := hbW.trans (hb1.mono hbW.size)
  clear p0 p1 p2 hb1
  obtain ⟨p0, p1, p2, -⟩ := X1.three
  cases q with
  | false =>
    go_wp2_with fail
    refine (awake18_any _).mono ?_
    rintro e uz ⟨rfl, hbz⟩
    have hfin := hbW.trans (hbz.mono hbW.size)
    clear hbz
    go_wp2
    go_ret
    exact ⟨rfl, hfin⟩
  | true =>
  obtain ⟨h40, h8⟩ := HQ.out rfl
  have H8 : Hid (∀ l ∈ s.rg, l.length ≤ 8) := h8
  clear HQ h8
  have hq := bake_any S a ca l ga gc ma mc s pa pc cs _ hl hg hm hp h40 H8.out
  go_wp2_with fail
  refine hq.mono ?_
  rintro e y3 ⟨a1, c1, rfl, hg1, hb1⟩
  clear hq
  replace hl := hl.below hb1
  replace hg := hg.below hb1
  replace hm := hm.below hb1
  replace hp := hp.below hb1
  replace X1 := X1.below hb1
  replace hbW := hbW.trans (hb1.mono hbW.size)
  clear p0 p1 p2 hb1
  obtain ⟨p0, p1, p2, -⟩ := X1.three
  have hq := sbakeD_any S a ca l ga gc ma mc s pa pc cs _ hl hg hm hp h40 H8.out
  go_wp2_with fail
  refine hq.mono ?_
  rintro e y4 ⟨a2, c2, rfl, hg2, hb1⟩
  clear hq
  replace hl := hl.below hb1
  replace hg := hg.below hb1
  replace hm := hm.below hb1
  replace hp := hp.below hb1
  replace hg1 := hg1.below hb1
  replace X1 := X1.below hb1
  replace hbW := hbW.trans (hb1.mono hbW.size)
  clear p0 p1 p2 hb1
  obtain ⟨p0, p1, p2, -⟩ := X1.three
  generalize baE (fiS s) (RS s cs) l = be at *
  have k1 := hg1.lenB
  have g3 : (be == be) = true := by simp
  have hsm := ssameD_any _ _ a1 c1 a2 c2 _ _ hg1 hg2
  obtain ⟨bl, hbl⟩ : ∃ b, baL (fiS s) (RS s cs) l = b := ⟨_, rfl⟩
  rw [hbl] at hsm k1 ⊢
  clear hbl hg1 hg2
  go_wp2_with fail
  refine hsm.mono ?_
  rintro e y5 ⟨rfl, hb1⟩
  have hfin := hbW.trans (hb1.mono hbW.size)
  clear hsm hb1 hl hg hm hp X1 hbW p0 p1 p2
  go_wp2
  go_ret
  exact ⟨rfl, hfin⟩

end Go.Proofs.YtkbbdkecillnpaaGreat
