/-
  foundrylaw18.StrokesBaked: the walk.
-/
import Derived.Test.YtkbbdkecillnpaaZB26
import Derived.Test.YtkbbdkecillnpaaZB31
import Derived.Test.YtkbbdkecillnpaaZB30
namespace Go.Proofs.Ytkbbdkecillnpaa
open Go.RowKit Go.Maps
set_option linter.unusedSimpArgs false
set_option linter.unusedVariables false

theorem baked_fo {s : Sr} {cs : List Int} {l : List (List Sp)} (hf : foD (fiS s) l = true) (he : erL (RS s cs) l = 0) : foD (fiS sNo) (baD (RS s cs) l) = true :=
  foD_ba hf he (fun b r _ _ => fi_no (roN_in s b r cs).1 (roN_in s b r cs).2) (fun b hb => (ro_none18 hb).1)
theorem baked_at {s : Sr} {cs cs1 : List Int} {l : List (List Sp)} (hf : foD (fiS s) l = true) (he : erL (RS s cs) l = 0) (n : Int) :
    atDE (fiS sNo) (RS sNo cs1) (baD (RS s cs) l) n = atDE (fiS s) (RS s cs) l n ∧ atDL (fiS sNo) (RS sNo cs1) (baD (RS s cs) l) n = atDL (fiS s) (RS s cs) l n := by
  have h1 : atDp (RS sNo cs1) (baD (RS s cs) l) n = atDp (RS s cs) l n := by
    rw [at_no (fun d hd x hx a ha => ?_)]
    · unfold atDp
      exact (drN_ba he 10 n.toNat Pe.new).symm
    · unfold baD at hd
      obtain ⟨d0, -, rfl⟩ := List.mem_map.1 hd
      obtain ⟨x0, -, rfl⟩ := List.mem_map.1 hx
      obtain ⟨a0, -, rfl⟩ := List.mem_map.1 ha
      exact ⟨rfl, (roN_in s a0.1 a0.2 cs).1, (roN_in s a0.1 a0.2 cs).2⟩
  have h2 : atDE (fiS sNo) (RS sNo cs1) (baD (RS s cs) l) n = atDE (fiS s) (RS s cs) l n := by
    unfold atDE
    rw [baked_fo hf he, hf, h1, baD_len]
  refine ⟨h2, ?_⟩
  unfold atDL
  rw [h2, h1]
theorem baE_zero {fi : Int → Int → Bool} {R : Rd18} {l : List (List Sp)} (h : baE fi R l = 0) : foD fi l = true ∧ erL R l = 0 ∧ baL fi R l = baD R l := by
  have h2 : baL fi R l = baD R l := by unfold baL; rw [if_pos h]
  unfold baE at h
  cases hf : foD fi l with
  | false => rw [hf, if_neg (by decide)] at h; exact absurd h (by decide)
  | true => rw [hf, if_pos rfl] at h; exact ⟨rfl, h, h2⟩
theorem baL_none {fi : Int → Int → Bool} {R : Rd18} {l : List (List Sp)} (h : baE fi R l ≠ 0) : baL fi R l = [] := by unfold baL; rw [if_neg h]

set_option maxHeartbeats 8000000 in
set_option maxRecDepth 100000 in
theorem strokesBaked_any (S : Nat → Prop) (a : Option Addr) (ca : Nat) (l : List (List Sp)) (ga : Option Addr) (gc : Nat) (ma : Option Addr) (mc : Nat) (s : Sr) (n : Int) (pa : Option Addr) (pc : Nat) (cs : List Int) (qa : Option Addr) (qc : Nat) (ds : List Int) (w : World) (hl : Gr SpE.row S w a ca l) (hg : Tzz w ga gc s.rg) (hm : Rii w ma mc s.rw) (hp : Ri w pa pc cs) (hq : Ri w qa qc ds) (hn : I64 n) :
    Calls Try.prog 4 #[.agg #[.slice a l.length ca, .slice ga s.rg.length gc, .slice ma s.rw.length mc], .int .i64 n, .agg #[.slice pa cs.length pc, .slice qa ds.length qc]] w fun e w' => e = .returned (.bool true) ∧ Below w.heap.size w w' := by
  have kl := hl.lenB
  have kg := hg.lenB
  have km := hm.lenB
  have kp := hp.lenB
  have kq := hq.lenB
  obtain ⟨W, hW, X1, X2, hbW⟩ : ∃ W, W = (w.alloc (.cells #[.slice a l.length ca, .slice ga s.rg.length gc, .slice ma s.rw.length mc] 28)).alloc (.cells #[.slice pa cs.length pc, .slice qa ds.length qc] 41) ∧ Bk 28 W w.heap.size [.slice a l.length ca, .slice ga s.rg.length gc, .slice ma s.rw.length mc] ∧ Bk 41 W (w.heap.size + 1) [.slice pa cs.length pc, .slice qa ds.length qc] ∧ Below w.heap.size w W := ⟨_, rfl, (Bk.new _ _ _).below (bl1 _), Bk.new1 _ _ _ _, bl2 _ _⟩
  replace hl := hl.below hbW
  replace hg := hg.below hbW
  replace hm := hm.below hbW
  replace hp := hp.below hbW
  replace hq := hq.below hbW
  go_enter Try.func4, Try.ntmps4
  go_upto_region 1 with fail
  rw [← hW]
  clear hW
  obtain ⟨p0, p1, p2, -⟩ := X1.three
  obtain ⟨r0, r1, -⟩ := X2.two
  go_wp2_with fail
  refine (awake18_any _).mono ?_
  rintro e y1 ⟨rfl, hb1⟩
  replace hl := hl.below hb1
  replace hg := hg.below hb1
  replace hm := hm.below hb1
  replace hp := hp.below hb1
  replace hq := hq.below hb1
  replace X1 := X1.below hb1
  replace X2 := X2.below hb1
  replace hbW := hbW.trans (hb1.mono hbW.size)
  clear p0 p1 p2 r0 r1 hb1
  obtain ⟨p0, p1, p2, -⟩ := X1.three
  obtain ⟨r0, r1, -⟩ := X2.two
  go_wp2_with fail
  refine (few18_any S a ca l ga gc ma mc s pa cs.length pc _ hl hg hm kp).mono ?_
  rintro e y2 ⟨⟨⟨q, rfl, HQ⟩⟩, hb1⟩
  replace HQ : Hid (q = true → s.rg.length ≤ 40 ∧ ∀ l ∈ s.rg, l.length ≤ 8) := HQ
  replace hl := hl.below hb1
  replace hg := hg.below hb1
  replace hm := hm.below hb1
  replace hp := hp.below hb1
  replace hq := hq.below hb1
  replace X1 := X1.below hb1
  replace X2 := X2.below hb1
  replace hbW := hbW.trans (hb1.mono hbW.size)
  clear p0 p1 p2 r0 r1 hb1
  obtain ⟨p0, p1, p2, -⟩ := X1.three
  obtain ⟨r0, r1, -⟩ := X2.two
  cases q with
  | false =>
    go_wp2_with fail
    refine (awake18_any _).mono ?_
    rintro e uz ⟨rfl, hbz⟩
    have hfin := hbW.trans (hbz.mono hbW.size)
    clear hbz
    go_wp2
    go_ret
    exact ⟨rfl, hfin⟩
  | true =>
  obtain ⟨h40, h8⟩ := HQ.out rfl
  have H8 : Hid (∀ l ∈ s.rg, l.length ≤ 8) := h8
  clear HQ h8
  by_cases hx6 : 20 < ds.length
  · have g1 : decide ((20 : Int) < (ds.length : Int)) = true := decide_eq_true (by omega)
    go_wp2_with fail
    refine (awake18_any _).mono ?_
    rintro e uz ⟨rfl, hbz⟩
    have hfin := hbW.trans (hbz.mono hbW.size)
    clear hbz
    go_wp2
    go_ret
    exact ⟨rfl, hfin⟩
  have g1 : decide ((20 : Int) < (ds.length : Int)) = false := decide_eq_false (by omega)
  have hbk := bake_any S a ca l ga gc ma mc s pa pc cs _ hl hg hm hp h40 H8.out
  go_wp2_with fail
  refine hbk.mono ?_
  rintro e y3 ⟨a1, c1, rfl, hg1, hb1⟩
  clear hbk g1
  replace hl := hl.below hb1
  replace hg := hg.below hb1
  replace hm := hm.below hb1
  replace hp := hp.below hb1
  replace hq := hq.below hb1
  replace X1 := X1.below hb1
  replace X2 := X2.below hb1
  replace hbW := hbW.trans (hb1.mono hbW.size)
  clear p0 p1 p2 r0 r1 hb1
  obtain ⟨p0, p1, p2, -⟩ := X1.three
  obtain ⟨r0, r1, -⟩ := X2.two
  by_cases hbe : baE (fiS s) (RS s cs) l = 0
  rotate_left
  · have g2 : (baE (fiS s) (RS s cs) l != 0) = true := bne_iff_ne.2 hbe
    rw [baL_none hbe]
    generalize baE (fiS s) (RS s cs) l = z at *
    clear hg1 hbe
    go_wp2
    go_ret
    exact ⟨rfl, hbW⟩
  obtain ⟨hfo, hel, hbl⟩ := baE_zero hbe
  rw [hbl] at hg1
  rw [hbl, hbe]
  have HAT : Hid (_) := baked_at (cs1 := ds) hfo hel n
  have HFO : Hid (_) := baked_fo hfo hel
  clear hbe hfo hel hbl
  have k1 := hg1.lenB
  obtain ⟨bl, hbl⟩ : ∃ b, baD (RS s cs) l = b := ⟨_, rfl⟩
  rw [hbl] at hg1 HAT HFO k1 ⊢
  clear hbl
  have hat := atD_any S a ca l ga gc ma mc s n pa pc cs _ hl hg hm hp hn h40 H8.out
  obtain ⟨ae, hae⟩ : ∃ z, atDE (fiS s) (RS s cs) l n = z := ⟨_, rfl⟩
  obtain ⟨al, hal⟩ : ∃ z, atDL (fiS s) (RS s cs) l n = z := ⟨_, rfl⟩
  rw [hae, hal] at hat HAT
  clear hae hal
  go_wp2_with fail
  refine hat.mono ?_
  rintro e y4 ⟨a2, c2, rfl, hg2, hb1⟩
  clear hat
  replace hq := hq.below hb1
  replace hg1 := hg1.below hb1
  replace X1 := X1.below hb1
  replace X2 := X2.below hb1
  replace hbW := hbW.trans (hb1.mono hbW.size)
  clear p0 p1 p2 r0 r1 hb1 hl hg hm hp
  obtain ⟨r0, r1, -⟩ := X2.two
  have k2 := hg2.lenB
  have hat := atD_any _ a1 c1 bl none 0 none 0 sNo n qa qc ds _ hg1 (sNo_tz _) (sNo_ri _) hq hn (by decide) (fun l hl => by cases hl)
  rw [HAT.out.1, HAT.out.2] at hat
  replace hat : Calls Try.prog 13 #[.slice a1 bl.length c1, .agg #[.slice none 0 0, .slice none 0 0], .int .i64 n, .slice qa ds.length qc] y4 fun e w' => ∃ a' c', e = .returned (.tuple #[.slice a' al.length c', .int .i64 ae]) ∧ Gr PnE.row (fun k => y4.heap.size ≤ k) w' a' c' al ∧ Below y4.heap.size y4 w' := hat
  go_wp2_with fail
  refine hat.mono ?_
  rintro e y5 ⟨a3, c3, rfl, hg3, hb1⟩
  clear hat
  replace hg1 := hg1.below hb1
  replace hg2 := hg2.below hb1
  replace hbW := hbW.trans (hb1.mono hbW.size)
  clear r0 r1 hb1 hq X1 X2
  have g3 : (ae == ae) = true := by simp
  have hsc := ssameC18_any _ _ a2 c2 a3 c3 al _ hg2 hg3
  go_wp2_with fail
  refine hsc.mono ?_
  rintro e y6 ⟨rfl, hb1⟩
  clear hsc
  replace hg1 := hg1.below hb1
  replace hbW := hbW.trans (hb1.mono hbW.size)
  clear hb1 hg2 hg3
  have hfm := formD_any _ a1 c1 bl none 0 none 0 sNo _ hg1 (by decide)
  rw [HFO.out] at hfm
  replace hfm : Calls Try.prog 15 #[.slice a1 bl.length c1, .agg #[.slice none 0 0, .slice none 0 0]] y6 fun e w' => e = .returned (.bool true) ∧ Below y6.heap.size y6 w' := hfm
  go_wp2_with fail
  refine hfm.mono ?_
  rintro e y7 ⟨rfl, hb1⟩
  have hfin := hbW.trans (hb1.mono hbW.size)
  clear hfm hb1 hg1
  go_wp2
  go_ret
  exact ⟨rfl, hfin⟩

end Go.Proofs.Ytkbbdkecillnpaa
