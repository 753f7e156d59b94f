/-
  foundrylaw21.PlaceMoves: the walk.
-/
import Derived.Test.YtchdoakoelfenaaGreatZX25
import Derived.Test.YtchdoakoelfenaaGreatZX35
namespace Go.Proofs.YtchdoakoelfenaaGreat
open Go.RowKit Go.Maps
set_option linter.unusedSimpArgs false
set_option linter.unusedVariables false

set_option maxHeartbeats 8000000 in
set_option maxRecDepth 100000 in
theorem placeMoves_any (Sl Sm Sp : Nat → Prop) (la : Option Addr) (lc : Nat) (l : List Lk) (xa : Option Addr) (xc : Nat) (ks : List Int) (ga : Option Addr) (gc : Nat) (ma : Option Addr) (mc : Nat) (s : Sr) (ka : Option Addr) (kc : Nat) (ms : List Bool) (pa : Option Addr) (pc : Nat) (cs : List Int) (qa : Option Addr) (qc : Nat) (P : List Pd) (w : World)
    (hl : Gr LkE Sl w la lc l) (hx : Ri w xa xc ks) (hg : Tzz w ga gc s.rg) (hrw : Rii w ma mc s.rw) (hm : Gr El.bool Sm w ka kc ms) (hp : Ri w pa pc cs) (hP : Gr PdE Sp w qa qc P) :
    Calls Tryz.prog 3 #[.agg #[.slice la l.length lc, .slice xa ks.length xc], .agg #[.slice ga s.rg.length gc, .slice ma s.rw.length mc, .slice ka ms.length kc, .slice pa cs.length pc], .slice qa P.length qc] w fun e w' => e = .returned (.bool true) ∧ Below w.heap.size w w' := by
  have kP := hP.lenB
  have kx := hx.lenB
  obtain ⟨W, hW, X1, X2, hbW⟩ : ∃ W, W = (w.alloc (.cells #[.slice la l.length lc, .slice xa ks.length xc] 25)).alloc (.cells #[.slice ga s.rg.length gc, .slice ma s.rw.length mc, .slice ka ms.length kc, .slice pa cs.length pc] 32) ∧ Bk 25 W w.heap.size [.slice la l.length lc, .slice xa ks.length xc] ∧ Bk 32 W (w.heap.size + 1) [.slice ga s.rg.length gc, .slice ma s.rw.length mc, .slice ka ms.length kc, .slice pa cs.length pc] ∧ Below w.heap.size w W := by
    obtain ⟨h1, h2, h3⟩ := new2B w 25 32 [.slice la l.length lc, .slice xa ks.length xc] [.slice ga s.rg.length gc, .slice ma s.rw.length mc, .slice ka ms.length kc, .slice pa cs.length pc]
    exact ⟨_, rfl, h1, h2, h3⟩
  have HL : Hid (Gr LkE Sl w la lc l) := hl
  have HX : Hid (Ri w xa xc ks) := hx
  have HG : Hid (Tzz w ga gc s.rg) := hg
  have HRW : Hid (Rii w ma mc s.rw) := hrw
  have HM : Hid (Gr El.bool Sm w ka kc ms) := hm
  have HP : Hid (Ri w pa pc cs) := hp
  have HQ : Hid (Gr PdE Sp w qa qc P) := hP
  have HB : Hid (Bk 25 W w.heap.size [.slice la l.length lc, .slice xa ks.length xc] ∧ Bk 32 W (w.heap.size + 1) [.slice ga s.rg.length gc, .slice ma s.rw.length mc, .slice ka ms.length kc, .slice pa cs.length pc]) := ⟨X1, X2⟩
  have haw := awake21_any W
  clear hl hx hg hrw hm hp hP X1 X2
  go_enter Tryz.func3, Tryz.ntmps3
  go_upto_region 1 with fail
  rw [← hW]
  clear hW
  go_wp2_with fail
  refine haw.mono ?_
  rintro e u ⟨rfl, hb⟩
  have hbu := hbW.trans (hb.mono hbW.size)
  have hX1 := HB.out.1.below hb
  have hX2 := HB.out.2.below hb
  obtain ⟨x0, x1, -⟩ := hX1.two
  obtain ⟨y0, y1, y2, y3, -⟩ := hX2.four
  have hfe := few21_any Sl Sp la lc l ga gc ma mc s ka kc ms pa pc cs qa qc P u (HL.out.below hbu) (HG.out.below hbu) (HRW.out.below hbu) HM.out.lenB HP.out.lenB (HQ.out.below hbu)
  clear haw
  go_wp2_with fail
  refine hfe.mono ?_
  rintro e u2 ⟨⟨bf, rfl, hbf⟩, hb2⟩
  have hWu := hb.trans (hb2.mono hb.size)
  replace hbu := hbu.trans (hb2.mono hbu.size)
  replace hX1 := hX1.below hb2
  replace hX2 := hX2.below hb2
  clear hfe x0 x1 y0 y1 y2 y3 hb hb2
  obtain ⟨x0, x1, -⟩ := hX1.two
  cases bf with
  | false =>
    have haw := awake21_any u2
    clear hbf hX1 hX2
    go_wp2_with fail
    refine haw.mono ?_
    rintro e u3 ⟨rfl, hb3⟩
    have hfin := hbu.trans (hb3.mono hbu.size)
    clear haw hb3
    go_wp2
    go_ret
    exact ⟨rfl, hfin⟩
  | true =>
  obtain ⟨h40, h8, hP120⟩ := hbf rfl
  by_cases n1 : 20 < ks.length
  · have d1 : decide ((20 : Int) < (ks.length : Int)) = true := decide_eq_true (by omega)
    have e1 : decide (20 < ks.length) = true := decide_eq_true n1
    have haw := awake21_any u2
    clear n1 hX1 hX2 hbf
    go_wp2_with fail
    refine haw.mono ?_
    rintro e u3 ⟨rfl, hb3⟩
    have hfin := hbu.trans (hb3.mono hbu.size)
    clear haw hb3
    go_wp2
    go_ret
    exact ⟨rfl, hfin⟩
  have d1 : decide ((20 : Int) < (ks.length : Int)) = false := decide_eq_false (by omega)
  have e1 : decide (20 < ks.length) = false := decide_eq_false n1
  clear hbf n1
  obtain ⟨y0, y1, y2, y3, -⟩ := hX2.four
  have hal := callP_any Sl Sm Sp la lc l xa xc ks ga gc ma mc s ka kc ms pa pc cs qa qc P u2 (HL.out.below hbu) (HX.out.below hbu) (HG.out.below hbu) (HRW.out.below hbu) (HM.out.below hbu) (HP.out.below hbu) h40 h8 (HQ.out.below hbu) (by omega)
  obtain ⟨E, Q, hpe⟩ : ∃ E Q, paE (fiS s) (rO s cs) (rE s cs) ms l ks P = (E, Q) := ⟨_, _, rfl⟩
  have hsl : ∀ U, Below w.heap.size w U → Calls Tryz.prog 7 #[.slice la l.length lc, .slice xa ks.length xc, .agg #[.slice ga s.rg.length gc, .slice ma s.rw.length mc, .slice ka ms.length kc, .slice pa cs.length pc], .slice qa P.length qc] U fun e w' => PaS (E, Q) w' e ∧ Below U.heap.size U w' := fun U hU => by
    have := sallP21_any Sl Sm Sp la lc l xa xc ks ga gc ma mc s ka kc ms pa pc cs qa qc P U (HL.out.below hU) (HX.out.below hU) (HG.out.below hU) (HRW.out.below hU) (HM.out.below hU) (HP.out.below hU) h40 h8 (HQ.out.below hU)
    rw [hpe] at this
    exact this
  rw [hpe] at hal
  clear hpe h8 h40 hP120
  go_wp2_with fail
  refine hal.mono ?_
  rintro e u3 ⟨⟨v, rfl, hv⟩, hb3⟩
  dsimp only at hv ⊢
  obtain ⟨oa, oc, rfl, ho, -⟩ := hv.slice
  have hbu3 := hbu.trans (hb3.mono hbu.size)
  replace hX1 := hX1.below hb3
  replace hX2 := hX2.below hb3
  have HO : Hid (Gr PdE (fun _ => False) u3 oa oc Q) := ho
  have hsl3 := hsl u3 hbu3
  clear hal hsl hv ho x0 x1 y0 y1 y2 y3 hb3 d1 e1 hWu
  obtain ⟨x0, x1, -⟩ := hX1.two
  obtain ⟨y0, y1, y2, y3, -⟩ := hX2.four
  go_wp2_with fail
  refine hsl3.mono ?_
  rintro e u4 ⟨⟨ra, rc, rfl, hr⟩, hb4⟩
  dsimp only at hr ⊢
  have hbu4 := hbu3.trans (hb4.mono hbu3.size)
  replace hX1 := hX1.below hb4
  replace hX2 := hX2.below hb4
  have HO4 : Hid (Gr PdE (fun _ => False) u4 oa oc Q) := HO.out.below hb4
  have HR4 : Hid (Gr PdE (fun _ => False) u4 ra rc Q) := hr
  clear hsl3 hr x0 x1 y0 y1 y2 y3 hb4 HO
  obtain ⟨x0, -, -⟩ := hX1.two
  obtain ⟨y0, y1, -, -, -⟩ := hX2.four
  have l0 : w.heap.size < u4.heap.size := hX1.lt
  have l1 : w.heap.size + 1 < u4.heap.size := hX2.lt
  have gE : (E == E) = true := beq_self_eq_true E
  go_upto_region 5 with fail
  refine wp_region_held_drew (S := fun v => v.cell? ⟨w.heap.size, 0, none⟩ = some (.slice la l.length lc) ∧ v.cell? ⟨w.heap.size + 1, 0, none⟩ = some (.slice ga s.rg.length gc) ∧ v.cell? ⟨w.heap.size + 1, 1, none⟩ = some (.slice ma s.rw.length mc)) (by kernel_rfl) ⟨x0, y0, y1⟩ (fun hHeld => ?_)
  have hdr : Below u4.heap.size u4 u4.drew := (Below.refl _ _).drew
  generalize u4.drew = Z at hdr hHeld ⊢
  have hsa := ssameP_any _ _ oa oc ra rc Q Z (HO4.out.below hdr) (HR4.out.below hdr)
  have hcf : ∀ U, Below u4.heap.size u4 U → Calls Tryz.prog 9 #[.slice la l.length lc, .agg #[.slice ga s.rg.length gc, .slice ma s.rw.length mc], .int .i64 50] U fun e w' => e = .returned (.bool (foM20 (fiS s) l 50)) ∧ Below U.heap.size U w' := fun U hU => cformP21_any Sl la lc l ga gc ma mc s 50 U (HL.out.below (hbu4.trans (hU.mono hbu4.size))) HRW.out.lenB ⟨by decide, by decide⟩
  have hsf : ∀ U, Below u4.heap.size u4 U → Calls Tryz.prog 10 #[.slice la l.length lc, .agg #[.slice ga s.rg.length gc, .slice ma s.rw.length mc], .int .i64 50] U fun e w' => e = .returned (.bool (foM20 (fiS s) l 50)) ∧ Below U.heap.size U w' := fun U hU => sformP21_any Sl la lc l ga gc ma mc s 50 U (HL.out.below (hbu4.trans (hU.mono hbu4.size))) HRW.out.lenB ⟨by decide, by decide⟩
  generalize foM20 (fiS s) l 50 = A at hcf hsf
  clear HL HX HG HRW HM HP HQ HB HO4 HR4 hX1 hX2 hbW hbu hbu3
  refine hT 0 hHeld ?_
  refine hT 1 hHeld ?_
  refine hT 2 hHeld ?_
  refine hT 3 hHeld ?_
  refine hT 4 hHeld ?_
  refine hT 5 hHeld ?_
  refine hCall (i := 6) rfl (by kernel_rfl) (by rfl) (fun K hK => ?_)
  go_simp
  refine (hsa).mono ?_
  rintro e u5 ⟨rfl, hb⟩
  replace hdr := hdr.trans (hb.mono hdr.size)
  go_wp2_with fail
  refine hK.out _ _ ⟨(hdr.cell (p := ⟨w.heap.size, 0, none⟩) l0).trans x0, (hdr.cell (p := ⟨w.heap.size + 1, 0, none⟩) l1).trans y0, (hdr.cell (p := ⟨w.heap.size + 1, 1, none⟩) l1).trans y1⟩ (fun hHeld => ?_)
  clear hK K hb
  try simp only [Act.put, List.setIfInBounds_toArray, List.set_cons_zero, List.set_cons_succ]
  clear hsa
  refine hT 7 hHeld ?_
  refine hT 8 hHeld ?_
  refine hT 9 hHeld ?_
  refine hT 10 hHeld ?_
  refine hT 11 hHeld ?_
  refine hT 12 hHeld ?_
  refine hT 14 hHeld ?_
  refine hT 15 hHeld ?_
  refine hT 16 hHeld ?_
  refine hT 17 hHeld ?_
  refine hCall (i := 13) rfl (by kernel_rfl) (by rfl) (fun K hK => ?_)
  go_simp
  refine (hcf u5 hdr).mono ?_
  rintro e u6 ⟨rfl, hb⟩
  replace hdr := hdr.trans (hb.mono hdr.size)
  go_wp2_with fail
  refine hK.out _ _ ⟨(hdr.cell (p := ⟨w.heap.size, 0, none⟩) l0).trans x0, (hdr.cell (p := ⟨w.heap.size + 1, 0, none⟩) l1).trans y0, (hdr.cell (p := ⟨w.heap.size + 1, 1, none⟩) l1).trans y1⟩ (fun hHeld => ?_)
  clear hK K hb
  try simp only [Act.put, List.setIfInBounds_toArray, List.set_cons_zero, List.set_cons_succ]
  refine hCall (i := 18) rfl (by kernel_rfl) (by rfl) (fun K hK => ?_)
  go_simp
  refine (hsf u6 hdr).mono ?_
  rintro e u7 ⟨rfl, hb⟩
  replace hdr := hdr.trans (hb.mono hdr.size)
  go_wp2_with fail
  refine hK.out _ _ ⟨(hdr.cell (p := ⟨w.heap.size, 0, none⟩) l0).trans x0, (hdr.cell (p := ⟨w.heap.size + 1, 0, none⟩) l1).trans y0, (hdr.cell (p := ⟨w.heap.size + 1, 1, none⟩) l1).trans y1⟩ (fun hHeld => ?_)
  clear hK K hb
  try simp only [Act.put, List.setIfInBounds_toArray, List.set_cons_zero, List.set_cons_succ]
  have hfin := hbu4.trans (hdr.mono hbu4.size)
  clear hcf hsf x0 y0 y1
  cases A with
  | false =>
    refine hT 19 hHeld ?_
    refine hT 20 hHeld ?_
    refine hT 21 hHeld ?_
    refine wpAnyH_done (by kernel_rfl) ?_ _
    clear hHeld
    go_wp2
    go_ret
    exact ⟨rfl, hfin⟩
  | true =>
    refine hT 19 hHeld ?_
    refine hT 20 hHeld ?_
    refine hT 21 hHeld ?_
    refine wpAnyH_done (by kernel_rfl) ?_ _
    clear hHeld
    go_wp2
    go_ret
    exact ⟨rfl, hfin⟩

end Go.Proofs.YtchdoakoelfenaaGreat
