/-
  foundrylaw21.PlaceKeeps: the walk.
-/
import Derived.Test.YtchdoakoelfenaaZJ25
namespace Go.Proofs.Ytchdoakoelfenaa
open Go.RowKit Go.Maps
set_option linter.unusedSimpArgs false
set_option linter.unusedVariables false

set_option maxHeartbeats 8000000 in
set_option maxRecDepth 100000 in
theorem placeKeeps_any (Sl Sm Sp : Nat → Prop) (la : Option Addr) (lc : Nat) (l : List Lk) (xa : Option Addr) (xc : Nat) (ks : List Int) (ga : Option Addr) (gc : Nat) (ma : Option Addr) (mc : Nat) (s : Sr) (ka : Option Addr) (kc : Nat) (ms : List Bool) (pa : Option Addr) (pc : Nat) (cs : List Int) (qa : Option Addr) (qc : Nat) (P : List Pd) (w : World)
    (hl : Gr LkE Sl w la lc l) (hx : Ri w xa xc ks) (hg : Tzz w ga gc s.rg) (hrw : Rii w ma mc s.rw) (hm : Gr El.bool Sm w ka kc ms) (hp : Ri w pa pc cs) (hP : Gr PdE Sp w qa qc P) :
    Calls Try.prog 4 #[.agg #[.slice la l.length lc, .slice xa ks.length xc], .agg #[.slice ga s.rg.length gc, .slice ma s.rw.length mc, .slice ka ms.length kc, .slice pa cs.length pc], .slice qa P.length qc] w fun e w' => e = .returned (.bool true) ∧ Below w.heap.size w w' := by
  have kP := hP.lenB
  have kx := hx.lenB
  obtain ⟨W, hW, X1, X2, hbW⟩ : ∃ W, W = (w.alloc (.cells #[.slice la l.length lc, .slice xa ks.length xc] 30)).alloc (.cells #[.slice ga s.rg.length gc, .slice ma s.rw.length mc, .slice ka ms.length kc, .slice pa cs.length pc] 37) ∧ Bk 30 W w.heap.size [.slice la l.length lc, .slice xa ks.length xc] ∧ Bk 37 W (w.heap.size + 1) [.slice ga s.rg.length gc, .slice ma s.rw.length mc, .slice ka ms.length kc, .slice pa cs.length pc] ∧ Below w.heap.size w W := by
    obtain ⟨h1, h2, h3⟩ := new2B w 30 37 [.slice la l.length lc, .slice xa ks.length xc] [.slice ga s.rg.length gc, .slice ma s.rw.length mc, .slice ka ms.length kc, .slice pa cs.length pc]
    exact ⟨_, rfl, h1, h2, h3⟩
  have HL : Hid (Gr LkE Sl w la lc l) := hl
  have HX : Hid (Ri w xa xc ks) := hx
  have HG : Hid (Tzz w ga gc s.rg) := hg
  have HRW : Hid (Rii w ma mc s.rw) := hrw
  have HM : Hid (Gr El.bool Sm w ka kc ms) := hm
  have HP : Hid (Ri w pa pc cs) := hp
  have HQ : Hid (Gr PdE Sp w qa qc P) := hP
  have HB : Hid (Bk 30 W w.heap.size [.slice la l.length lc, .slice xa ks.length xc] ∧ Bk 37 W (w.heap.size + 1) [.slice ga s.rg.length gc, .slice ma s.rw.length mc, .slice ka ms.length kc, .slice pa cs.length pc]) := ⟨X1, X2⟩
  have haw := awake21_any W
  clear hl hx hg hrw hm hp hP X1 X2
  go_enter Try.func4, Try.ntmps4
  go_upto_region 1 with fail
  rw [← hW]
  clear hW
  go_wp2_with fail
  refine haw.mono ?_
  rintro e u ⟨rfl, hb⟩
  have hbu := hbW.trans (hb.mono hbW.size)
  have hX1 := HB.out.1.below hb
  have hX2 := HB.out.2.below hb
  obtain ⟨x0, x1, -⟩ := hX1.two
  obtain ⟨y0, y1, y2, y3, -⟩ := hX2.four
  have hfe := few21_any Sl Sp la lc l ga gc ma mc s ka kc ms pa pc cs qa qc P u (HL.out.below hbu) (HG.out.below hbu) (HRW.out.below hbu) HM.out.lenB HP.out.lenB (HQ.out.below hbu)
  clear haw
  go_wp2_with fail
  refine hfe.mono ?_
  rintro e u2 ⟨⟨bf, rfl, hbf⟩, hb2⟩
  have hWu := hb.trans (hb2.mono hb.size)
  replace hbu := hbu.trans (hb2.mono hbu.size)
  replace hX1 := hX1.below hb2
  replace hX2 := hX2.below hb2
  clear hfe x0 x1 y0 y1 y2 y3 hb hb2
  obtain ⟨x0, x1, -⟩ := hX1.two
  cases bf with
  | false =>
    have haw := awake21_any u2
    clear hbf hX1 hX2
    go_wp2_with fail
    refine haw.mono ?_
    rintro e u3 ⟨rfl, hb3⟩
    have hfin := hbu.trans (hb3.mono hbu.size)
    clear haw hb3
    go_wp2
    go_ret
    exact ⟨rfl, hfin⟩
  | true =>
  obtain ⟨h40, h8, hP120⟩ := hbf rfl
  by_cases n1 : 20 < ks.length
  · have d1 : decide ((20 : Int) < (ks.length : Int)) = true := decide_eq_true (by omega)
    have e1 : decide (20 < ks.length) = true := decide_eq_true n1
    have haw := awake21_any u2
    clear n1 hX1 hX2 hbf
    go_wp2_with fail
    refine haw.mono ?_
    rintro e u3 ⟨rfl, hb3⟩
    have hfin := hbu.trans (hb3.mono hbu.size)
    clear haw hb3
    go_wp2
    go_ret
    exact ⟨rfl, hfin⟩
  have d1 : decide ((20 : Int) < (ks.length : Int)) = false := decide_eq_false (by omega)
  have e1 : decide (20 < ks.length) = false := decide_eq_false n1
  clear hbf n1
  have hsrc : Gr PdE (fun k => False ∧ (Value.slice none 0 0).ownBlock ≠ some k) u2 qa qc P := (HQ.out.below hbu).anyP
  have hll : ([] : List Pd).length + P.length ≤ 1000000 := by simp; omega
  have HP120 : Hid (P.length ≤ 120) := hP120
  go_wp2_with (at_builtin; refine wpList_append_el (E := PdE) 25 43 Try.underlying25 info_pd rfl (by decide) (by decide) rfl _ _ rfl u2.heap.size (fun _ => False) _ [] rfl (Gw.nil _ _ _ _ _) qa qc P.length P rfl rfl hsrc hll (Nat.le_refl _) ?_)
  intro v9 w9 hT9 hgrow _
  have hb9 : Below u2.heap.size u2 w9 := (Below.refl _ _).grown hgrow (Nat.le_refl _) (fun k hk => by cases hk)
  have hbu9 := hbu.trans (hb9.mono hbu.size)
  obtain ⟨va, vc, e9, hwas, -⟩ := hT9.slice
  subst e9
  replace hX1 := hX1.below hb9
  replace hX2 := hX2.below hb9
  clear hT9 hgrow hsrc hll d1 e1 x0 x1 hb9 hWu
  obtain ⟨x0, x1, -⟩ := hX1.two
  obtain ⟨y0, y1, y2, y3, -⟩ := hX2.four
  have hal := callP_any Sl Sm Sp la lc l xa xc ks ga gc ma mc s ka kc ms pa pc cs qa qc P w9 (HL.out.below hbu9) (HX.out.below hbu9) (HG.out.below hbu9) (HRW.out.below hbu9) (HM.out.below hbu9) (HP.out.below hbu9) h40 h8 (HQ.out.below hbu9) (by omega)
  obtain ⟨E, Q, hpe⟩ : ∃ E Q, paE (fiS s) (rO s cs) (rE s cs) ms l ks P = (E, Q) := ⟨_, _, rfl⟩
  have HBD : Hid (E ≠ 0 → Q = []) := fun h => by
    have := pa_bad (fi := fiS s) (ro := rO s cs) (re := rE s cs) (ms := ms) (l := l) (ks := ks) (P := P) (by rw [hpe]; exact h)
    rw [hpe] at this
    exact this
  have HKP : Hid (E = 0 → Q.length = P.length ∧ naL Q = naL P) := fun h => pa_keep (fi := fiS s) (ro := rO s cs) (re := rE s cs) (ms := ms) (l := l) (ks := ks) (P := P) (by rw [hpe, h])
  rw [hpe] at hal
  have HWAS : Hid (Gr PdE (fun _ => False) w9 va vc P) := hwas
  clear hpe hwas h8 h40 hP120
  go_wp2_with fail
  refine hal.mono ?_
  rintro e u3 ⟨⟨v, rfl, hv⟩, hb3⟩
  dsimp only at hv
  obtain ⟨oa, oc, rfl, ho, -⟩ := hv.slice
  have hbu3 := hbu9.trans (hb3.mono hbu9.size)
  have hsa := ssameP_any _ _ va vc qa qc P u3 (HWAS.out.below hb3) (HQ.out.below hbu3)
  have HO : Hid (Gr PdE (fun _ => False) u3 oa oc Q) := ho
  have kQ := ho.lenB
  clear hal hv ho hX1 hX2 x0 x1 y0 y1 y2 y3 hb3
  go_wp2_with fail
  refine hsa.mono ?_
  rintro e u4 ⟨rfl, hb4⟩
  have hbu4 := hbu3.trans (hb4.mono hbu3.size)
  have HO4 : Hid (Gr PdE (fun _ => False) u4 oa oc Q) := HO.out.below hb4
  have HQ4 : Hid (Gr PdE Sp u4 qa qc P) := HQ.out.below hbu4
  clear hsa hb4 HO HWAS
  by_cases hE : E = 0
  rotate_left
  · have hQ := HBD.out hE
    subst hQ
    have gE : (E != 0) = true := bne_iff_ne.2 hE
    clear hE HBD HKP
    go_wp2
    go_ret
    exact ⟨rfl, hbu4⟩
  subst hE
  obtain ⟨hql, hqn⟩ := HKP.out rfl
  have HQN : Hid (∀ k, (Q.getD k Pd.none).g = (P.getD k Pd.none).g) := fun k => by rw [← naL_at, ← naL_at, hqn]
  rw [hql]
  clear HBD HKP hqn kQ
  have HQL : Hid (Q.length = P.length) := hql
  clear hql
  go_wp2
  go_loopw [10] (fun i wr => ∃ k : Nat, k ≤ P.length ∧ i = .int .i64 k ∧ Below u4.heap.size u4 wr) (fun i _ => P.length - (intOf i).toNat)
  case atStart => exact ⟨0, Nat.zero_le _, rfl, Below.refl _ _⟩
  case round =>
    obtain ⟨k, hk, rfl, hnx⟩ := hrel
    by_cases hkn : k < P.length
    · obtain ⟨b3, o3, ec, _, _, c0, -, -, -⟩ := HO4.out.pd hnx k (by rw [HQL.out]; exact hkn)
      obtain ⟨b4, o4, ed, _, _, d0, -, -, -⟩ := HQ4.out.pd hnx k hkn
      rw [HQN.out] at c0
      generalize (P.getD k Pd.none).g = t at *
      subst ec ed
      have i3 : (0 : Int) ≤ (k : Int) := by omega
      have i4 : (k : Int) < (P.length : Int) := by omega
      go_wp2_with fail
      go_quiet (fail)
      go_wp2
      go_roundw
      case rel => exact ⟨k + 1, by omega, by go_num, below_drewN hnx _⟩
      case measure => simp [intOf]; omega
    · have g1 : ¬ (k : Int) < (P.length : Int) := by omega
      have hfin := hbu4.trans (hnx.mono hbu4.size)
      go_wp2
      go_ret
      exact ⟨rfl, hfin⟩

end Go.Proofs.Ytchdoakoelfenaa
