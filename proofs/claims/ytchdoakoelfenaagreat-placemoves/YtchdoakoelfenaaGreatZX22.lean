/-
  (place.mover).other: the walk.
  (place.mover).do: the walk.
-/
import Derived.Test.YtchdoakoelfenaaGreatZX5
import Derived.Test.YtchdoakoelfenaaGreatZX21
import Derived.Test.YtchdoakoelfenaaGreatZX15
import Derived.Test.YtchdoakoelfenaaGreatZX19
import Derived.Test.YtchdoakoelfenaaGreatZX20
namespace Go.Proofs.YtchdoakoelfenaaGreat
open Go.RowKit Go.Maps
set_option linter.unusedSimpArgs false
set_option linter.unusedVariables false

/-- The other place, and whether the rule applies. -/
def otV (ms : List Bool) (kd : Int) (sk : Bool) (L : List Int) (i : Nat) (A : List Int) : Int :=
  if kd = 7 then bkQ ms L (i : Int) else (match meQ ms L sk (i : Int) A with | none => -1 | some m => m.getD (m.length - 1) 0)
def otB (ms : List Bool) (kd : Int) (sk : Bool) (L : List Int) (i : Nat) (A : List Int) : Bool :=
  if kd = 7 then (((!decide (bkQ ms L (i : Int) = -1) && mkB ms (L.getD i 0)) && decide (L.getD (bkQ ms L (i : Int)).toNat 0 = A.getD 0 0)) && decide (L.getD i 0 = A.getD 1 0)) else meB ms L sk (i : Int) A
theorem ap_ot {ms : List Bool} {kd : Int} {sk : Bool} {L : List Int} {i : Nat} {A : List Int} (hi : i < L.length) (hA : A.length = inN kd) (hk : kd = 5 ∨ kd = 6 ∨ kd = 7) :
    apN ms kd sk L i A = if otB ms kd sk L i A then some (if kd = 6 then otV ms kd sk L i A else (i : Int) + 1, if kd = 7 then otV ms kd sk L i A else 0) else none := by
  rcases hk with rfl | rfl | rfl
  · obtain ⟨g, rfl⟩ : ∃ g, A = [g] := by
      match A, hA with
      | [g], _ => exact ⟨g, rfl⟩
    have hp : plB L (i : Int) = true := plB_iff.2 ⟨by omega, by omega⟩
    have e1 : apN ms 5 sk L i [g] = if g = L.getD i 0 then some ((i : Int) + 1, 0) else none := by unfold apN; rw [if_pos rfl]; rfl
    have e2 : otB ms 5 sk L i [g] = meB ms L sk (i : Int) [g] := by unfold otB; rw [if_neg (by decide)]
    have e3 : meQ ms L sk (i : Int) [g] = if L.getD i 0 = g then some [(i : Int)] else none := by
      show (if plB L (i : Int) = true ∧ L.getD (i : Int).toNat 0 = g then (meF ms L sk (i : Int) []).map (fun l => (i : Int) :: l) else none) = _
      rw [hp, Int.toNat_natCast]
      by_cases hg : L.getD i 0 = g
      · rw [if_pos ⟨rfl, hg⟩, if_pos hg]; rfl
      · rw [if_neg (fun h => hg h.2), if_neg hg]
    rw [e1, e2]
    unfold meB
    rw [e3]
    by_cases hg : g = L.getD i 0
    · rw [if_pos hg, if_pos (show L.getD i 0 = g from hg.symm)]; rfl
    · rw [if_neg hg, if_neg (show ¬ L.getD i 0 = g from fun h => hg h.symm)]; rfl
  · have e1 : apN ms 6 sk L i A = (meQ ms L sk (i : Int) A).map (fun m => (m.getD 1 0, 0)) := by unfold apN; rw [if_neg (by decide), if_pos rfl]
    have e2 : otB ms 6 sk L i A = meB ms L sk (i : Int) A := by unfold otB; rw [if_neg (by decide)]
    have e3 : otV ms 6 sk L i A = (match meQ ms L sk (i : Int) A with | none => -1 | some m => m.getD (m.length - 1) 0) := by unfold otV; rw [if_neg (by decide)]
    rw [e1, e2, e3]
    unfold meB
    cases hm : meQ ms L sk (i : Int) A with
    | none => rfl
    | some m =>
      have hl := (me_r hm).len
      rw [hA] at hl
      have e : m.length - 1 = 1 := by rw [hl]; rfl
      show some (m.getD 1 0, (0 : Int)) = some (m.getD (m.length - 1) 0, 0)
      rw [e]
  · have e2 : otB ms 7 sk L i A = (((!decide (bkQ ms L (i : Int) = -1) && mkB ms (L.getD i 0)) && decide (L.getD (bkQ ms L (i : Int)).toNat 0 = A.getD 0 0)) && decide (L.getD i 0 = A.getD 1 0)) := by unfold otB; rw [if_pos rfl]
    have e3 : otV ms 7 sk L i A = bkQ ms L (i : Int) := by unfold otV; rw [if_pos rfl]
    rw [e2, e3]
    by_cases h : mkB ms (L.getD i 0) = true ∧ A.getD 1 0 = L.getD i 0 ∧ bkQ ms L (i : Int) ≠ -1 ∧ A.getD 0 0 = L.getD (bkQ ms L (i : Int)).toNat 0
    · have e1 : apN ms 7 sk L i A = some ((i : Int) + 1, bkQ ms L (i : Int)) := by unfold apN; rw [if_neg (show ¬ (7 : Int) = 5 by decide), if_neg (show ¬ (7 : Int) = 6 by decide), if_pos h]
      rw [e1, h.1, decide_eq_false h.2.2.1, decide_eq_true h.2.2.2.symm, decide_eq_true h.2.1.symm]
      rfl
    · have e1 : apN ms 7 sk L i A = none := by unfold apN; rw [if_neg (show ¬ (7 : Int) = 5 by decide), if_neg (show ¬ (7 : Int) = 6 by decide), if_neg h]
      rw [e1]
      symm
      apply if_neg
      intro h2
      simp only [Bool.and_eq_true, Bool.not_eq_true', decide_eq_true_iff, decide_eq_false_iff_not] at h2
      exact h ⟨h2.1.1.2, h2.2.symm, h2.1.1.1, h2.1.2.symm⟩

theorem ot_seven {ms : List Bool} {kd : Int} {sk : Bool} {L : List Int} {i : Nat} {A : List Int} (hi : i < L.length) (h : otB ms kd sk L i A = true) (h7 : kd = 7) : ∃ b : Nat, otV ms kd sk L i A = (b : Int) ∧ b < i := by
  subst h7
  unfold otB at h
  unfold otV
  rw [if_pos rfl] at h ⊢
  simp only [Bool.and_eq_true, Bool.not_eq_true', decide_eq_true_iff, decide_eq_false_iff_not] at h
  rcases bk_lt (ms := ms) hi with e | e
  · exact absurd e h.1.1.1
  · exact e

set_option maxHeartbeats 8000000 in
set_option maxRecDepth 100000 in
theorem other_any (S : Nat → Prop) (ga : Option Addr) (gc : Nat) (ma : Option Addr) (mc : Nat) (s : Sr) (ka : Option Addr) (kc : Nat) (ms : List Bool) (pa : Option Addr) (pc : Nat) (cs : List Int) (la : Option Addr) (pn lc : Nat) (na : Option Addr) (nc : Nat) (L : List Int) (kd : Int) (sk : Bool) (ra : Option Addr) (rn rc : Nat) (a1 : Option Addr) (c1 : Nat) (a2 : Option Addr) (c2 : Nat) (inn out : List Int) (ap lk x1 x2 y1 y2 w1 w2 : Int) (i : Nat) (w : World)
    (hm : Gr El.bool S w ka kc ms) (hL : Ri w na nc L) (hA : Ri w a1 c1 inn) (hi : i < L.length) (hAl : inn.length = inN kd) (hk : kd = 5 ∨ kd = 6 ∨ kd = 7) :
    Calls Tryz.prog 33 #[.agg #[.slice ga s.rg.length gc, .slice ma s.rw.length mc, .slice ka ms.length kc, .slice pa cs.length pc, .slice la pn lc, .slice na L.length nc], .agg #[.int .i64 kd, .bool sk, .slice ra rn rc], .agg #[.slice a1 inn.length c1, .slice a2 out.length c2, .int .i64 ap, .int .i64 lk, .int .i64 x1, .int .i64 x2, .int .i64 y1, .int .i64 y2, .int .i64 w1, .int .i64 w2], .int .i64 (i : Int)] w fun e w' => e = .returned (.tuple #[.int .i64 (otV ms kd sk L i inn), .bool (otB ms kd sk L i inn)]) ∧ Below w.heap.size w w' := by
  have kl := hL.lenB
  have hm2 : inn.length ≤ 2 := by rw [hAl]; unfold inN; split <;> omega
  obtain ⟨W, hW⟩ : ∃ W, W = ((w.alloc (.cells #[.slice ga s.rg.length gc, .slice ma s.rw.length mc, .slice ka ms.length kc, .slice pa cs.length pc, .slice la pn lc, .slice na L.length nc] 61)).alloc (.cells #[.int .i64 kd, .bool sk, .slice ra rn rc] 51)).alloc (.cells #[.slice a1 inn.length c1, .slice a2 out.length c2, .int .i64 ap, .int .i64 lk, .int .i64 x1, .int .i64 x2, .int .i64 y1, .int .i64 y2, .int .i64 w1, .int .i64 w2] 48) := ⟨_, rfl⟩
  obtain ⟨X1, X2, X3, hbW⟩ := new3B w 61 51 48 [.slice ga s.rg.length gc, .slice ma s.rw.length mc, .slice ka ms.length kc, .slice pa cs.length pc, .slice la pn lc, .slice na L.length nc] [.int .i64 kd, .bool sk, .slice ra rn rc] (ruV a1 c1 a2 c2 ⟨inn, out, ap, lk, (x1, x2), (y1, y2), (w1, w2)⟩) W hW
  obtain ⟨m0, m1, m2, m3, m4, m5⟩ := X1.six21
  obtain ⟨x0, x1', x2', -⟩ := X2.three
  obtain ⟨q0, -⟩ := X3.ru
  dsimp only at q0
  have hmW := hm.below hbW
  have hLW := hL.below hbW
  have hAW := hA.below hbW
  have hI : I64 (i : Int) := ⟨by omega, by omega⟩
  by_cases h7 : kd = 7
  rotate_left
  · have g7 : (kd == 7) = false := beq_eq_false_iff_ne.2 h7
    have HV : Hid (otV ms kd sk L i inn = (match meQ ms L sk (i : Int) inn with | none => -1 | some m => m.getD (m.length - 1) 0) ∧ otB ms kd sk L i inn = meB ms L sk (i : Int) inn) := by
      unfold otV otB
      rw [if_neg h7, if_neg h7]
      exact ⟨rfl, rfl⟩
    generalize otV ms kd sk L i inn = OV at HV ⊢
    generalize otB ms kd sk L i inn = OB at HV ⊢
    have hme := cmeet_any S na nc L ka kc ms (i : Int) a1 c1 inn sk W hLW hmW hI hAW (by omega)
    clear h7 hk hAl hm hL hA hmW hLW hAW X1 X2 X3
    go_enter Tryz.func33, Tryz.ntmps33
    go_upto_region 1 with fail
    rw [← hW]
    clear hW
    go_wp2_with fail
    refine hme.mono ?_
    rintro e u ⟨⟨v, rfl, hv⟩, hb⟩
    have hbU := hbW.trans (hb.mono hbW.size)
    obtain ⟨va, vc, rfl, hvr⟩ := hv.slice
    clear hme hv hb m0 m1 m2 m3 m4 m5 x0 x1' x2' q0
    cases hq : meQ ms L sk (i : Int) inn with
    | none =>
      have e1 : meB ms L sk (i : Int) inn = false := by unfold meB; rw [hq]; rfl
      have HF : Hid (OV = -1 ∧ OB = false) := ⟨by rw [HV.out.1, hq], by rw [HV.out.2, e1]⟩
      rw [e1]
      clear HV hq e1 hvr
      go_wp2
      go_ret2
      exact ⟨by rw [HF.out.1, HF.out.2]; rfl, hbU⟩
    | some m =>
      have e1 : meB ms L sk (i : Int) inn = true := by unfold meB; rw [hq]; rfl
      have e2 : meL ms L sk (i : Int) inn = m := by unfold meL; rw [hq]; rfl
      have HF : Hid (OV = m.getD (m.length - 1) 0 ∧ OB = true) := ⟨by rw [HV.out.1, hq], by rw [HV.out.2, e1]⟩
      have hpos := (me_r hq).pos
      rw [e1, e2]
      rw [e2] at hvr
      obtain ⟨b, o, rfl, hbl, c0⟩ := hvr.at (Below.refl _ _) (m.length - 1) (by omega)
      have kml := hvr.lenB
      obtain ⟨n, hn⟩ : ∃ n, m.length = n + 1 := ⟨m.length - 1, by omega⟩
      obtain ⟨z, hz⟩ : ∃ z, m.getD (m.length - 1) 0 = z := ⟨_, rfl⟩
      have HF : Hid (OV = z ∧ OB = true) := by rw [← hz]; exact HF.out
      rw [hz, hn] at c0
      rw [show n + 1 - 1 = n from rfl] at c0
      rw [hn] at kml ⊢
      have i1 : (((n + 1 : Nat) : Int) - 1) = (n : Int) := by omega
      have i2 : (0 : Int) ≤ (n : Int) := by omega
      have i3 : (n : Int) < ((n + 1 : Nat) : Int) := by omega
      clear HV hq e1 e2 hvr hn hz hpos
      go_wp2
      go_ret2
      exact ⟨by rw [HF.out.1, HF.out.2]; rfl, hbU⟩
  subst h7
  have hl2 : inn.length = 2 := hAl
  have HV : Hid (otV ms 7 sk L i inn = bkQ ms L (i : Int) ∧ otB ms 7 sk L i inn = (((!decide (bkQ ms L (i : Int) = -1) && mkB ms (L.getD i 0)) && decide (L.getD (bkQ ms L (i : Int)).toNat 0 = inn.getD 0 0)) && decide (L.getD i 0 = inn.getD 1 0))) := by
    unfold otV otB
    rw [if_pos rfl, if_pos rfl]
    exact ⟨rfl, rfl⟩
  generalize otV ms 7 sk L i inn = OV at HV ⊢
  generalize otB ms 7 sk L i inn = OB at HV ⊢
  have hbk := cback_any S na nc L ka kc ms (i : Int) W hLW hmW hI
  have HBN : Hid (bkQ ms L (i : Int) = -1 ∨ ∃ b : Nat, bkQ ms L (i : Int) = (b : Int) ∧ b < i) := bk_lt hi
  have HM : Hid (Gr El.bool S W ka kc ms) := hmW
  have HL : Hid (Ri W na nc L) := hLW
  have HA : Hid (Ri W a1 c1 inn) := hAW
  have HX : Hid (Bk 61 W w.heap.size [.slice ga s.rg.length gc, .slice ma s.rw.length mc, .slice ka ms.length kc, .slice pa cs.length pc, .slice la pn lc, .slice na L.length nc] ∧ Bk 48 W (w.heap.size + 2) (ruV a1 c1 a2 c2 ⟨inn, out, ap, lk, (x1, x2), (y1, y2), (w1, w2)⟩)) := ⟨X1, X3⟩
  clear hk hm hL hA hmW hLW hAW X1 X2 X3
  clear hAl
  have HL2 : Hid (inn.length = 2) := hl2
  clear hl2 hm2
  go_enter Tryz.func33, Tryz.ntmps33
  go_upto_region 1 with fail
  rw [← hW]
  clear hW
  go_wp2_with fail
  refine hbk.mono ?_
  rintro e u ⟨rfl, hb⟩
  have hbU := hbW.trans (hb.mono hbW.size)
  have hX1 := HX.out.1.below hb
  have hX3 := HX.out.2.below hb
  clear hbk m0 m1 m2 m3 m4 m5 x0 x1' x2' q0
  go_upto_region 4 with fail
  obtain ⟨ib, io, rfl, hib, e0⟩ := HL.out.at hb i hi
  have hLz : I64 (L.getD i 0) := HL.out.i64 hi
  obtain ⟨jb, jo, rfl, hjb, f0⟩ := HA.out.at hb 0 (by rw [HL2.out]; omega)
  obtain ⟨jb2, jo2, ej, -, f1⟩ := HA.out.at hb 1 (by rw [HL2.out]; omega)
  injection ej with ej
  injection ej with ej1 ej2
  subst ej1 ej2
  have j5 : (0 : Int) < (inn.length : Int) := by have := HL2.out; omega
  have j6 : (1 : Int) < (inn.length : Int) := by have := HL2.out; omega
  have j5n : 0 < inn.length := by have := HL2.out; omega
  have j6n : 1 < inn.length := by have := HL2.out; omega
  generalize inn.getD 0 0 = g0 at *
  generalize inn.getD 1 0 = g1 at *
  replace f0 : u.cell? ⟨jb, jo, none⟩ = some (.int .i64 g0) := f0
  replace f1 : u.cell? ⟨jb, jo + 1, none⟩ = some (.int .i64 g1) := f1
  clear HL2
  obtain ⟨-, -, -, -, -, m5⟩ := hX1.six21
  obtain ⟨q0, -⟩ := hX3.ru
  dsimp only at q0
  have i1 : (0 : Int) ≤ (i : Int) := by omega
  have i2 : (i : Int) < (L.length : Int) := by omega
  have HDR : Hid (Below u.heap.size u u.drew) := (Below.refl _ _).drew
  have HLT : Hid (w.heap.size < u.heap.size ∧ w.heap.size + 2 < u.heap.size ∧ ib < u.heap.size ∧ jb < u.heap.size) := ⟨hX1.lt, hX3.lt, Nat.lt_of_lt_of_le hib hb.size, Nat.lt_of_lt_of_le hjb hb.size⟩
  have HMk : Hid (∀ Z, Below u.heap.size u Z → Calls Tryz.prog 32 #[.slice ka ms.length kc, .int .i64 (L.getD i 0)] Z fun e w' => e = .returned (.bool (mkB ms (L.getD i 0))) ∧ Below Z.heap.size Z w') := fun Z hZ => cmark_any S ka kc ms _ Z ((HM.out.below hb).below hZ) hLz
  have HCB : Hid (∀ b : Nat, b < i → u.cell? ⟨ib, io + b, none⟩ = some (.int .i64 (L.getD b 0))) := fun b hbi => by
    obtain ⟨b1, o1, e1, _, d⟩ := HL.out.at hb b (by omega)
    injection e1 with e1
    injection e1 with e1 e2
    subst e1 e2
    exact d
  clear hX1 hX3 hib hjb hb
  rcases HBN.out with hB | ⟨b, hB, hbi⟩
  · rw [hB] at HV ⊢
    have HF : Hid (OV = -1 ∧ OB = false) := ⟨HV.out.1, HV.out.2⟩
    clear HV HBN hB
    have hdr := HDR.out
    refine wp_region_held_drew (S := fun _ => True) (by kernel_rfl) trivial (fun hHeld => ?_)
    generalize u.drew = Z at hdr ⊢
    have hfin := hbU.trans (hdr.mono hbU.size)
    refine hT 0 hHeld ?_
    refine hT 1 hHeld ?_
    refine hT 2 hHeld ?_
    refine hT 3 hHeld ?_
    refine hN 4 hHeld ?_
    refine hN 5 hHeld ?_
    refine hN 6 hHeld ?_
    refine hN 7 hHeld ?_
    refine hN 8 hHeld ?_
    refine hN 9 hHeld ?_
    refine hN 10 hHeld ?_
    refine hT 11 hHeld ?_
    refine hT 12 hHeld ?_
    refine hN 13 hHeld ?_
    refine hN 14 hHeld ?_
    refine hN 15 hHeld ?_
    refine hN 16 hHeld ?_
    refine hN 17 hHeld ?_
    refine hN 18 hHeld ?_
    refine hN 19 hHeld ?_
    refine hN 20 hHeld ?_
    refine hN 21 hHeld ?_
    refine hN 22 hHeld ?_
    refine hT 23 hHeld ?_
    refine hT 24 hHeld ?_
    refine hN 25 hHeld ?_
    refine hN 26 hHeld ?_
    refine hN 27 hHeld ?_
    refine hN 28 hHeld ?_
    refine hN 29 hHeld ?_
    refine hN 30 hHeld ?_
    refine hN 31 hHeld ?_
    refine hN 32 hHeld ?_
    refine hN 33 hHeld ?_
    refine hN 34 hHeld ?_
    refine hT 35 hHeld ?_
    refine hT 36 hHeld ?_
    refine hT 37 hHeld ?_
    refine wpAnyH_done (by kernel_rfl) ?_ _
    clear hHeld
    go_wp2
    go_ret2
    exact ⟨by rw [HF.out.1, HF.out.2]; rfl, hfin⟩
  · have hcb := HCB.out b hbi
    have hmk := HMk.out
    have gb : ((b : Int) != -1) = true := bne_iff_ne.2 (by omega)
    have HF1 : Hid (OV = (b : Int)) := by rw [← hB]; exact HV.out.1
    have HF2 : Hid (OB = ((mkB ms (L.getD i 0) && decide (L.getD b 0 = g0)) && decide (L.getD i 0 = g1))) := by
      show _ = _
      rw [HV.out.2, hB, decide_eq_false (show ¬ (b : Int) = -1 by omega), Int.toNat_natCast]
      rfl
    rw [hB]
    have i3 : (0 : Int) ≤ (b : Int) := by omega
    have i4 : (b : Int) < (L.length : Int) := by omega
    generalize mkB ms (L.getD i 0) = mk at hmk HF2
    generalize L.getD i 0 = zi at *
    generalize L.getD b 0 = zb at *
    have hdr := HDR.out
    obtain ⟨l0, l1, l2, l3⟩ := HLT.out
    clear HV HBN HCB HDR hB HMk
    refine wp_region_held_drew (S := fun v => v.cell? ⟨w.heap.size, 5, none⟩ = some (.slice (some ⟨ib, io, none⟩) L.length nc) ∧ v.cell? ⟨ib, io + i, none⟩ = some (.int .i64 zi) ∧ v.cell? ⟨ib, io + b, none⟩ = some (.int .i64 zb) ∧ v.cell? ⟨w.heap.size + 2, 0, none⟩ = some (.slice (some ⟨jb, jo, none⟩) inn.length c1) ∧ v.cell? ⟨jb, jo, none⟩ = some (.int .i64 g0) ∧ v.cell? ⟨jb, jo + 1, none⟩ = some (.int .i64 g1)) (by kernel_rfl) ⟨m5, e0, hcb, q0, f0, f1⟩ (fun hHeld => ?_)
    generalize u.drew = Z at hdr hHeld ⊢
    have hbZ := hbU.trans (hdr.mono hbU.size)
    refine hT 0 hHeld ?_
    refine hT 1 hHeld ?_
    refine hT 2 hHeld ?_
    refine hT 3 hHeld ?_
    refine hT 4 hHeld ?_
    refine hT 5 hHeld ?_
    refine hT 6 hHeld ?_
    refine hT 7 hHeld ?_
    refine hT 8 hHeld ?_
    refine hT 9 hHeld ?_
    refine hCall (i := 10) rfl (by kernel_rfl) (by rfl) (fun K hK => ?_)
    go_simp
    refine (hmk Z hdr).mono ?_
    rintro e u2 ⟨rfl, hb2⟩
    have hU2 := hdr.trans (hb2.mono hdr.size)
    have hfin := hbU.trans (hU2.mono hbU.size)
    clear hmk
    go_wp2_with fail
    refine hK.out _ _ ⟨(hU2.cell (p := ⟨w.heap.size, 5, none⟩) l0).trans m5, (hU2.cell (p := ⟨ib, io + i, none⟩) l2).trans e0, (hU2.cell (p := ⟨ib, io + b, none⟩) l2).trans hcb, (hU2.cell (p := ⟨w.heap.size + 2, 0, none⟩) l1).trans q0, (hU2.cell (p := ⟨jb, jo, none⟩) l3).trans f0, (hU2.cell (p := ⟨jb, jo + 1, none⟩) l3).trans f1⟩ (fun hHeld => ?_)
    clear hK K
    try simp only [Act.put, List.setIfInBounds_toArray, List.set_cons_zero, List.set_cons_succ]
    clear m5 e0 hcb q0 f0 f1
    cases mk with
    | false =>
      have HF : Hid (OV = (b : Int) ∧ OB = false) := ⟨HF1.out, HF2.out⟩
      refine hT 11 hHeld ?_
      refine hT 12 hHeld ?_
      refine hN 13 hHeld ?_
      refine hN 14 hHeld ?_
      refine hN 15 hHeld ?_
      refine hN 16 hHeld ?_
      refine hN 17 hHeld ?_
      refine hN 18 hHeld ?_
      refine hN 19 hHeld ?_
      refine hN 20 hHeld ?_
      refine hN 21 hHeld ?_
      refine hN 22 hHeld ?_
      refine hT 23 hHeld ?_
      refine hT 24 hHeld ?_
      refine hN 25 hHeld ?_
      refine hN 26 hHeld ?_
      refine hN 27 hHeld ?_
      refine hN 28 hHeld ?_
      refine hN 29 hHeld ?_
      refine hN 30 hHeld ?_
      refine hN 31 hHeld ?_
      refine hN 32 hHeld ?_
      refine hN 33 hHeld ?_
      refine hN 34 hHeld ?_
      refine hT 35 hHeld ?_
      refine hT 36 hHeld ?_
      refine hT 37 hHeld ?_
      refine wpAnyH_done (by kernel_rfl) ?_ _
      clear hHeld
      go_wp2
      go_ret2
      exact ⟨by rw [HF.out.1, HF.out.2]; rfl, hfin⟩
    | true =>
      rw [Bool.true_and] at HF2
      by_cases hz : zb = g0
      rotate_left
      · have HF : Hid (OV = (b : Int) ∧ OB = false) := ⟨HF1.out, by rw [HF2.out, decide_eq_false hz]; rfl⟩
        have gz : (zb == g0) = false := beq_eq_false_iff_ne.2 hz
        refine hT 11 hHeld ?_
        refine hT 12 hHeld ?_
        refine hT 13 hHeld ?_
        refine hT 14 hHeld ?_
        refine hT 15 hHeld ?_
        refine hT 16 hHeld ?_
        refine hT 17 hHeld ?_
        refine hT 18 hHeld ?_
        refine hT 19 hHeld ?_
        refine hT 20 hHeld ?_
        refine hT 21 hHeld ?_
        refine hT 22 hHeld ?_
        refine hT 23 hHeld ?_
        refine hT 24 hHeld ?_
        refine hN 25 hHeld ?_
        refine hN 26 hHeld ?_
        refine hN 27 hHeld ?_
        refine hN 28 hHeld ?_
        refine hN 29 hHeld ?_
        refine hN 30 hHeld ?_
        refine hN 31 hHeld ?_
        refine hN 32 hHeld ?_
        refine hN 33 hHeld ?_
        refine hN 34 hHeld ?_
        refine hT 35 hHeld ?_
        refine hT 36 hHeld ?_
        refine hT 37 hHeld ?_
        refine wpAnyH_done (by kernel_rfl) ?_ _
        clear hHeld
        go_wp2
        go_ret2
        exact ⟨by rw [HF.out.1, HF.out.2]; rfl, hfin⟩
      · have gz : (zb == g0) = true := beq_iff_eq.2 hz
        have HF3 : Hid (OB = decide (zi = g1)) := by show _ = _; rw [HF2.out, decide_eq_true hz, Bool.true_and]
        obtain ⟨t, ht⟩ : ∃ t, (zi == g1) = t := ⟨_, rfl⟩
        have HF : Hid (OV = (b : Int) ∧ OB = t) := ⟨HF1.out, by rw [HF3.out, ← ht]; rfl⟩
        clear hz
        refine hT 11 hHeld ?_
        refine hT 12 hHeld ?_
        refine hT 13 hHeld ?_
        refine hT 14 hHeld ?_
        refine hT 15 hHeld ?_
        refine hT 16 hHeld ?_
        refine hT 17 hHeld ?_
        refine hT 18 hHeld ?_
        refine hT 19 hHeld ?_
        refine hT 20 hHeld ?_
        refine hT 21 hHeld ?_
        refine hT 22 hHeld ?_
        refine hT 23 hHeld ?_
        refine hT 24 hHeld ?_
        refine hT 25 hHeld ?_
        refine hT 26 hHeld ?_
        refine hT 27 hHeld ?_
        refine hT 28 hHeld ?_
        refine hT 29 hHeld ?_
        refine hT 30 hHeld ?_
        refine hT 31 hHeld ?_
        refine hT 32 hHeld ?_
        refine hT 33 hHeld ?_
        refine hT 34 hHeld ?_
        refine hT 35 hHeld ?_
        refine hT 36 hHeld ?_
        refine hT 37 hHeld ?_
        refine wpAnyH_done (by kernel_rfl) ?_ _
        clear hHeld
        go_wp2
        go_ret2
        exact ⟨by rw [HF.out.1, HF.out.2]; rfl, hfin⟩

end Go.Proofs.YtchdoakoelfenaaGreat

namespace Go.Proofs.YtchdoakoelfenaaGreat
open Go.RowKit Go.Maps
set_option linter.unusedSimpArgs false
set_option linter.unusedVariables false

theorem mvP_mo {kd : Int} (h : kd ≠ 7) {P : List Pd} {i b : Nat} {dx dy w : Int} : mvP kd P i b dx dy w = ⟨(P.getD i Pd.none).g, w6 ((P.getD i Pd.none).x + dx), w6 ((P.getD i Pd.none).y + dy), w6 ((P.getD i Pd.none).a + w)⟩ := by unfold mvP; rw [if_neg h, if_neg h]
theorem mvP_an {P : List Pd} {i b : Nat} {dx dy : Int} (ha : I64 (P.getD i Pd.none).a) : mvP 7 P i b dx dy 0 = ⟨(P.getD i Pd.none).g, w6 ((P.getD b Pd.none).x + dx - adS P b (i - b)), w6 ((P.getD b Pd.none).y + dy), (P.getD i Pd.none).a⟩ := by
  unfold mvP
  rw [if_pos rfl, if_pos rfl, Int.add_zero, w6_id ha.1 ha.2, show (P.getD b Pd.none).x - adS P b (i - b) + dx = (P.getD b Pd.none).x + dx - adS P b (i - b) by omega]
/-- What comes of the first rule that applies. -/
def onR (ro re : Int × Int → Int) (kd : Int) (P : List Pd) (i : Nat) : Option (Ru × Int × Int) → Option (List Pd × Int)
  | none => some (P, (i : Int) + 1)
  | some (r, nx, b) => if re r.x = 0 ∧ re r.y = 0 ∧ re r.w = 0 then some (P.set i (mvP kd P i b.toNat (ro r.x) (ro r.y) (ro r.w)), nx) else none
theorem onP_eq {ro re : Int × Int → Int} {ms : List Bool} {x : Lk} {P : List Pd} {i : Nat} : onP ro re ms x P i = if x.sk && mkB ms ((naL P).getD i 0) then some (P, (i : Int) + 1) else onR ro re x.kd P i (fsR ms x.kd x.sk (naL P) i x.rs) := by
  unfold onP onR
  split
  · rfl
  · cases fsR ms x.kd x.sk (naL P) i x.rs <;> rfl
theorem nm_zero {re : Int × Int → Int} {r : Ru} (h : nmE re r = 0) : re r.x = 0 ∧ re r.y = 0 ∧ re r.w = 0 := by
  unfold nmE at h
  split at h
  · next h1 =>
    split at h
    · next h2 => exact ⟨h1, h2, h⟩
    · next h2 => exact absurd h h2
  · next h1 => exact absurd h h1
theorem nm_four {re : Int × Int → Int} {r : Ru} (h : nmE re r ≠ 0) (hx : re r.x = 0 ∨ re r.x = 4) (hy : re r.y = 0 ∨ re r.y = 4) (hw : re r.w = 0 ∨ re r.w = 4) : nmE re r = 4 ∧ ¬ (re r.x = 0 ∧ re r.y = 0 ∧ re r.w = 0) := by
  refine ⟨?_, fun ⟨h1, h2, h3⟩ => h (by unfold nmE; rw [if_pos h1, if_pos h2]; exact h3)⟩
  unfold nmE at h ⊢
  split
  · next h1 =>
    rw [if_pos h1] at h
    split
    · next h2 => rw [if_pos h2] at h; rcases hw with e | e; exact absurd e h; exact e
    · next h2 => rcases hy with e | e; exact absurd e h2; exact e
  · next h1 => rcases hx with e | e; exact absurd e h1; exact e
/-- What do answers. -/
structure DoM (O : Option (List Pd × Int)) (base lb lc n : Nat) (w w' : World) (e : Ending) : Prop where
  ok : ∀ Q nx, O = some (Q, nx) → e = .returned (.tuple #[.int .i64 nx, .int .i64 0]) ∧ Ln base w' (.slice (some ⟨lb, 0, none⟩) n lc) Q
  no : O = none → e = .returned (.tuple #[.int .i64 0, .int .i64 4])
  kp : Kp lb w w'
theorem DoM.yes {O : Option (List Pd × Int)} {base lb lc n : Nat} {w w' : World} {Q : List Pd} {nx : Int} (h : O = some (Q, nx)) (hl : Ln base w' (.slice (some ⟨lb, 0, none⟩) n lc) Q) (hk : Kp lb w w') : DoM O base lb lc n w w' (.returned (.tuple #[.int .i64 nx, .int .i64 0])) :=
  ⟨(fun Q2 n2 h2 => by rw [h] at h2; injection h2 with h2; injection h2 with h2 h3; subst h2 h3; exact ⟨rfl, hl⟩), (fun h2 => by rw [h] at h2; cases h2), hk⟩
theorem DoM.bad {O : Option (List Pd × Int)} {base lb lc n : Nat} {w w' : World} (h : O = none) (hk : Kp lb w w') : DoM O base lb lc n w w' (.returned (.tuple #[.int .i64 0, .int .i64 4])) :=
  ⟨(fun Q2 n2 h2 => by rw [h] at h2; cases h2), (fun _ => rfl), hk⟩

set_option maxHeartbeats 16000000 in
set_option maxRecDepth 100000 in
theorem mdo_any (Sm Sk : Nat → Prop) (ga : Option Addr) (gc : Nat) (ma : Option Addr) (mc : Nat) (s : Sr) (ka : Option Addr) (kc : Nat) (ms : List Bool) (pa : Option Addr) (pc : Nat) (cs : List Int) (lb lc : Nat) (P : List Pd) (na : Option Addr) (nc : Nat) (kd : Int) (sk : Bool) (ra : Option Addr) (rc : Nat) (rs : List Ru) (base i : Nat) (w : World)
    (hg : Tzz w ga gc s.rg) (hrw : Rii w ma mc s.rw) (hm : Gr El.bool Sm w ka kc ms) (hp : Ri w pa pc cs) (h40 : s.rg.length ≤ 40) (h8 : ∀ l ∈ s.rg, l.length ≤ 8)
    (hL : Ln base w (.slice (some ⟨lb, 0, none⟩) P.length lc) P) (hN : Ri w na nc (naL P)) (hr : Gr RuE Sk w ra rc rs) (hk : kd = 5 ∨ kd = 6 ∨ kd = 7) (hF : ∀ r ∈ rs, PrF (fiS s) kd sk r) (hi : i < P.length) :
    Calls Tryz.prog 24 #[.agg #[.slice ga s.rg.length gc, .slice ma s.rw.length mc, .slice ka ms.length kc, .slice pa cs.length pc, .slice (some ⟨lb, 0, none⟩) P.length lc, .slice na P.length nc], .agg #[.int .i64 kd, .bool sk, .slice ra rs.length rc], .int .i64 (i : Int)] w fun e w' => DoM (onP (rO s cs) (rE s cs) ms ⟨kd, sk, rs⟩ P i) base lb lc P.length w w' e := by
  have hlb : lb < w.heap.size := (Ln.lo hL (g := lb) rfl).2
  have hnl : (naL P).length = P.length := naL_len P
  have kl := hN.lenB
  rw [hnl] at kl
  have HD : Hid (onP (rO s cs) (rE s cs) ms ⟨kd, sk, rs⟩ P i = if sk && mkB ms ((naL P).getD i 0) then some (P, (i : Int) + 1) else onR (rO s cs) (rE s cs) kd P i (fsR ms kd sk (naL P) i rs)) := onP_eq
  generalize onP (rO s cs) (rE s cs) ms ⟨kd, sk, rs⟩ P i = O at HD ⊢
  obtain ⟨W, hW⟩ : ∃ W, W = (w.alloc (.cells #[.slice ga s.rg.length gc, .slice ma s.rw.length mc, .slice ka ms.length kc, .slice pa cs.length pc, .slice (some ⟨lb, 0, none⟩) P.length lc, .slice na P.length nc] 61)).alloc (.cells #[.int .i64 kd, .bool sk, .slice ra rs.length rc] 51) := ⟨_, rfl⟩
  obtain ⟨X1, X2, hbW⟩ : Bk 61 W w.heap.size [.slice ga s.rg.length gc, .slice ma s.rw.length mc, .slice ka ms.length kc, .slice pa cs.length pc, .slice (some ⟨lb, 0, none⟩) P.length lc, .slice na P.length nc] ∧ Bk 51 W (w.heap.size + 1) [.int .i64 kd, .bool sk, .slice ra rs.length rc] ∧ Below w.heap.size w W := by
    rw [hW]
    exact new2B w 61 51 [.slice ga s.rg.length gc, .slice ma s.rw.length mc, .slice ka ms.length kc, .slice pa cs.length pc, .slice (some ⟨lb, 0, none⟩) P.length lc, .slice na P.length nc] [.int .i64 kd, .bool sk, .slice ra rs.length rc]
  have HX : Hid (Bk 61 W w.heap.size [.slice ga s.rg.length gc, .slice ma s.rw.length mc, .slice ka ms.length kc, .slice pa cs.length pc, .slice (some ⟨lb, 0, none⟩) P.length lc, .slice na P.length nc] ∧ Bk 51 W (w.heap.size + 1) [.int .i64 kd, .bool sk, .slice ra rs.length rc]) := ⟨X1, X2⟩
  have HBW : Hid (Below w.heap.size w W) := hbW
  have HG : Hid (Tzz W ga gc s.rg) := hg.below hbW
  have HRW : Hid (Rii W ma mc s.rw) := hrw.below hbW
  have HM : Hid (Gr El.bool Sm W ka kc ms) := hm.below hbW
  have HP : Hid (Ri W pa pc cs) := hp.below hbW
  have HLN : Hid (Ln base W (.slice (some ⟨lb, 0, none⟩) P.length lc) P) := hL.below hbW
  have HN : Hid (Ri W na nc (naL P)) := hN.below hbW
  have HR : Hid (Gr RuE Sk W ra rc rs) := hr.below hbW
  have HF : Hid (∀ r ∈ rs, PrF (fiS s) kd sk r) := hF
  have HKW : Hid (Kp lb w W) := Kp.of hbW
  have hkr := hr.lenB
  obtain ⟨nb, no, ena, hnb, c0⟩ := hN.at hbW i (by rw [hnl]; exact hi)
  subst ena
  have hNi : I64 ((naL P).getD i 0) := hN.i64 (by rw [hnl]; exact hi)
  have HMK : Hid (∀ Z, Below W.heap.size W Z → Calls Tryz.prog 32 #[.slice ka ms.length kc, .int .i64 ((naL P).getD i 0)] Z fun e w' => e = .returned (.bool (mkB ms ((naL P).getD i 0))) ∧ Below Z.heap.size Z w') := fun Z hZ => cmark_any Sm ka kc ms _ Z (HM.out.below hZ) hNi
  generalize (naL P).getD i 0 = z at *
  have hnbW : nb < W.heap.size := Nat.lt_of_lt_of_le hnb hbW.size
  have i1 : (0 : Int) ≤ (i : Int) := by omega
  have i2 : (i : Int) < (P.length : Int) := by omega
  have HNL : Hid ((naL P).length = P.length) := hnl
  clear hg hrw hm hp hL hN hr hF hbW hNi hnl X1 X2
  go_enter Tryz.func24, Tryz.ntmps24
  go_upto_region 1 with fail
  rw [← hW]
  clear hW
  go_cut [26] from 14 to 26 (fun v wx => v = .bool (sk && mkB ms z) ∧ Below W.heap.size W wx)
  case first =>
    obtain ⟨m0, m1, m2, m3, m4, m5⟩ := HX.out.1.six21
    obtain ⟨x0, x1, x2, -⟩ := HX.out.2.three
    have lt0 : w.heap.size < W.heap.size := HX.out.1.lt
    have lt1 : w.heap.size + 1 < W.heap.size := HX.out.2.lt
    have hmk := HMK.out
    refine wp_region_held_drew (S := fun u => u.cell? ⟨w.heap.size + 1, 1, none⟩ = some (.bool sk) ∧ u.cell? ⟨w.heap.size, 2, none⟩ = some (.slice ka ms.length kc) ∧ u.cell? ⟨w.heap.size, 5, none⟩ = some (.slice (some ⟨nb, no, none⟩) P.length nc) ∧ u.cell? ⟨nb, no + i, none⟩ = some (.int .i64 z)) (by kernel_rfl) ⟨x1, m2, m5, c0⟩ (fun hHeld => ?_)
    have hdr : Below W.heap.size W W.drew := (Below.refl _ _).drew
    generalize W.drew = Z at hdr hHeld ⊢
    clear HD HX HBW HG HRW HM HP HLN HN HR HF HKW HMK HNL
    refine hT 0 hHeld ?_
    refine hT 1 hHeld ?_
    refine hT 2 hHeld ?_
    cases sk with
    | false =>
      refine hN 3 hHeld ?_
      refine hN 4 hHeld ?_
      refine hN 5 hHeld ?_
      refine hN 6 hHeld ?_
      refine hN 7 hHeld ?_
      refine hN 8 hHeld ?_
      refine hN 9 hHeld ?_
      refine hN 10 hHeld ?_
      refine hN 11 hHeld ?_
      refine hT 12 hHeld ?_
      refine wpAnyH_done (by kernel_rfl) ?_ _
      clear hmk m0 m1 m2 m3 m4 m5 x0 x1 x2 c0 hHeld
      go_wp2
      go_meet
      exact ⟨rfl, hdr⟩
    | true =>
      have hmz := hmk Z hdr
      clear hmk
      obtain ⟨q, hq⟩ : ∃ q, mkB ms z = q := ⟨_, rfl⟩
      rw [hq] at hmz
      have HQ : Hid (mkB ms z = q) := hq
      clear hq
      refine hT 3 hHeld ?_
      refine hT 4 hHeld ?_
      refine hT 5 hHeld ?_
      refine hT 6 hHeld ?_
      refine hT 7 hHeld ?_
      refine hT 8 hHeld ?_
      refine hT 9 hHeld ?_
      refine hT 10 hHeld ?_
      refine hCall (i := 11) rfl (by kernel_rfl) (by rfl) (fun K hK => ?_)
      go_simp
      refine hmz.mono ?_
      rintro e u ⟨rfl, hbu⟩
      have hUu := hdr.trans (hbu.mono hdr.size)
      clear hmz
      go_wp2_with fail
      refine hK.out _ _ ⟨(hUu.cell (p := ⟨w.heap.size + 1, 1, none⟩) lt1).trans x1, (hUu.cell (p := ⟨w.heap.size, 2, none⟩) lt0).trans m2, (hUu.cell (p := ⟨w.heap.size, 5, none⟩) lt0).trans m5, (hUu.cell (p := ⟨nb, no + i, none⟩) hnbW).trans c0⟩ (fun hHeld => ?_)
      clear hK K
      try simp only [Act.put, List.setIfInBounds_toArray, List.set_cons_zero, List.set_cons_succ]
      refine hT 12 hHeld ?_
      refine wpAnyH_done (by kernel_rfl) ?_ _
      clear m0 m1 m2 m3 m4 m5 x0 x1 x2 c0 hHeld
      go_wp2
      go_meet
      exact ⟨by rw [HQ.out, Bool.true_and], hUu⟩
  case rest =>
    obtain ⟨rfl, hBc⟩ := hcut
    obtain ⟨bq, hq⟩ : ∃ bq, (sk && mkB ms z) = bq := ⟨_, rfl⟩
    rw [hq] at HD ⊢
    clear hq c0 HMK
    cases bq with
    | true =>
      have HV : Hid (DoM O base lb lc P.length w wc (.returned (.tuple #[.int .i64 ((i : Int) + 1), .int .i64 0]))) := DoM.yes (by rw [HD.out, if_pos rfl]) (HLN.out.below hBc) (HKW.out.trans (Kp.of hBc))
      clear HD
      go_wp2
      go_ret2
      exact HV.out
    | false =>
    have HD2 : Hid (O = onR (rO s cs) (rE s cs) kd P i (fsR ms kd sk (naL P) i (rs.drop 0))) := by show _ = _; rw [HD.out, if_neg (by decide)]; rfl
    clear HD
    obtain ⟨x0, x1, x2, -⟩ := (HX.out.2.below hBc).three
    go_wp2
    clear x0 x1 x2
    go_loopw [32] (fun v wr => ∃ r : Nat, r ≤ rs.length ∧ v = .int .i64 r ∧ Hid (O = onR (rO s cs) (rE s cs) kd P i (fsR ms kd sk (naL P) i (rs.drop r))) ∧ Below W.heap.size W wr) (fun v _ => rs.length - (intOf v).toNat)
    case atStart => exact ⟨0, Nat.zero_le _, rfl, HD2, hBc⟩
    case round =>
      clear HD2 hBc
      obtain ⟨r, hr, rfl, HDR, hB⟩ := hrel
      by_cases hrn : r < rs.length
      rotate_left
      · have HV : Hid (DoM O base lb lc P.length w wr (.returned (.tuple #[.int .i64 ((i : Int) + 1), .int .i64 0]))) := DoM.yes (by rw [HDR.out, show r = rs.length by omega, fsR_end]; rfl) (HLN.out.below hB) (HKW.out.trans (Kp.of hB))
        have g4 : ¬ (r : Int) < (rs.length : Int) := by omega
        clear HDR
        go_wp2
        go_ret2
        exact HV.out
      · obtain ⟨rb, ro, a1, c1, a2, c2, er, hrb, hI, hin, hou, k0, k1, k2, k3, k4, k5, k6, k7, k8, k9⟩ := HR.out.ru10 hB r hrn
        have HFX : Hid (PrF (fiS s) kd sk (rs.getD r Ru.none)) := HF.out _ (by rw [List.getD_eq_getElem?_getD, List.getElem?_eq_getElem hrn]; exact List.getElem_mem hrn)
        have HSK : Hid (apN ms kd sk (naL P) i (rs.getD r Ru.none).inn = none → O = onR (rO s cs) (rE s cs) kd P i (fsR ms kd sk (naL P) i (rs.drop (r + 1)))) := fun h => by rw [HDR.out, fsR_skip hrn h]
        have HMT : Hid (∀ p, apN ms kd sk (naL P) i (rs.getD r Ru.none).inn = some p → O = onR (rO s cs) (rE s cs) kd P i (some (rs.getD r Ru.none, p))) := fun p h => by rw [HDR.out, fsR_met hrn h]
        obtain ⟨x, hx⟩ : ∃ x, rs.getD r Ru.none = x := ⟨_, rfl⟩
        rw [hx] at hI hin hou k0 k1 k2 k3 k4 k5 k6 k7 k8 k9 HFX HSK HMT
        clear hx HDR
        obtain ⟨inn, out, ap, lk, ⟨x1, x2⟩, ⟨y1, y2⟩, ⟨w1, w2⟩⟩ := x
        dsimp only at k0 k1 k2 k3 k4 k5 k6 k7 k8 k9 hin hou HSK HMT
        obtain ⟨f1, f2, f34, f56, f78⟩ := hI
        dsimp only at f1 f2 f34 f56 f78
        have HAP : Hid (apN ms kd sk (naL P) i inn = if otB ms kd sk (naL P) i inn then some (if kd = 6 then otV ms kd sk (naL P) i inn else (i : Int) + 1, if kd = 7 then otV ms kd sk (naL P) i inn else 0) else none) := ap_ot (by rw [HNL.out]; exact hi) HFX.out.inn hk
        have HOT7 : Hid (otB ms kd sk (naL P) i inn = true → kd = 7 → ∃ b : Nat, otV ms kd sk (naL P) i inn = (b : Int) ∧ b < i) := ot_seven (by rw [HNL.out]; exact hi)
        subst er
        have i5 : (0 : Int) ≤ (r : Int) := by omega
        have i6 : (r : Int) < (rs.length : Int) := by omega
        obtain ⟨V, hV, XV, hbV⟩ : ∃ V, V = wr.alloc (.cells #[.slice a1 inn.length c1, .slice a2 out.length c2, .int .i64 ap, .int .i64 lk, .int .i64 x1, .int .i64 x2, .int .i64 y1, .int .i64 y2, .int .i64 w1, .int .i64 w2] 48) ∧ Bk 48 V wr.heap.size (ruV a1 c1 a2 c2 ⟨inn, out, ap, lk, (x1, x2), (y1, y2), (w1, w2)⟩) ∧ Below wr.heap.size wr V := ⟨_, rfl, Bk.new _ _ (ruV a1 c1 a2 c2 ⟨inn, out, ap, lk, (x1, x2), (y1, y2), (w1, w2)⟩), bl1 _⟩
        have hWV := hB.trans (hbV.mono hB.size)
        have hot := other_any Sm ga gc ma mc s ka kc ms pa pc cs (some ⟨lb, 0, none⟩) P.length lc (some ⟨nb, no, none⟩) nc (naL P) kd sk (some ⟨rb, ro, none⟩) rs.length rc a1 c1 a2 c2 inn out ap lk x1 x2 y1 y2 w1 w2 i V (HM.out.below hWV) (HN.out.below hWV) (hin.below hbV).ri (by rw [HNL.out]; exact hi) HFX.out.inn hk
        rw [HNL.out] at hot
        have hnu := fun U (hU : Below W.heap.size W U) => numbers_any ga gc ma mc s ka kc ms pa pc cs (some ⟨lb, 0, none⟩) P.length lc (some ⟨nb, no, none⟩) P.length nc a1 c1 a2 c2 inn out ap lk x1 x2 y1 y2 w1 w2 U (HG.out.below hU) (HRW.out.below hU) (HP.out.below hU) h40 h8 f34 f56 f78
        generalize otB ms kd sk (naL P) i inn = OB at hot HAP HOT7
        generalize otV ms kd sk (naL P) i inn = OV at hot HAP HOT7
        clear hin hou f34 f56 f78 f1 f2
        go_upto_region 6 with fail
        rw [← hV]
        clear hV k0 k1 k2 k3 k4 k5 k6 k7 k8 k9 hbV hB
        obtain ⟨m0, m1, m2, m3, m4, m5⟩ := (HX.out.1.below hWV).six21
        obtain ⟨x0, xx1, xx2, -⟩ := (HX.out.2.below hWV).three
        obtain ⟨q0, q1, q2, q3, q4, q5, q6, q7, q8, q9⟩ := XV.ru
        dsimp only at q0 q1 q2 q3 q4 q5 q6 q7 q8 q9
        go_wp2_with fail
        refine hot.mono ?_
        rintro e u ⟨rfl, hb⟩
        have hWu := hWV.trans (hb.mono hWV.size)
        replace XV := XV.below hb
        clear hot hb hWV m0 m1 m2 m3 m4 m5 x0 xx1 xx2 q0 q1 q2 q3 q4 q5 q6 q7 q8 q9
        cases OB with
        | false =>
          have HDN : Hid (O = onR (rO s cs) (rE s cs) kd P i (fsR ms kd sk (naL P) i (rs.drop (r + 1)))) := HSK.out (by rw [HAP.out]; rfl)
          clear HSK HMT HAP HOT7 XV hnu HFX
          go_wp2
          go_roundw
          case rel => exact ⟨r + 1, by omega, by go_num, HDN, hWu⟩
          case measure => simp [intOf]; omega
        | true =>
        have HDO : Hid (O = onR (rO s cs) (rE s cs) kd P i (some (⟨inn, out, ap, lk, (x1, x2), (y1, y2), (w1, w2)⟩, if kd = 6 then OV else (i : Int) + 1, if kd = 7 then OV else 0))) := HMT.out _ HAP.out
        have hn2 := hnu u hWu
        have hfx : rE s cs (x1, x2) = 0 ∨ rE s cs (x1, x2) = 4 := roE_fi HFX.out.fx
        have hfy : rE s cs (y1, y2) = 0 ∨ rE s cs (y1, y2) = 4 := roE_fi HFX.out.fy
        have hfw : rE s cs (w1, w2) = 0 ∨ rE s cs (w1, w2) = 4 := roE_fi HFX.out.fw
        have HAN : Hid (kd = 7 → rO s cs (w1, w2) = 0) := fun h => by
          have h1 := HFX.out.fw
          have h2 := (HFX.out.an h).2
          rw [h2] at h1
          have h3 : ((w1, w2) : Int × Int) = (0, -1) := h2
          rw [h3]
          exact (ro_flat (s := s) (cs := cs) h1).1
        clear hnu HSK HMT HAP HFX
        obtain ⟨m0, m1, m2, m3, m4, m5⟩ := (HX.out.1.below hWu).six21
        obtain ⟨x0, xx1, xx2, -⟩ := (HX.out.2.below hWu).three
        obtain ⟨q0, q1, q2, q3, q4, q5, q6, q7, q8, q9⟩ := XV.ru
        dsimp only at q0 q1 q2 q3 q4 q5 q6 q7 q8 q9
        by_cases hNE : nmE (rE s cs) ⟨inn, out, ap, lk, (x1, x2), (y1, y2), (w1, w2)⟩ = 0
        rotate_left
        · obtain ⟨h4, h5⟩ := nm_four hNE hfx hfy hfw
          have e1 : nmL (rO s cs) (rE s cs) ⟨inn, out, ap, lk, (x1, x2), (y1, y2), (w1, w2)⟩ = [0, 0, 0] := by unfold nmL; rw [if_neg hNE]
          rw [h4, e1] at hn2
          replace hn2 : Calls _ _ _ _ (fun e w' => e = .returned (.tuple #[.agg #[.int .i64 0, .int .i64 0, .int .i64 0], .int .i64 4]) ∧ Below u.heap.size u w') := hn2
          have HON : Hid (O = none) := by show _ = _; rw [HDO.out]; exact if_neg h5
          clear HDO hNE h4 h5 e1 hfx hfy hfw HAN HOT7
          go_wp2_with fail
          refine hn2.mono ?_
          rintro e u2 ⟨rfl, hb⟩
          have hW2 := hWu.trans (hb.mono hWu.size)
          clear hn2 hb XV m0 m1 m2 m3 m4 m5 x0 xx1 xx2 q0 q1 q2 q3 q4 q5 q6 q7 q8 q9
          have HV : Hid (∀ U, Below u2.heap.size u2 U → DoM O base lb lc P.length w U (.returned (.tuple #[.int .i64 0, .int .i64 4]))) := fun U hU => DoM.bad HON.out (HKW.out.trans (Kp.of (hW2.trans (hU.mono hW2.size))))
          go_wp2
          go_ret2
          exact HV.out _ (bl1 _)
        obtain ⟨z1, z2, z3⟩ := nm_zero hNE
        dsimp only at z1 z2 z3
        have e1 : nmL (rO s cs) (rE s cs) ⟨inn, out, ap, lk, (x1, x2), (y1, y2), (w1, w2)⟩ = [rO s cs (x1, x2), rO s cs (y1, y2), rO s cs (w1, w2)] := by unfold nmL; rw [if_pos hNE]
        rw [hNE, e1] at hn2
        have HON : Hid (O = some (P.set i (mvP kd P i (if kd = 7 then OV else 0).toNat (rO s cs (x1, x2)) (rO s cs (y1, y2)) (rO s cs (w1, w2))), if kd = 6 then OV else (i : Int) + 1)) := by show _ = _; rw [HDO.out]; exact if_pos ⟨z1, z2, z3⟩
        replace hn2 : Calls _ _ _ _ (fun e w' => e = .returned (.tuple #[.agg #[.int .i64 (rO s cs (x1, x2)), .int .i64 (rO s cs (y1, y2)), .int .i64 (rO s cs (w1, w2))], .int .i64 0]) ∧ Below u.heap.size u w') := hn2
        clear HDO hNE e1 hfx hfy hfw z1 z2 z3
        generalize rO s cs (x1, x2) = n0 at *
        generalize rO s cs (y1, y2) = n1 at *
        generalize rO s cs (w1, w2) = n2 at *
        go_wp2_with fail
        refine hn2.mono ?_
        rintro e u2 ⟨rfl, hb⟩
        have hW2 := hWu.trans (hb.mono hWu.size)
        clear hn2 hb XV m0 m1 m2 m3 m4 m5 x0 xx1 xx2 q0 q1 q2 q3 q4 q5 q6 q7 q8 q9 hWu
        obtain ⟨U, hU, XN, hbU⟩ : ∃ U, U = u2.alloc (.cells #[.int .i64 n0, .int .i64 n1, .int .i64 n2] 79) ∧ Bk 79 U u2.heap.size [.int .i64 n0, .int .i64 n1, .int .i64 n2] ∧ Below u2.heap.size u2 U := ⟨_, rfl, Bk.new _ _ _, bl1 _⟩
        have hWU := hW2.trans (hbU.mono hW2.size)
        go_upto_region 9 with fail
        rw [← hU]
        clear hU hbU hW2
        obtain ⟨m0, m1, m2, m3, m4, m5⟩ := (HX.out.1.below hWU).six21
        obtain ⟨x0, xx1, xx2, -⟩ := (HX.out.2.below hWU).three
        obtain ⟨⟨c0, c1', c2'⟩, -⟩ := XN.three3
        have HLU : Hid (Ln base U (.slice (some ⟨lb, 0, none⟩) P.length lc) P) := HLN.out.below hWU
        have HXU : Hid (Bk 51 U (w.heap.size + 1) [.int .i64 kd, .bool sk, .slice (some ⟨rb, ro, none⟩) rs.length rc]) := HX.out.2.below hWU
        have HKU : Hid (Kp lb w U) := HKW.out.trans (Kp.of hWU)
        have hne : w.heap.size + 1 ≠ lb := by omega
        have hcA := fun b hb2 => manchor_any ga gc ma mc s ka kc ms pa pc cs lb lc (some ⟨nb, no, none⟩) P.length nc P base i b n0 n1 n2 U HLU.out hi hb2 _ _ rfl rfl
        have hcM := mmove_any ga gc ma mc s ka kc ms pa pc cs lb lc (some ⟨nb, no, none⟩) P.length nc P base i n0 n1 n2 U HLU.out hi _ rfl
        have hIa : I64 (P.getD i Pd.none).a := ((HLU.out).at hi).2.2.2.2.2.1.2.2.2
        rcases hk with rfl | rfl | rfl
        · have HON5 : Hid (O = some (P.set i ⟨(P.getD i Pd.none).g, w6 ((P.getD i Pd.none).x + n0), w6 ((P.getD i Pd.none).y + n1), w6 ((P.getD i Pd.none).a + n2)⟩, (i : Int) + 1)) := by have := HON.out; rw [mvP_mo (by decide)] at this; exact this
          clear HON hcA hIa HAN HOT7
          go_wp2_with fail
          refine hcM.mono ?_
          rintro e u3 ⟨rfl, hL3, hK3⟩
          have X3 := HXU.out.kp hK3 hne
          clear hcM m0 m1 m2 m3 m4 m5 x0 xx1 xx2 c0 c1' c2' XN
          obtain ⟨x0, -⟩ := X3.three
          have HV : Hid (DoM O base lb lc P.length w u3 (.returned (.tuple #[.int .i64 ((i : Int) + 1), .int .i64 0]))) := DoM.yes HON5.out hL3 (HKU.out.trans hK3)
          clear hL3 hK3 X3
          go_wp2
          go_ret2
          exact HV.out
        · have HON6 : Hid (O = some (P.set i ⟨(P.getD i Pd.none).g, w6 ((P.getD i Pd.none).x + n0), w6 ((P.getD i Pd.none).y + n1), w6 ((P.getD i Pd.none).a + n2)⟩, OV)) := by have := HON.out; rw [mvP_mo (by decide)] at this; exact this
          clear HON hcA hIa HAN HOT7
          go_wp2_with fail
          refine hcM.mono ?_
          rintro e u3 ⟨rfl, hL3, hK3⟩
          have X3 := HXU.out.kp hK3 hne
          clear hcM m0 m1 m2 m3 m4 m5 x0 xx1 xx2 c0 c1' c2' XN
          obtain ⟨x0, -⟩ := X3.three
          have HV : Hid (DoM O base lb lc P.length w u3 (.returned (.tuple #[.int .i64 OV, .int .i64 0]))) := DoM.yes HON6.out hL3 (HKU.out.trans hK3)
          clear hL3 hK3 X3
          go_wp2
          go_ret2
          exact HV.out
        · obtain ⟨b, rfl, hbi⟩ := HOT7.out (by first | rfl | trivial) (by first | rfl | trivial)
          have HON7 : Hid (O = some (P.set i ⟨(P.getD i Pd.none).g, w6 ((P.getD b Pd.none).x + n0 - adS P b (i - b)), w6 ((P.getD b Pd.none).y + n1), (P.getD i Pd.none).a⟩, (i : Int) + 1)) := by
            have := HON.out
            rw [HAN.out (by first | rfl | trivial), if_pos rfl, Int.toNat_natCast, mvP_an hIa] at this
            exact this
          have hcB := hcA b hbi
          clear HON hcA hcM hIa HAN HOT7
          go_wp2_with fail
          refine hcB.mono ?_
          rintro e u3 ⟨rfl, hL3, hK3⟩
          have X3 := HXU.out.kp hK3 hne
          clear hcB m0 m1 m2 m3 m4 m5 x0 xx1 xx2 c0 c1' c2' XN
          obtain ⟨x0, -⟩ := X3.three
          have HV : Hid (DoM O base lb lc P.length w u3 (.returned (.tuple #[.int .i64 ((i : Int) + 1), .int .i64 0]))) := DoM.yes HON7.out hL3 (HKU.out.trans hK3)
          clear hL3 hK3 X3
          go_wp2
          go_ret2
          exact HV.out

end Go.Proofs.YtchdoakoelfenaaGreat
