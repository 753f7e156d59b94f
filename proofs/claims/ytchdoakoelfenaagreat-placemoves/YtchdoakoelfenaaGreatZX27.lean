/-
  foundryref21.applies: the walk.
  foundryref03.Coordinate: the walk.
  foundryref09.Formed: the walk.
  foundryref01.Trim, Same; foundrylaw01.same: the walks.
-/
import Derived.Test.YtchdoakoelfenaaGreatZX5
import Derived.Test.YtchdoakoelfenaaGreatZX26
import Derived.Test.YtchdoakoelfenaaGreatZX15
import Derived.Deep.CutBlock
import Derived.Deep.CutRange
import Derived.BigQuiet
import Derived.Deep.QuietTactic
import Derived.WalkSmall
import Derived.Outline
import Derived.Test.YtchdoakoelfenaaGreatZX13
import Derived.Test.YtchdoakoelfenaaGreatZX14
import Derived.Test.YtchdoakoelfenaaGreatZX7
namespace Go.Proofs.YtchdoakoelfenaaGreat
open Go.RowKit Go.Maps
set_option linter.unusedSimpArgs false
set_option linter.unusedVariables false

/-- What applies answers. -/
structure ApS (O : Option (Int × Int)) (e : Ending) : Prop where
  out : ∃ ok nx b, e = .returned (.tuple #[.bool ok, .int .i64 nx, .int .i64 b]) ∧ (O = none → ok = false) ∧ ∀ p, O = some p → ok = true ∧ nx = p.1 ∧ b = p.2
theorem ApS.no {O : Option (Int × Int)} {nx b : Int} (h : O = none) : ApS O (.returned (.tuple #[.bool false, .int .i64 nx, .int .i64 b])) := ⟨false, nx, b, rfl, (fun _ => rfl), (fun p hp => by rw [h] at hp; cases hp)⟩
theorem ApS.yes {O : Option (Int × Int)} {nx b : Int} (h : O = some (nx, b)) : ApS O (.returned (.tuple #[.bool true, .int .i64 nx, .int .i64 b])) := ⟨true, nx, b, rfl, (fun hp => by rw [h] at hp; cases hp), (fun p hp => by rw [h] at hp; injection hp with hp; subst hp; exact ⟨rfl, rfl, rfl⟩)⟩
theorem ap_five {ms : List Bool} {sk : Bool} {L : List Int} {i : Nat} {A : List Int} : apN ms 5 sk L i A = if A.getD 0 0 = L.getD i 0 then some ((i : Int) + 1, 0) else none := rfl
theorem ap_six {ms : List Bool} {sk : Bool} {L : List Int} {i : Nat} {A : List Int} : apN ms 6 sk L i A = (meQ ms L sk (i : Int) A).map (fun m => (m.getD 1 0, 0)) := rfl
theorem ap_svn {ms : List Bool} {sk : Bool} {L : List Int} {i : Nat} {A : List Int} : apN ms 7 sk L i A = if mkB ms (L.getD i 0) = true ∧ A.getD 1 0 = L.getD i 0 ∧ bkQ ms L (i : Int) ≠ -1 ∧ A.getD 0 0 = L.getD (bkQ ms L (i : Int)).toNat 0 then some ((i : Int) + 1, bkQ ms L (i : Int)) else none := rfl

set_option maxHeartbeats 8000000 in
set_option maxRecDepth 100000 in
theorem sapplies_any (S : Nat → Prop) (ga : Option Addr) (gc : Nat) (ma : Option Addr) (mc : Nat) (s : Sr) (ka : Option Addr) (kc : Nat) (ms : List Bool) (pa : Option Addr) (pc : Nat) (cs : List Int) (na : Option Addr) (nc : Nat) (L : List Int) (kd : Int) (sk : Bool) (ra : Option Addr) (rn rc : Nat) (a1 : Option Addr) (c1 : Nat) (a2 : Option Addr) (c2 : Nat) (inn out : List Int) (ap lk x1 x2 y1 y2 w1 w2 : Int) (i : Nat) (w : World)
    (hm : Gr El.bool S w ka kc ms) (hL : Ri w na nc L) (hA : Ri w a1 c1 inn) (hi : i < L.length) (hAl : inn.length = inN kd) (hk : kd = 5 ∨ kd = 6 ∨ kd = 7) :
    Calls Tryz.prog 27 #[.agg #[.int .i64 kd, .bool sk, .slice ra rn rc], .agg #[.slice a1 inn.length c1, .slice a2 out.length c2, .int .i64 ap, .int .i64 lk, .int .i64 x1, .int .i64 x2, .int .i64 y1, .int .i64 y2, .int .i64 w1, .int .i64 w2], .agg #[.slice ga s.rg.length gc, .slice ma s.rw.length mc, .slice ka ms.length kc, .slice pa cs.length pc], .slice na L.length nc, .int .i64 (i : Int)] w fun e w' => ApS (apN ms kd sk L i inn) e ∧ Below w.heap.size w w' := by
  have kl := hL.lenB
  obtain ⟨W, hW⟩ : ∃ W, W = ((w.alloc (.cells #[.int .i64 kd, .bool sk, .slice ra rn rc] 51)).alloc (.cells #[.slice a1 inn.length c1, .slice a2 out.length c2, .int .i64 ap, .int .i64 lk, .int .i64 x1, .int .i64 x2, .int .i64 y1, .int .i64 y2, .int .i64 w1, .int .i64 w2] 48)).alloc (.cells #[.slice ga s.rg.length gc, .slice ma s.rw.length mc, .slice ka ms.length kc, .slice pa cs.length pc] 40) := ⟨_, rfl⟩
  obtain ⟨X1, X2, X3, hbW⟩ := new3B w 51 48 40 [.int .i64 kd, .bool sk, .slice ra rn rc] (ruV a1 c1 a2 c2 ⟨inn, out, ap, lk, (x1, x2), (y1, y2), (w1, w2)⟩) [.slice ga s.rg.length gc, .slice ma s.rw.length mc, .slice ka ms.length kc, .slice pa cs.length pc] W hW
  obtain ⟨x0, x1', x2', -⟩ := X1.three
  obtain ⟨q0, -⟩ := X2.ru
  dsimp only at q0
  obtain ⟨m0, m1, m2, m3, -⟩ := X3.four
  have hmW := hm.below hbW
  have hLW := hL.below hbW
  have hAW := hA.below hbW
  have hI : I64 (i : Int) := ⟨by omega, by omega⟩
  have i1 : (0 : Int) ≤ (i : Int) := by omega
  have i2 : (i : Int) < (L.length : Int) := by omega
  have hLz : I64 (L.getD i 0) := hL.i64 hi
  obtain ⟨ib, io, ena, hib, e0⟩ := hL.at hbW i hi
  rcases hk with rfl | rfl | rfl
  · have hl1 : inn.length = 1 := hAl
    have HO : Hid (apN ms 5 sk L i inn = if inn.getD 0 0 = L.getD i 0 then some ((i : Int) + 1, 0) else none) := ap_five
    obtain ⟨jb, jo, eaa, hjb, f0⟩ := hA.at hbW 0 (by omega)
    generalize apN ms 5 sk L i inn = O at HO ⊢
    generalize inn.getD 0 0 = g0 at *
    generalize L.getD i 0 = z at *
    replace f0 : W.cell? ⟨jb, jo, none⟩ = some (.int .i64 g0) := f0
    have j5 : (0 : Int) < (inn.length : Int) := by omega
    have j5n : 0 < inn.length := by omega
    subst ena eaa
    have HV : Hid (∀ t, (g0 == z) = t → ∀ W', ApS O (.returned (.tuple #[.bool t, .int .i64 ((i : Int) + 1), .int .i64 0])) ∧ (Below w.heap.size w W' → Below w.heap.size w W')) := fun t ht W' => by
      refine ⟨?_, id⟩
      cases t with
      | true => exact ApS.yes (by rw [HO.out, if_pos (beq_iff_eq.1 ht)])
      | false => exact ApS.no (by rw [HO.out, if_neg (beq_eq_false_iff_ne.1 ht)])
    obtain ⟨t, ht⟩ : ∃ t, (g0 == z) = t := ⟨_, rfl⟩
    have HV2 : Hid (ApS O (.returned (.tuple #[.bool t, .int .i64 ((i : Int) + 1), .int .i64 0]))) := (HV.out t ht W).1
    clear hm hL hA hmW hLW hAW X1 X2 X3 hAl HO HV hl1
    go_enter Tryz.func27, Tryz.ntmps27
    go_upto_region 1 with fail
    rw [← hW]
    clear hW
    go_wp2_with fail
    go_quiet (fail)
    go_wp2
    go_ret3
    exact ⟨HV2.out, below_drewN hbW _⟩
  · have hl2 : inn.length = 2 := hAl
    have HO : Hid (apN ms 6 sk L i inn = (meQ ms L sk (i : Int) inn).map (fun m => (m.getD 1 0, 0))) := ap_six
    generalize apN ms 6 sk L i inn = O at HO ⊢
    have HL2 : Hid (inn.length = 2) := hl2
    have hme := smeet_any S na nc L ka kc ms (i : Int) a1 c1 inn sk W hLW hmW hI hAW (by omega)
    clear hm hL hA hmW hLW hAW X1 X2 X3 hAl ena e0 hl2
    go_enter Tryz.func27, Tryz.ntmps27
    go_upto_region 1 with fail
    rw [← hW]
    clear hW
    go_wp2_with fail
    refine hme.mono ?_
    rintro e u ⟨⟨v, rfl, hv⟩, hb⟩
    have hbU := hbW.trans (hb.mono hbW.size)
    obtain ⟨va, vc, rfl, hvr⟩ := hv.slice
    clear hme hv hb m0 m1 m2 m3 x0 x1' x2' q0
    cases hq : meQ ms L sk (i : Int) inn with
    | none =>
      have e1 : meB ms L sk (i : Int) inn = false := by unfold meB; rw [hq]; rfl
      have HF : Hid (∀ a b : Int, ApS O (.returned (.tuple #[.bool false, .int .i64 a, .int .i64 b]))) := fun a b => ApS.no (by rw [HO.out, hq]; rfl)
      rw [e1]
      clear HO hq e1 hvr
      go_wp2
      go_ret3
      exact ⟨HF.out _ _, hbU⟩
    | some m =>
      have e1 : meB ms L sk (i : Int) inn = true := by unfold meB; rw [hq]; rfl
      have e2 : meL ms L sk (i : Int) inn = m := by unfold meL; rw [hq]; rfl
      have hml := (me_r hq).len
      rw [HL2.out] at hml
      have HF : Hid (ApS O (.returned (.tuple #[.bool true, .int .i64 (m.getD 1 0), .int .i64 0]))) := ApS.yes (by rw [HO.out, hq]; rfl)
      rw [e1, e2]
      rw [e2] at hvr
      obtain ⟨b, o, rfl, hbl, c0⟩ := hvr.at (Below.refl _ _) 1 (by omega)
      generalize m.getD 1 0 = z at *
      rw [hml]
      have i4 : (1 : Int) < ((2 : Nat) : Int) := by decide
      clear HO hq e1 e2 hvr hml
      go_wp2_with fail
      go_quiet (fail)
      go_wp2
      go_ret3
      exact ⟨HF.out, below_drewN hbU _⟩
  have hl2 : inn.length = 2 := hAl
  have HO : Hid (apN ms 7 sk L i inn = if mkB ms (L.getD i 0) = true ∧ inn.getD 1 0 = L.getD i 0 ∧ bkQ ms L (i : Int) ≠ -1 ∧ inn.getD 0 0 = L.getD (bkQ ms L (i : Int)).toNat 0 then some ((i : Int) + 1, bkQ ms L (i : Int)) else none) := ap_svn
  generalize apN ms 7 sk L i inn = O at HO ⊢
  have hbk := sback_any S na nc L ka kc ms (i : Int) W hLW hmW hI
  have HBN : Hid (bkQ ms L (i : Int) = -1 ∨ ∃ b : Nat, bkQ ms L (i : Int) = (b : Int) ∧ b < i) := bk_lt hi
  have HM : Hid (Gr El.bool S W ka kc ms) := hmW
  have HL : Hid (Ri W na nc L) := hLW
  have HA : Hid (Ri W a1 c1 inn) := hAW
  have HL2 : Hid (inn.length = 2) := hl2
  have HX : Hid (Bk 48 W (w.heap.size + 1) (ruV a1 c1 a2 c2 ⟨inn, out, ap, lk, (x1, x2), (y1, y2), (w1, w2)⟩) ∧ Bk 40 W (w.heap.size + 2) [.slice ga s.rg.length gc, .slice ma s.rw.length mc, .slice ka ms.length kc, .slice pa cs.length pc]) := ⟨X2, X3⟩
  clear hm hL hA hmW hLW hAW X1 X2 X3 hAl hl2 ena hib e0
  go_enter Tryz.func27, Tryz.ntmps27
  go_upto_region 1 with fail
  rw [← hW]
  clear hW
  go_wp2_with fail
  refine hbk.mono ?_
  rintro e u ⟨rfl, hb⟩
  have hbU := hbW.trans (hb.mono hbW.size)
  have hX2 := HX.out.1.below hb
  have hX3 := HX.out.2.below hb
  clear hbk m0 m1 m2 m3 x0 x1' x2' q0
  go_upto_region 10 with fail
  obtain ⟨ib, io, rfl, hib, e0⟩ := HL.out.at hb i hi
  obtain ⟨jb, jo, rfl, hjb, f0⟩ := HA.out.at hb 0 (by rw [HL2.out]; omega)
  obtain ⟨jb2, jo2, ej, -, f1⟩ := HA.out.at hb 1 (by rw [HL2.out]; omega)
  injection ej with ej
  injection ej with ej1 ej2
  subst ej1 ej2
  have j5 : (0 : Int) < (inn.length : Int) := by have := HL2.out; omega
  have j6 : (1 : Int) < (inn.length : Int) := by have := HL2.out; omega
  have j5n : 0 < inn.length := by have := HL2.out; omega
  have j6n : 1 < inn.length := by have := HL2.out; omega
  generalize inn.getD 0 0 = g0 at *
  generalize inn.getD 1 0 = g1 at *
  replace f0 : u.cell? ⟨jb, jo, none⟩ = some (.int .i64 g0) := f0
  replace f1 : u.cell? ⟨jb, jo + 1, none⟩ = some (.int .i64 g1) := f1
  clear HL2
  obtain ⟨-, -, m2, -, -⟩ := hX3.four
  obtain ⟨q0, -⟩ := hX2.ru
  dsimp only at q0
  have hdr : Below u.heap.size u u.drew := (Below.refl _ _).drew
  obtain ⟨l0, l1, l2, l3⟩ : w.heap.size + 2 < u.heap.size ∧ w.heap.size + 1 < u.heap.size ∧ ib < u.heap.size ∧ jb < u.heap.size := ⟨hX3.lt, hX2.lt, Nat.lt_of_lt_of_le hib hb.size, Nat.lt_of_lt_of_le hjb hb.size⟩
  have hmk : ∀ Z, Below u.heap.size u Z → Calls Tryz.prog 26 #[.slice ka ms.length kc, .int .i64 (L.getD i 0)] Z fun e w' => e = .returned (.bool (mkB ms (L.getD i 0))) ∧ Below Z.heap.size Z w' := fun Z hZ => smark_any S ka kc ms _ Z ((HM.out.below hb).below hZ) hLz
  have HCB : Hid (∀ b : Nat, b < i → u.cell? ⟨ib, io + b, none⟩ = some (.int .i64 (L.getD b 0))) := fun b hbi => by
    obtain ⟨b1, o1, e1, _, d⟩ := HL.out.at hb b (by omega)
    injection e1 with e1
    injection e1 with e1 e2
    subst e1 e2
    exact d
  have HNO : Hid (∀ a b : Int, (mkB ms (L.getD i 0) = false ∨ g1 ≠ L.getD i 0 ∨ bkQ ms L (i : Int) = -1 ∨ g0 ≠ L.getD (bkQ ms L (i : Int)).toNat 0) → ApS O (.returned (.tuple #[.bool false, .int .i64 a, .int .i64 b]))) := fun a b h => ApS.no (by
    rw [HO.out, if_neg]
    rintro ⟨h1, h2, h3, h4⟩
    rcases h with h | h | h | h
    · rw [h] at h1; cases h1
    · exact h h2
    · exact h3 h
    · exact h h4)
  have HYE : Hid (∀ b : Nat, mkB ms (L.getD i 0) = true → g1 = L.getD i 0 → bkQ ms L (i : Int) = (b : Int) → g0 = L.getD b 0 → ApS O (.returned (.tuple #[.bool true, .int .i64 ((i : Int) + 1), .int .i64 (b : Int)]))) := fun b h1 h2 h3 h4 => ApS.yes (by
    rw [HO.out, if_pos ⟨h1, h2, by rw [h3]; omega, by rw [h3, Int.toNat_natCast]; exact h4⟩, h3])
  clear hX2 hX3 hib hjb hb HO
  rcases HBN.out with hB | ⟨b, hB, hbi⟩
  · rw [hB] at HNO ⊢
    have HN2 : Hid (∀ a b : Int, (mkB ms (L.getD i 0) = false ∨ g1 ≠ L.getD i 0 ∨ (-1 : Int) = -1) → ApS O (.returned (.tuple #[.bool false, .int .i64 a, .int .i64 b]))) := fun a b h => HNO.out a b (by rcases h with h | h | h; exact .inl h; exact .inr (.inl h); exact .inr (.inr (.inl rfl)))
    clear HNO HYE HBN HCB hB
    generalize mkB ms (L.getD i 0) = mk at hmk HN2
    generalize L.getD i 0 = zi at *
    refine wp_region_held_drew (S := fun v => v.cell? ⟨w.heap.size + 2, 2, none⟩ = some (.slice ka ms.length kc) ∧ v.cell? ⟨ib, io + i, none⟩ = some (.int .i64 zi) ∧ v.cell? ⟨w.heap.size + 1, 0, none⟩ = some (.slice (some ⟨jb, jo, none⟩) inn.length c1) ∧ v.cell? ⟨jb, jo, none⟩ = some (.int .i64 g0) ∧ v.cell? ⟨jb, jo + 1, none⟩ = some (.int .i64 g1)) (by kernel_rfl) ⟨m2, e0, q0, f0, f1⟩ (fun hHeld => ?_)
    generalize u.drew = Z at hdr hHeld ⊢
    have hbZ := hbU.trans (hdr.mono hbU.size)
    refine hT 0 hHeld ?_
    refine hT 1 hHeld ?_
    refine hT 2 hHeld ?_
    refine hT 3 hHeld ?_
    refine hT 4 hHeld ?_
    refine hT 5 hHeld ?_
    refine hT 33 hHeld ?_
    refine hT 34 hHeld ?_
    refine hT 35 hHeld ?_
    refine hCall (i := 6) rfl (by kernel_rfl) (by rfl) (fun K hK => ?_)
    go_simp
    refine (hmk Z hdr).mono ?_
    rintro e u2 ⟨rfl, hb2⟩
    have hU2 := hdr.trans (hb2.mono hdr.size)
    have hfin := hbU.trans (hU2.mono hbU.size)
    clear hmk
    go_wp2_with fail
    refine hK.out _ _ ⟨(hU2.cell (p := ⟨w.heap.size + 2, 2, none⟩) l0).trans m2, (hU2.cell (p := ⟨ib, io + i, none⟩) l2).trans e0, (hU2.cell (p := ⟨w.heap.size + 1, 0, none⟩) l1).trans q0, (hU2.cell (p := ⟨jb, jo, none⟩) l3).trans f0, (hU2.cell (p := ⟨jb, jo + 1, none⟩) l3).trans f1⟩ (fun hHeld => ?_)
    clear hK K
    try simp only [Act.put, List.setIfInBounds_toArray, List.set_cons_zero, List.set_cons_succ]
    clear m2 e0 q0 f0 f1
    cases mk with
    | false =>
      have HF : Hid (∀ a b : Int, ApS O (.returned (.tuple #[.bool false, .int .i64 a, .int .i64 b]))) := fun a b => HN2.out a b (.inl rfl)
      clear HN2
      refine hT 7 hHeld ?_
      refine hN 8 hHeld ?_
      refine hN 9 hHeld ?_
      refine hN 10 hHeld ?_
      refine hN 11 hHeld ?_
      refine hN 12 hHeld ?_
      refine hN 13 hHeld ?_
      refine hN 14 hHeld ?_
      refine hN 15 hHeld ?_
      refine hN 16 hHeld ?_
      refine hT 17 hHeld ?_
      refine hT 18 hHeld ?_
      refine hN 19 hHeld ?_
      refine hN 20 hHeld ?_
      refine hT 21 hHeld ?_
      refine hT 22 hHeld ?_
      refine hN 23 hHeld ?_
      refine hN 24 hHeld ?_
      refine hN 25 hHeld ?_
      refine hN 26 hHeld ?_
      refine hN 27 hHeld ?_
      refine hN 28 hHeld ?_
      refine hN 29 hHeld ?_
      refine hN 30 hHeld ?_
      refine hN 31 hHeld ?_
      refine hT 32 hHeld ?_
      refine hT 36 hHeld ?_
      refine hT 37 hHeld ?_
      refine hT 38 hHeld ?_
      refine wpAnyH_done (by kernel_rfl) ?_ _
      clear hHeld
      go_wp2
      go_ret3
      exact ⟨HF.out _ _, hfin⟩
    | true =>
      by_cases hz1 : g1 = zi
      rotate_left
      · have gz : (g1 == zi) = false := beq_eq_false_iff_ne.2 hz1
        have HF : Hid (∀ a b : Int, ApS O (.returned (.tuple #[.bool false, .int .i64 a, .int .i64 b]))) := fun a b => HN2.out a b (.inr (.inl hz1))
        clear HN2
        refine hT 7 hHeld ?_
        refine hT 8 hHeld ?_
        refine hT 9 hHeld ?_
        refine hT 10 hHeld ?_
        refine hT 11 hHeld ?_
        refine hT 12 hHeld ?_
        refine hT 13 hHeld ?_
        refine hT 14 hHeld ?_
        refine hT 15 hHeld ?_
        refine hT 16 hHeld ?_
        refine hT 17 hHeld ?_
        refine hT 18 hHeld ?_
        refine hN 19 hHeld ?_
        refine hN 20 hHeld ?_
        refine hT 21 hHeld ?_
        refine hT 22 hHeld ?_
        refine hN 23 hHeld ?_
        refine hN 24 hHeld ?_
        refine hN 25 hHeld ?_
        refine hN 26 hHeld ?_
        refine hN 27 hHeld ?_
        refine hN 28 hHeld ?_
        refine hN 29 hHeld ?_
        refine hN 30 hHeld ?_
        refine hN 31 hHeld ?_
        refine hT 32 hHeld ?_
        refine hT 36 hHeld ?_
        refine hT 37 hHeld ?_
        refine hT 38 hHeld ?_
        refine wpAnyH_done (by kernel_rfl) ?_ _
        clear hHeld
        go_wp2
        go_ret3
        exact ⟨HF.out _ _, hfin⟩
      have gz : (g1 == zi) = true := beq_iff_eq.2 hz1
      have HF : Hid (∀ a b : Int, ApS O (.returned (.tuple #[.bool false, .int .i64 a, .int .i64 b]))) := fun a b => HN2.out a b (by first | trivial | exact .inr (.inr trivial) | exact .inr (.inr rfl))
      clear HN2
      refine hT 7 hHeld ?_
      refine hT 8 hHeld ?_
      refine hT 9 hHeld ?_
      refine hT 10 hHeld ?_
      refine hT 11 hHeld ?_
      refine hT 12 hHeld ?_
      refine hT 13 hHeld ?_
      refine hT 14 hHeld ?_
      refine hT 15 hHeld ?_
      refine hT 16 hHeld ?_
      refine hT 17 hHeld ?_
      refine hT 18 hHeld ?_
      refine hT 19 hHeld ?_
      refine hT 20 hHeld ?_
      refine hT 21 hHeld ?_
      refine hT 22 hHeld ?_
      refine hN 23 hHeld ?_
      refine hN 24 hHeld ?_
      refine hN 25 hHeld ?_
      refine hN 26 hHeld ?_
      refine hN 27 hHeld ?_
      refine hN 28 hHeld ?_
      refine hN 29 hHeld ?_
      refine hN 30 hHeld ?_
      refine hN 31 hHeld ?_
      refine hT 32 hHeld ?_
      refine hT 36 hHeld ?_
      refine hT 37 hHeld ?_
      refine hT 38 hHeld ?_
      refine wpAnyH_done (by kernel_rfl) ?_ _
      clear hHeld
      go_wp2
      go_ret3
      exact ⟨HF.out _ _, hfin⟩
  · have hcb := HCB.out b hbi
    have gb : ((b : Int) != -1) = true := bne_iff_ne.2 (by omega)
    have i3 : (0 : Int) ≤ (b : Int) := by omega
    have i4 : (b : Int) < (L.length : Int) := by omega
    have HN2 : Hid (∀ a c : Int, (mkB ms (L.getD i 0) = false ∨ g1 ≠ L.getD i 0 ∨ False ∨ g0 ≠ L.getD b 0) → ApS O (.returned (.tuple #[.bool false, .int .i64 a, .int .i64 c]))) := fun a c h => HNO.out a c (by
      rcases h with h | h | h | h
      · exact .inl h
      · exact .inr (.inl h)
      · exact h.elim
      · exact .inr (.inr (.inr (by rw [hB, Int.toNat_natCast]; exact h))))
    have HY2 : Hid (mkB ms (L.getD i 0) = true → g1 = L.getD i 0 → g0 = L.getD b 0 → ApS O (.returned (.tuple #[.bool true, .int .i64 ((i : Int) + 1), .int .i64 (b : Int)]))) := fun h1 h2 h3 => HYE.out b h1 h2 hB h3
    rw [hB]
    clear HNO HYE HBN HCB hB
    generalize mkB ms (L.getD i 0) = mk at hmk HN2 HY2
    generalize L.getD i 0 = zi at *
    generalize L.getD b 0 = zb at *
    refine wp_region_held_drew (S := fun v => v.cell? ⟨w.heap.size + 2, 2, none⟩ = some (.slice ka ms.length kc) ∧ v.cell? ⟨ib, io + i, none⟩ = some (.int .i64 zi) ∧ v.cell? ⟨w.heap.size + 1, 0, none⟩ = some (.slice (some ⟨jb, jo, none⟩) inn.length c1) ∧ v.cell? ⟨jb, jo, none⟩ = some (.int .i64 g0) ∧ v.cell? ⟨jb, jo + 1, none⟩ = some (.int .i64 g1) ∧ v.cell? ⟨ib, io + b, none⟩ = some (.int .i64 zb)) (by kernel_rfl) ⟨m2, e0, q0, f0, f1, hcb⟩ (fun hHeld => ?_)
    generalize u.drew = Z at hdr hHeld ⊢
    have hbZ := hbU.trans (hdr.mono hbU.size)
    refine hT 0 hHeld ?_
    refine hT 1 hHeld ?_
    refine hT 2 hHeld ?_
    refine hT 3 hHeld ?_
    refine hT 4 hHeld ?_
    refine hT 5 hHeld ?_
    refine hT 33 hHeld ?_
    refine hT 34 hHeld ?_
    refine hT 35 hHeld ?_
    refine hCall (i := 6) rfl (by kernel_rfl) (by rfl) (fun K hK => ?_)
    go_simp
    refine (hmk Z hdr).mono ?_
    rintro e u2 ⟨rfl, hb2⟩
    have hU2 := hdr.trans (hb2.mono hdr.size)
    have hfin := hbU.trans (hU2.mono hbU.size)
    clear hmk
    go_wp2_with fail
    refine hK.out _ _ ⟨(hU2.cell (p := ⟨w.heap.size + 2, 2, none⟩) l0).trans m2, (hU2.cell (p := ⟨ib, io + i, none⟩) l2).trans e0, (hU2.cell (p := ⟨w.heap.size + 1, 0, none⟩) l1).trans q0, (hU2.cell (p := ⟨jb, jo, none⟩) l3).trans f0, (hU2.cell (p := ⟨jb, jo + 1, none⟩) l3).trans f1, (hU2.cell (p := ⟨ib, io + b, none⟩) l2).trans hcb⟩ (fun hHeld => ?_)
    clear hK K
    try simp only [Act.put, List.setIfInBounds_toArray, List.set_cons_zero, List.set_cons_succ]
    clear m2 e0 q0 f0 f1 hcb
    cases mk with
    | false =>
      have HF : Hid (∀ a b : Int, ApS O (.returned (.tuple #[.bool false, .int .i64 a, .int .i64 b]))) := fun a b => HN2.out a b (.inl rfl)
      clear HN2 HY2
      refine hT 7 hHeld ?_
      refine hN 8 hHeld ?_
      refine hN 9 hHeld ?_
      refine hN 10 hHeld ?_
      refine hN 11 hHeld ?_
      refine hN 12 hHeld ?_
      refine hN 13 hHeld ?_
      refine hN 14 hHeld ?_
      refine hN 15 hHeld ?_
      refine hN 16 hHeld ?_
      refine hT 17 hHeld ?_
      refine hT 18 hHeld ?_
      refine hN 19 hHeld ?_
      refine hN 20 hHeld ?_
      refine hT 21 hHeld ?_
      refine hT 22 hHeld ?_
      refine hN 23 hHeld ?_
      refine hN 24 hHeld ?_
      refine hN 25 hHeld ?_
      refine hN 26 hHeld ?_
      refine hN 27 hHeld ?_
      refine hN 28 hHeld ?_
      refine hN 29 hHeld ?_
      refine hN 30 hHeld ?_
      refine hN 31 hHeld ?_
      refine hT 32 hHeld ?_
      refine hT 36 hHeld ?_
      refine hT 37 hHeld ?_
      refine hT 38 hHeld ?_
      refine wpAnyH_done (by kernel_rfl) ?_ _
      clear hHeld
      go_wp2
      go_ret3
      exact ⟨HF.out _ _, hfin⟩
    | true =>
      by_cases hz1 : g1 = zi
      rotate_left
      · have gz : (g1 == zi) = false := beq_eq_false_iff_ne.2 hz1
        have HF : Hid (∀ a b : Int, ApS O (.returned (.tuple #[.bool false, .int .i64 a, .int .i64 b]))) := fun a b => HN2.out a b (.inr (.inl hz1))
        clear HN2 HY2
        refine hT 7 hHeld ?_
        refine hT 8 hHeld ?_
        refine hT 9 hHeld ?_
        refine hT 10 hHeld ?_
        refine hT 11 hHeld ?_
        refine hT 12 hHeld ?_
        refine hT 13 hHeld ?_
        refine hT 14 hHeld ?_
        refine hT 15 hHeld ?_
        refine hT 16 hHeld ?_
        refine hT 17 hHeld ?_
        refine hT 18 hHeld ?_
        refine hN 19 hHeld ?_
        refine hN 20 hHeld ?_
        refine hT 21 hHeld ?_
        refine hT 22 hHeld ?_
        refine hN 23 hHeld ?_
        refine hN 24 hHeld ?_
        refine hN 25 hHeld ?_
        refine hN 26 hHeld ?_
        refine hN 27 hHeld ?_
        refine hN 28 hHeld ?_
        refine hN 29 hHeld ?_
        refine hN 30 hHeld ?_
        refine hN 31 hHeld ?_
        refine hT 32 hHeld ?_
        refine hT 36 hHeld ?_
        refine hT 37 hHeld ?_
        refine hT 38 hHeld ?_
        refine wpAnyH_done (by kernel_rfl) ?_ _
        clear hHeld
        go_wp2
        go_ret3
        exact ⟨HF.out _ _, hfin⟩
      have gz : (g1 == zi) = true := beq_iff_eq.2 hz1
      by_cases hz0 : g0 = zb
      rotate_left
      · have gy : (g0 == zb) = false := beq_eq_false_iff_ne.2 hz0
        have HF : Hid (∀ a b : Int, ApS O (.returned (.tuple #[.bool false, .int .i64 a, .int .i64 b]))) := fun a b => HN2.out a b (.inr (.inr (.inr hz0)))
        clear HN2 HY2
        refine hT 7 hHeld ?_
        refine hT 8 hHeld ?_
        refine hT 9 hHeld ?_
        refine hT 10 hHeld ?_
        refine hT 11 hHeld ?_
        refine hT 12 hHeld ?_
        refine hT 13 hHeld ?_
        refine hT 14 hHeld ?_
        refine hT 15 hHeld ?_
        refine hT 16 hHeld ?_
        refine hT 17 hHeld ?_
        refine hT 18 hHeld ?_
        refine hT 19 hHeld ?_
        refine hT 20 hHeld ?_
        refine hT 21 hHeld ?_
        refine hT 22 hHeld ?_
        refine hT 23 hHeld ?_
        refine hT 24 hHeld ?_
        refine hT 25 hHeld ?_
        refine hT 26 hHeld ?_
        refine hT 27 hHeld ?_
        refine hT 28 hHeld ?_
        refine hT 29 hHeld ?_
        refine hT 30 hHeld ?_
        refine hT 31 hHeld ?_
        refine hT 32 hHeld ?_
        refine hT 36 hHeld ?_
        refine hT 37 hHeld ?_
        refine hT 38 hHeld ?_
        refine wpAnyH_done (by kernel_rfl) ?_ _
        clear hHeld
        go_wp2
        go_ret3
        exact ⟨HF.out _ _, hfin⟩
      have gy : (g0 == zb) = true := beq_iff_eq.2 hz0
      have HF : Hid (ApS O (.returned (.tuple #[.bool true, .int .i64 (IntKind.i64.wrap ((i : Int) + 1)), .int .i64 (b : Int)]))) := by show ApS _ _; rw [show IntKind.i64.wrap ((i : Int) + 1) = (i : Int) + 1 from w6_id (by omega) (by omega)]; exact HY2.out rfl hz1 hz0
      clear HN2 HY2
      refine hT 7 hHeld ?_
      refine hT 8 hHeld ?_
      refine hT 9 hHeld ?_
      refine hT 10 hHeld ?_
      refine hT 11 hHeld ?_
      refine hT 12 hHeld ?_
      refine hT 13 hHeld ?_
      refine hT 14 hHeld ?_
      refine hT 15 hHeld ?_
      refine hT 16 hHeld ?_
      refine hT 17 hHeld ?_
      refine hT 18 hHeld ?_
      refine hT 19 hHeld ?_
      refine hT 20 hHeld ?_
      refine hT 21 hHeld ?_
      refine hT 22 hHeld ?_
      refine hT 23 hHeld ?_
      refine hT 24 hHeld ?_
      refine hT 25 hHeld ?_
      refine hT 26 hHeld ?_
      refine hT 27 hHeld ?_
      refine hT 28 hHeld ?_
      refine hT 29 hHeld ?_
      refine hT 30 hHeld ?_
      refine hT 31 hHeld ?_
      refine hT 32 hHeld ?_
      refine hT 36 hHeld ?_
      refine hT 37 hHeld ?_
      refine hT 38 hHeld ?_
      refine wpAnyH_done (by kernel_rfl) ?_ _
      clear hHeld
      go_wp2
      go_ret3
      exact ⟨HF.out, hfin⟩

end Go.Proofs.YtchdoakoelfenaaGreat

namespace Go.Proofs.YtchdoakoelfenaaGreat
open Go.RowKit Classical
set_option linter.unusedSimpArgs false
set_option linter.unusedVariables false

set_option maxHeartbeats 400000 in
set_option maxRecDepth 100000 in
theorem scoord_any (z : Int) (w : World) : Calls Tryz.prog 101 #[.int .i64 z] w fun e w' => e = .returned (.bool (crd z)) ∧ w = w' := by
  by_cases h1 : -16384 ≤ z
  · go_enter Tryz.func101, Tryz.ntmps101
    go_wp2
    go_ret
    exact ⟨ret_bool (by simp [crd, h1]), rfl⟩
  · go_enter Tryz.func101, Tryz.ntmps101
    go_wp2
    go_ret
    exact ⟨ret_bool (by simp [crd]; omega), rfl⟩

theorem scoordB_any (z : Int) (w : World) : Calls Tryz.prog 101 #[.int .i64 z] w fun e w' => e = .returned (.bool (crd z)) ∧ Below w.heap.size w w' :=
  (scoord_any z w).mono fun e w' h => ⟨h.1, h.2 ▸ Below.refl _ _⟩

end Go.Proofs.YtchdoakoelfenaaGreat

namespace Go.Proofs.YtchdoakoelfenaaGreat
open Go.RowKit Go.Maps
set_option linter.unusedSimpArgs false
set_option linter.unusedVariables false

/-- Above 0, below 0, at 0. -/
theorem tfS_up {t : Te} (h1 : crd t.st = true) (h2 : crd t.pk = true) (h3 : crd t.en = true) (h : 0 < t.pk) : tfB t = (decide (0 ≤ t.st) && (decide (t.st < t.pk) && (decide (t.pk < t.en) || (t.pk == 16384 && t.en == 16384)))) := by
  rw [crdT] at h1 h2 h3
  rw [Bool.eq_iff_iff, tfB_iff]
  unfold TfT
  simp
  omega
theorem tfS_down {t : Te} (h1 : crd t.st = true) (h2 : crd t.pk = true) (h3 : crd t.en = true) (h : t.pk < 0) : tfB t = (decide (t.en ≤ 0) && (decide (t.pk < t.en) && (decide (t.st < t.pk) || (t.pk == -16384 && t.st == -16384)))) := by
  rw [crdT] at h1 h2 h3
  rw [Bool.eq_iff_iff, tfB_iff]
  unfold TfT
  simp
  omega
theorem tfS_mid {t : Te} (h1 : crd t.st = true) (h2 : crd t.pk = true) (h3 : crd t.en = true) (h : t.pk = 0) : tfB t = (t.st == 0 && t.en == 0) := by
  rw [crdT] at h1 h2 h3
  rw [Bool.eq_iff_iff, tfB_iff]
  unfold TfT
  simp
  omega

set_option maxHeartbeats 4000000 in
set_option maxRecDepth 100000 in
theorem sformT_any (t : Te) (w : World) :
    Calls Tryz.prog 100 #[.agg #[.int .i64 t.st, .int .i64 t.pk, .int .i64 t.en]] w fun e w' => e = .returned (.bool (tfB t)) ∧ Below w.heap.size w w' := by
  obtain ⟨W, hW, X1, hbW⟩ : ∃ W, W = w.alloc (.cells #[.int .i64 t.st, .int .i64 t.pk, .int .i64 t.en] 141) ∧ Box 141 W w.heap.size (.int .i64 t.st) (.int .i64 t.pk) (.int .i64 t.en) ∧ Below w.heap.size w W := ⟨_, rfl, Box.new _ _ _ _ _, al1 _⟩
  cases c1 : crd t.st with
  | false =>
    have HF : Hid (tfB t = false) := tfB_no (fun h => by rw [crdT.2 h.1] at c1; cases c1)
    obtain ⟨st, pk, en⟩ := t
    dsimp only at *
    obtain ⟨p0, p1, p2, _⟩ := X1.cells
    go_enter Tryz.func100, Tryz.ntmps100
    go_wp2_with fail
    rw [← hW]
    clear hW
    refine (scoord_any st _).mono ?_
    rintro e u1 ⟨rfl, rfl⟩
    rw [c1]
    go_wp2
    go_ret
    exact ⟨rt_bool HF.out.symm, hbW⟩
  | true =>
    cases c2 : crd t.pk with
    | false =>
      have HF : Hid (tfB t = false) := tfB_no (fun h => by rw [crdT.2 h.2.1] at c2; cases c2)
      obtain ⟨st, pk, en⟩ := t
      dsimp only at *
      obtain ⟨p0, p1, p2, _⟩ := X1.cells
      go_enter Tryz.func100, Tryz.ntmps100
      go_wp2_with fail
      rw [← hW]
      clear hW
      refine (scoord_any st _).mono ?_
      rintro e u1 ⟨rfl, rfl⟩
      rw [c1]
      go_wp2_with fail
      refine (scoord_any pk _).mono ?_
      rintro e u1 ⟨rfl, rfl⟩
      rw [c2]
      go_wp2
      go_ret
      exact ⟨rt_bool HF.out.symm, hbW⟩
    | true =>
      cases c3 : crd t.en with
      | false =>
        have HF : Hid (tfB t = false) := tfB_no (fun h => by rw [crdT.2 h.2.2.1] at c3; cases c3)
        obtain ⟨st, pk, en⟩ := t
        dsimp only at *
        obtain ⟨p0, p1, p2, _⟩ := X1.cells
        go_enter Tryz.func100, Tryz.ntmps100
        go_wp2_with fail
        rw [← hW]
        clear hW
        refine (scoord_any st _).mono ?_
        rintro e u1 ⟨rfl, rfl⟩
        rw [c1]
        go_wp2_with fail
        refine (scoord_any pk _).mono ?_
        rintro e u1 ⟨rfl, rfl⟩
        rw [c2]
        go_wp2_with fail
        refine (scoord_any en _).mono ?_
        rintro e u1 ⟨rfl, rfl⟩
        rw [c3]
        go_wp2
        go_ret
        exact ⟨rt_bool HF.out.symm, hbW⟩
      | true =>
        by_cases hu : 0 < t.pk
        · have HF : Hid (tfB t = _) := tfS_up c1 c2 c3 hu
          cases g1 : (decide (0 ≤ t.st) : Bool) with
          | false =>
            rw [g1] at HF
            obtain ⟨st, pk, en⟩ := t
            dsimp only at *
            obtain ⟨p0, p1, p2, _⟩ := X1.cells
            go_enter Tryz.func100, Tryz.ntmps100
            go_wp2_with fail
            rw [← hW]
            clear hW
            refine (scoord_any st _).mono ?_
            rintro e u1 ⟨rfl, rfl⟩
            rw [c1]
            go_wp2_with fail
            refine (scoord_any pk _).mono ?_
            rintro e u1 ⟨rfl, rfl⟩
            rw [c2]
            go_wp2_with fail
            refine (scoord_any en _).mono ?_
            rintro e u1 ⟨rfl, rfl⟩
            rw [c3]
            clear c1 c2 c3
            go_wp2
            go_ret
            exact ⟨rt_bool (by rw [HF.out]; simp), hbW⟩
          | true =>
            cases g2 : (decide (t.st < t.pk) : Bool) with
            | false =>
              rw [g1, g2] at HF
              obtain ⟨st, pk, en⟩ := t
              dsimp only at *
              obtain ⟨p0, p1, p2, _⟩ := X1.cells
              go_enter Tryz.func100, Tryz.ntmps100
              go_wp2_with fail
              rw [← hW]
              clear hW
              refine (scoord_any st _).mono ?_
              rintro e u1 ⟨rfl, rfl⟩
              rw [c1]
              go_wp2_with fail
              refine (scoord_any pk _).mono ?_
              rintro e u1 ⟨rfl, rfl⟩
              rw [c2]
              go_wp2_with fail
              refine (scoord_any en _).mono ?_
              rintro e u1 ⟨rfl, rfl⟩
              rw [c3]
              clear c1 c2 c3
              go_wp2
              go_ret
              exact ⟨rt_bool (by rw [HF.out]; simp), hbW⟩
            | true =>
              cases g3 : (decide (t.pk < t.en) : Bool) with
              | false =>
                cases g4 : (t.pk == 16384 : Bool) with
                | false =>
                  rw [g1, g2, g3, g4] at HF
                  obtain ⟨st, pk, en⟩ := t
                  dsimp only at *
                  obtain ⟨p0, p1, p2, _⟩ := X1.cells
                  go_enter Tryz.func100, Tryz.ntmps100
                  go_wp2_with fail
                  rw [← hW]
                  clear hW
                  refine (scoord_any st _).mono ?_
                  rintro e u1 ⟨rfl, rfl⟩
                  rw [c1]
                  go_wp2_with fail
                  refine (scoord_any pk _).mono ?_
                  rintro e u1 ⟨rfl, rfl⟩
                  rw [c2]
                  go_wp2_with fail
                  refine (scoord_any en _).mono ?_
                  rintro e u1 ⟨rfl, rfl⟩
                  rw [c3]
                  clear c1 c2 c3
                  go_wp2
                  go_ret
                  exact ⟨rt_bool (by rw [HF.out]; simp), hbW⟩
                | true =>
                  rw [g1, g2, g3, g4] at HF
                  obtain ⟨st, pk, en⟩ := t
                  dsimp only at *
                  obtain ⟨p0, p1, p2, _⟩ := X1.cells
                  go_enter Tryz.func100, Tryz.ntmps100
                  go_wp2_with fail
                  rw [← hW]
                  clear hW
                  refine (scoord_any st _).mono ?_
                  rintro e u1 ⟨rfl, rfl⟩
                  rw [c1]
                  go_wp2_with fail
                  refine (scoord_any pk _).mono ?_
                  rintro e u1 ⟨rfl, rfl⟩
                  rw [c2]
                  go_wp2_with fail
                  refine (scoord_any en _).mono ?_
                  rintro e u1 ⟨rfl, rfl⟩
                  rw [c3]
                  clear c1 c2 c3
                  go_wp2
                  go_ret
                  exact ⟨rt_bool (by rw [HF.out]; simp), hbW⟩
              | true =>
                rw [g1, g2, g3] at HF
                obtain ⟨st, pk, en⟩ := t
                dsimp only at *
                obtain ⟨p0, p1, p2, _⟩ := X1.cells
                go_enter Tryz.func100, Tryz.ntmps100
                go_wp2_with fail
                rw [← hW]
                clear hW
                refine (scoord_any st _).mono ?_
                rintro e u1 ⟨rfl, rfl⟩
                rw [c1]
                go_wp2_with fail
                refine (scoord_any pk _).mono ?_
                rintro e u1 ⟨rfl, rfl⟩
                rw [c2]
                go_wp2_with fail
                refine (scoord_any en _).mono ?_
                rintro e u1 ⟨rfl, rfl⟩
                rw [c3]
                clear c1 c2 c3
                go_wp2
                go_ret
                exact ⟨rt_bool (by rw [HF.out]; simp), hbW⟩
        · by_cases hd : t.pk < 0
          · have HF : Hid (tfB t = _) := tfS_down c1 c2 c3 hd
            cases g1 : (decide (t.en ≤ 0) : Bool) with
            | false =>
              rw [g1] at HF
              obtain ⟨st, pk, en⟩ := t
              dsimp only at *
              obtain ⟨p0, p1, p2, _⟩ := X1.cells
              go_enter Tryz.func100, Tryz.ntmps100
              go_wp2_with fail
              rw [← hW]
              clear hW
              refine (scoord_any st _).mono ?_
              rintro e u1 ⟨rfl, rfl⟩
              rw [c1]
              go_wp2_with fail
              refine (scoord_any pk _).mono ?_
              rintro e u1 ⟨rfl, rfl⟩
              rw [c2]
              go_wp2_with fail
              refine (scoord_any en _).mono ?_
              rintro e u1 ⟨rfl, rfl⟩
              rw [c3]
              clear c1 c2 c3
              go_wp2
              go_ret
              exact ⟨rt_bool (by rw [HF.out]; simp), hbW⟩
            | true =>
              cases g2 : (decide (t.pk < t.en) : Bool) with
              | false =>
                rw [g1, g2] at HF
                obtain ⟨st, pk, en⟩ := t
                dsimp only at *
                obtain ⟨p0, p1, p2, _⟩ := X1.cells
                go_enter Tryz.func100, Tryz.ntmps100
                go_wp2_with fail
                rw [← hW]
                clear hW
                refine (scoord_any st _).mono ?_
                rintro e u1 ⟨rfl, rfl⟩
                rw [c1]
                go_wp2_with fail
                refine (scoord_any pk _).mono ?_
                rintro e u1 ⟨rfl, rfl⟩
                rw [c2]
                go_wp2_with fail
                refine (scoord_any en _).mono ?_
                rintro e u1 ⟨rfl, rfl⟩
                rw [c3]
                clear c1 c2 c3
                go_wp2
                go_ret
                exact ⟨rt_bool (by rw [HF.out]; simp), hbW⟩
              | true =>
                cases g3 : (decide (t.st < t.pk) : Bool) with
                | false =>
                  cases g4 : (t.pk == -16384 : Bool) with
                  | false =>
                    rw [g1, g2, g3, g4] at HF
                    obtain ⟨st, pk, en⟩ := t
                    dsimp only at *
                    obtain ⟨p0, p1, p2, _⟩ := X1.cells
                    go_enter Tryz.func100, Tryz.ntmps100
                    go_wp2_with fail
                    rw [← hW]
                    clear hW
                    refine (scoord_any st _).mono ?_
                    rintro e u1 ⟨rfl, rfl⟩
                    rw [c1]
                    go_wp2_with fail
                    refine (scoord_any pk _).mono ?_
                    rintro e u1 ⟨rfl, rfl⟩
                    rw [c2]
                    go_wp2_with fail
                    refine (scoord_any en _).mono ?_
                    rintro e u1 ⟨rfl, rfl⟩
                    rw [c3]
                    clear c1 c2 c3
                    go_wp2
                    go_ret
                    exact ⟨rt_bool (by rw [HF.out]; simp), hbW⟩
                  | true =>
                    rw [g1, g2, g3, g4] at HF
                    obtain ⟨st, pk, en⟩ := t
                    dsimp only at *
                    obtain ⟨p0, p1, p2, _⟩ := X1.cells
                    go_enter Tryz.func100, Tryz.ntmps100
                    go_wp2_with fail
                    rw [← hW]
                    clear hW
                    refine (scoord_any st _).mono ?_
                    rintro e u1 ⟨rfl, rfl⟩
                    rw [c1]
                    go_wp2_with fail
                    refine (scoord_any pk _).mono ?_
                    rintro e u1 ⟨rfl, rfl⟩
                    rw [c2]
                    go_wp2_with fail
                    refine (scoord_any en _).mono ?_
                    rintro e u1 ⟨rfl, rfl⟩
                    rw [c3]
                    clear c1 c2 c3
                    go_wp2
                    go_ret
                    exact ⟨rt_bool (by rw [HF.out]; simp), hbW⟩
                | true =>
                  rw [g1, g2, g3] at HF
                  obtain ⟨st, pk, en⟩ := t
                  dsimp only at *
                  obtain ⟨p0, p1, p2, _⟩ := X1.cells
                  go_enter Tryz.func100, Tryz.ntmps100
                  go_wp2_with fail
                  rw [← hW]
                  clear hW
                  refine (scoord_any st _).mono ?_
                  rintro e u1 ⟨rfl, rfl⟩
                  rw [c1]
                  go_wp2_with fail
                  refine (scoord_any pk _).mono ?_
                  rintro e u1 ⟨rfl, rfl⟩
                  rw [c2]
                  go_wp2_with fail
                  refine (scoord_any en _).mono ?_
                  rintro e u1 ⟨rfl, rfl⟩
                  rw [c3]
                  clear c1 c2 c3
                  go_wp2
                  go_ret
                  exact ⟨rt_bool (by rw [HF.out]; simp), hbW⟩
          · have HF : Hid (tfB t = _) := tfS_mid c1 c2 c3 (by omega)
            cases g1 : (t.st == 0 : Bool) with
            | false =>
              rw [g1] at HF
              obtain ⟨st, pk, en⟩ := t
              dsimp only at *
              obtain ⟨p0, p1, p2, _⟩ := X1.cells
              go_enter Tryz.func100, Tryz.ntmps100
              go_wp2_with fail
              rw [← hW]
              clear hW
              refine (scoord_any st _).mono ?_
              rintro e u1 ⟨rfl, rfl⟩
              rw [c1]
              go_wp2_with fail
              refine (scoord_any pk _).mono ?_
              rintro e u1 ⟨rfl, rfl⟩
              rw [c2]
              go_wp2_with fail
              refine (scoord_any en _).mono ?_
              rintro e u1 ⟨rfl, rfl⟩
              rw [c3]
              clear c1 c2 c3
              go_wp2
              go_ret
              exact ⟨rt_bool (by rw [HF.out]; simp), hbW⟩
            | true =>
              rw [g1] at HF
              obtain ⟨st, pk, en⟩ := t
              dsimp only at *
              obtain ⟨p0, p1, p2, _⟩ := X1.cells
              go_enter Tryz.func100, Tryz.ntmps100
              go_wp2_with fail
              rw [← hW]
              clear hW
              refine (scoord_any st _).mono ?_
              rintro e u1 ⟨rfl, rfl⟩
              rw [c1]
              go_wp2_with fail
              refine (scoord_any pk _).mono ?_
              rintro e u1 ⟨rfl, rfl⟩
              rw [c2]
              go_wp2_with fail
              refine (scoord_any en _).mono ?_
              rintro e u1 ⟨rfl, rfl⟩
              rw [c3]
              clear c1 c2 c3
              go_wp2
              go_ret
              exact ⟨rt_bool (by rw [HF.out]; simp), hbW⟩

end Go.Proofs.YtchdoakoelfenaaGreat

namespace Go.Proofs.YtchdoakoelfenaaGreat
open Go.RowKit
set_option linter.unusedSimpArgs false
set_option linter.unusedVariables false

set_option maxHeartbeats 800000 in
set_option maxRecDepth 100000 in
theorem rtrim_any (a : Option Addr) (cap : Nat) (xs : List Nat) (w : World) (h : Rd w a cap xs) (hl : xs.length ≤ 1000000000) :
    Calls Tryz.prog 97 #[.slice a xs.length cap] w fun e w' => ∃ a' cap', e = .returned (.slice a' (strip xs).length cap') ∧ Res 136 w.heap.size w' a' cap' (strip xs) ∧ Below w.heap.size w w' := by
  obtain ⟨i0, hi, hz0, hz1, hz2⟩ := info_parts info_limb
  have hsl := strip_length_le xs
  have hc2 : xs.length ≤ cap := h.le
  have hc3 : cap ≤ maxLen := h.cap
  unfold maxLen at hc3
  have hst := h.strip
  have lst := h.lim.strip
  have fm := h.fm
  clear h
  go_enter Tryz.func97, Tryz.ntmps97
  go_wp2
  go_loop [3] (fun n => ∃ k : Nat, k ≤ xs.length ∧ n = .int .i64 k ∧ strip (xs.take k) = strip xs) (fun n => (intOf n).toNat)
  case atStart => exact ⟨xs.length, Nat.le_refl _, rfl, by rw [List.take_length]⟩
  case round =>
    obtain ⟨k, hk, rfl, hs0⟩ := hrel
    have HS : Hid (strip (xs.take k) = strip xs) := hs0
    clear hs0
    by_cases hk0 : k = 0
    · subst hk0
      have e0 : strip xs = [] := by rw [← HS.out]; rfl
      rw [e0] at hst lst
      have E0 : Hid (strip xs = []) := e0
      clear e0 HS
      go_wp2_with (at_builtin; refine wpList_append_rd rfl _ _ 89 rfl w.heap.size 136 i0 Tryz.underlying89 hi hz0 hz1 hz2 _ 0 [] rfl (World.ownsRow_nil _ _ _ _) a cap 0 [] ?_ rfl hst (by simp) (Nat.le_refl _) ?_)
      intro v' w1 hown hgrow
      obtain ⟨a', cap', rfl, hres⟩ := Res.of (xs := []) Lim.nil hown
      go_wp2
      go_ret
      exact ⟨a', cap', by rw [E0.out]; rfl, by rw [E0.out]; exact hres, (Below.refl _ _).grown hgrow (Nat.le_refl _) (fun k hk => by simp [Value.ownBlock] at hk)⟩
    · obtain ⟨j, rfl⟩ : ∃ j, k = j + 1 := ⟨k - 1, by omega⟩
      obtain ⟨b, off, rfl, _, hcj⟩ := fm.at (Below.refl _ _) j (by omega)
      obtain ⟨x, hx⟩ : ∃ x, xs.getD j 0 = x := ⟨_, rfl⟩
      rw [hx] at hcj
      have HX : Hid (xs.getD j 0 = x) := hx
      clear hx
      by_cases hx0 : x = 0
      · subst hx0
        go_wp2
        go_round
        case rel => exact ⟨j, by omega, rfl, by rw [← HS.out, strip_take_zero xs j (by omega) HX.out]⟩
        case measure => simp [intOf]
      · have hx1 : ((x : Int) == 0) = false := by simp; omega
        have e : strip xs = xs.take (j + 1) := by rw [← HS.out]; exact strip_take_some xs j (by omega) (by rw [HX.out]; exact hx0)
        have el : j + 1 = (strip xs).length := by rw [e]; simp; omega
        have EL : Hid (j + 1 = (strip xs).length) := el
        clear e el
        go_wp2_with (at_builtin; refine wpList_append_rd rfl _ _ 89 rfl w.heap.size 136 i0 Tryz.underlying89 hi hz0 hz1 hz2 _ 0 [] rfl (World.ownsRow_nil _ _ _ _) (some ⟨b, off, none⟩) cap (j + 1) (strip xs) rfl EL.out hst (by omega) (Nat.le_refl _) ?_)
        intro v' w1 hown hgrow
        obtain ⟨a', cap', rfl, hres⟩ := Res.of lst hown
        go_wp2
        go_ret
        exact ⟨a', cap', rfl, hres, (Below.refl _ _).grown hgrow (Nat.le_refl _) (fun k hk => by simp [Value.ownBlock] at hk)⟩

end Go.Proofs.YtchdoakoelfenaaGreat
