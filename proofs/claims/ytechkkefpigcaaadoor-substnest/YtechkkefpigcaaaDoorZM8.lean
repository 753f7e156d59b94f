/-
  (subst.worker).do: the walk.
  subst.Formed: the walk.
  Lookups that put glyphs: what the laws ask (plain mathematics).
-/
import Derived.Test.YtechkkefpigcaaaDoorZM6
import Derived.Test.YtechkkefpigcaaaDoorZM7
import Derived.Deep.CutBlock
import Derived.Deep.CutRange
import Derived.Test.YtechkkefpigcaaaDoorZM5
namespace Go.Proofs.YtechkkefpigcaaaDoor
open Go.RowKit Go.Maps
set_option linter.unusedSimpArgs false
set_option linter.unusedVariables false

theorem DuA.none {l : List Lk} {ms : List Bool} {n k : Nat} {L : List Int} {i : Int} {w' : World} (h : duF l ms n k L i = Option.none) {a : Option Addr} {c : Nat} (hg : Gr El.int (fun _ => True) w' a c L) : DuA l ms n k L i w' (.returned (.tuple #[.slice a L.length c, .int .i64 i, .bool false])) := by
  refine ⟨a, c, ?_, ?_⟩
  · unfold duL duO duB; rw [h]; rfl
  · unfold duL; rw [h]; exact hg
theorem DuA.some {l : List Lk} {ms : List Bool} {n k : Nat} {L : List Int} {i : Int} {w' : World} {o : List Int} {on : Int} (h : duF l ms n k L i = Option.some (o, on)) {a : Option Addr} {c : Nat} (hg : Gr El.int (fun _ => True) w' a c o) : DuA l ms n k L i w' (.returned (.tuple #[.slice a o.length c, .int .i64 on, .bool true])) := by
  refine ⟨a, c, ?_, ?_⟩
  · unfold duL duO duB; rw [h]; rfl
  · unfold duL; rw [h]; exact hg

set_option maxHeartbeats 8000000 in
set_option maxRecDepth 100000 in
theorem do_of (l : List Lk) (ms : List Bool) (g : Int) (hf : foU l g = true) (n : Nat) (hn7 : n ≤ 7) (IH : ∀ n', n = n' + 1 → DoC l ms n') : DoC l ms n := by
  intro Sl Sm S la lc mb mc k a ca L i w hl hms hL hk hp hi hle
  have kl := hL.lenB
  have kll := hl.lenB
  have hpi := plB_iff.1 hi
  obtain ⟨j, rfl⟩ : ∃ j : Nat, i = (j : Int) := ⟨i.toNat, by omega⟩
  have hj : j < L.length := by omega
  have hLR := hL.ri
  obtain ⟨ab, ao, rfl, hab, -⟩ := hLR.at (Below.refl _ _) j hj
  have HLC : Hid (∀ W, Below w.heap.size w W → W.cell? ⟨ab, ao + j, none⟩ = some (.int .i64 (L.getD j 0))) := fun W hW => by
    obtain ⟨b1, o1, e1, _, d1⟩ := hLR.at hW j hj
    cases e1
    exact d1
  have hLz : I64 (L.getD j 0) := hLR.i64 hj
  obtain ⟨lb, lo, ra, rc, rfl, hkd, hall⟩ := hl.lkAll k hk
  have HFR : Hid (∀ r ∈ (l.getD k Lk.none).rs, RuF l (l.getD k Lk.none).kd r g) := fun r hr => ru_mem hf hk hp hr
  have HD : Hid (duF l ms n k L (j : Int) = if (l.getD k Lk.none).sk && mkB ms (L.getD j 0) then Option.none else rsF (inF l ms n L) (l.getD k Lk.none).kd (l.getD k Lk.none).sk ms L (j : Int) (l.getD k Lk.none).rs) := by
    show _ = _
    rw [duF_eq, Int.toNat_natCast]
  obtain ⟨x, hx⟩ : ∃ x, l.getD k Lk.none = x := ⟨_, rfl⟩
  rw [hx] at hkd hall HFR HD hp
  clear hx
  obtain ⟨kd, sk, rs⟩ := x
  dsimp only at hkd hall HFR HD hp
  obtain ⟨z, hz⟩ : ∃ z, L.getD j 0 = z := ⟨_, rfl⟩
  rw [hz] at HLC hLz HD
  clear hz
  have hk4 := puB_iff.1 hp
  obtain ⟨uu, hu⟩ : ∃ uu : Int, 8 - (n : Int) = uu := ⟨_, rfl⟩
  have HU : Hid (8 - (n : Int) = uu) := hu
  rw [hu]
  clear hu
  have HALL : Hid (∀ u, Below w.heap.size w u → Gr RuE Sl u ra rc rs ∧ u.cell? ⟨lb, lo + k * 3, none⟩ = some (.int .i64 kd) ∧ u.cell? ⟨lb, lo + k * 3 + 1, none⟩ = some (.bool sk) ∧ u.cell? ⟨lb, lo + k * 3 + 2, none⟩ = some (.slice ra rs.length rc)) := hall
  have HL : Hid (Gr El.int S w (some ⟨ab, ao, none⟩) ca L) := hL
  have HLK : Hid (Gr LkE Sl w (some ⟨lb, lo, none⟩) lc l) := hl
  have HMS : Hid (Gr El.bool Sm w mb mc ms) := hms
  have hIJ : I64 (j : Int) := ⟨by omega, by omega⟩
  obtain ⟨W, hW, XW, hbW⟩ : ∃ W, W = w.alloc (.cells #[.slice (some ⟨lb, lo, none⟩) l.length lc, .slice mb ms.length mc] 55) ∧ Bk 55 W w.heap.size [.slice (some ⟨lb, lo, none⟩) l.length lc, .slice mb ms.length mc] ∧ Below w.heap.size w W := ⟨_, rfl, Bk.new _ _ _, bl1 _⟩
  obtain ⟨U, hU, XU, hbU⟩ : ∃ U, U = W.alloc (.cells #[.int .i64 kd, .bool sk, .slice ra rs.length rc] 41) ∧ Bk 41 U W.heap.size [.int .i64 kd, .bool sk, .slice ra rs.length rc] ∧ Below W.heap.size W U := ⟨_, rfl, Bk.new _ _ _, bl1 _⟩
  have hwU := hbW.trans (hbU.mono hbW.size)
  have hWs : W.heap.size = w.heap.size + 1 := by rw [hW]; simp
  have XWU := XW.below hbU
  rw [hWs] at XU
  obtain ⟨-, d0, d1, d2⟩ := hall W hbW
  obtain ⟨x0, x1, -⟩ := XW.two
  have i1 : (0 : Int) ≤ (k : Int) := by omega
  have i2 : (k : Int) < (l.length : Int) := by omega
  have i3 : (0 : Int) ≤ (j : Int) := by omega
  have i4 : (j : Int) < (L.length : Int) := by omega
  have hkr := (hall W hbW).1.lenB
  go_enter Tryd.func23, Tryd.ntmps23
  go_upto_region 1 with fail
  rw [← hW]
  clear hW
  go_upto_region 2 with fail
  clear d0 d1 d2 x0 x1
  rw [← hU]
  have HXU : Hid (Bk 41 U (w.heap.size + 1) [.int .i64 kd, .bool sk, .slice ra rs.length rc]) := XU
  have HWW : Hid (Bk 55 U w.heap.size [.slice (some ⟨lb, lo, none⟩) l.length lc, .slice mb ms.length mc]) := XWU
  have HWU : Hid (Below w.heap.size w U) := hwU
  have hmk := fun Z (hZ : Below U.heap.size U Z) => cmark_any Sm mb mc ms z Z (HMS.out.below (HWU.out.trans (hZ.mono HWU.out.size))) hLz
  clear hU hl hms hL hLR hall XWU XW XU hbU hbW hwU hWs
  go_cut [35] from 25 to 35 (fun v wx => v = .bool (sk && mkB ms z) ∧ Below U.heap.size U wx)
  case first =>
    obtain ⟨y0, y1, -⟩ := HWW.out.two
    obtain ⟨-, z1, -⟩ := HXU.out.three
    have c0 := HLC.out U HWU.out
    have lt0 : w.heap.size < U.heap.size := HWW.out.lt
    have lt1 : w.heap.size + 1 < U.heap.size := HXU.out.lt
    have lt2 : ab < U.heap.size := Nat.lt_of_lt_of_le hab HWU.out.size
    refine wp_region_held_drew (S := fun u => u.cell? ⟨w.heap.size + 1, 1, none⟩ = some (.bool sk) ∧ u.cell? ⟨w.heap.size, 1, none⟩ = some (.slice mb ms.length mc) ∧ u.cell? ⟨ab, ao + j, none⟩ = some (.int .i64 z)) (by kernel_rfl) ⟨z1, y1, c0⟩ (fun hHeld => ?_)
    have hdr : Below U.heap.size U U.drew := (Below.refl _ _).drew
    generalize U.drew = Z at hdr hHeld ⊢
    refine hT 0 hHeld ?_
    refine hT 1 hHeld ?_
    refine hT 2 hHeld ?_
    cases sk with
    | false =>
      refine hN 3 hHeld ?_
      refine hN 4 hHeld ?_
      refine hN 5 hHeld ?_
      refine hN 6 hHeld ?_
      refine hN 7 hHeld ?_
      refine hN 8 hHeld ?_
      refine hN 9 hHeld ?_
      refine hT 10 hHeld ?_
      refine wpAnyH_done (by kernel_rfl) ?_ _
      clear hmk y0 y1 z1 c0 hHeld
      go_wp2
      go_meet
      exact ⟨rfl, hdr⟩
    | true =>
      have hm := hmk Z hdr
      obtain ⟨q, hq⟩ : ∃ q, mkB ms z = q := ⟨_, rfl⟩
      rw [hq] at hm
      have HQ : Hid (mkB ms z = q) := hq
      clear hq
      refine hT 3 hHeld ?_
      refine hT 4 hHeld ?_
      refine hT 5 hHeld ?_
      refine hT 6 hHeld ?_
      refine hT 7 hHeld ?_
      refine hT 8 hHeld ?_
      refine hCall (i := 9) rfl (by kernel_rfl) (by rfl) (fun K hK => ?_)
      go_simp
      refine hm.mono ?_
      rintro e u ⟨rfl, hbu⟩
      have hUu := hdr.trans (hbu.mono hdr.size)
      clear hm hmk
      go_wp2_with fail
      refine hK.out _ _ ⟨(hUu.cell (p := ⟨w.heap.size + 1, 1, none⟩) lt1).trans z1, (hUu.cell (p := ⟨w.heap.size, 1, none⟩) lt0).trans y1, (hUu.cell (p := ⟨ab, ao + j, none⟩) lt2).trans c0⟩ (fun hHeld => ?_)
      clear hK K
      try simp only [Act.put, List.setIfInBounds_toArray, List.set_cons_zero, List.set_cons_succ]
      refine hT 10 hHeld ?_
      refine wpAnyH_done (by kernel_rfl) ?_ _
      clear y0 y1 z1 c0 hHeld
      go_wp2
      go_meet
      exact ⟨by rw [HQ.out, Bool.true_and], hUu⟩
  case rest =>
    obtain ⟨rfl, hBc⟩ := hcut
    have hwc := HWU.out.trans (hBc.mono HWU.out.size)
    obtain ⟨z0, z1, z2, -⟩ := (HXU.out.below hBc).three
    clear hmk
    obtain ⟨bq, hq⟩ : ∃ bq, (sk && mkB ms z) = bq := ⟨_, rfl⟩
    rw [hq] at HD ⊢
    clear hq
    cases bq with
    | true =>
      have HF : Hid (duF l ms n k L (j : Int) = Option.none) := by show _ = _; rw [HD.out]; rfl
      have hcl := ccloneI_any S (some ⟨ab, ao, none⟩) ca L wc (HL.out.below hwc) (by omega)
      go_wp2_with fail
      refine hcl.mono ?_
      rintro e u ⟨⟨v, rfl, hv⟩, hbu⟩
      obtain ⟨va, vc, rfl, hvg⟩ := hv.io.grL (S := fun _ => True)
      have HV : Hid (DuA l ms n k L (j : Int) u (.returned (.tuple #[.slice va L.length vc, .int .i64 (j : Int), .bool false]))) := DuA.none HF.out hvg
      have hfin := hwc.trans (hbu.mono hwc.size)
      clear hcl hv hvg hbu z0 z1 z2 HD
      go_wp2
      go_ret3
      exact ⟨HV.out, hfin⟩
    | false =>
    have HD2 : Hid (duF l ms n k L (j : Int) = rsF (inF l ms n L) kd sk ms L (j : Int) (rs.drop 0)) := by show _ = _; rw [HD.out]; rfl
    clear HD
    go_wp2
    clear z0 z1 z2
    go_loopw [42] (fun i wr => ∃ r : Nat, r ≤ rs.length ∧ i = .int .i64 r ∧ Hid (duF l ms n k L (j : Int) = rsF (inF l ms n L) kd sk ms L (j : Int) (rs.drop r)) ∧ Below U.heap.size U wr) (fun i _ => rs.length - (intOf i).toNat)
    case atStart => exact ⟨0, Nat.zero_le _, rfl, HD2, hBc⟩
    case round =>
      clear HD2 hBc hwc
      obtain ⟨r, hr, rfl, HDR, hB⟩ := hrel
      have hwr := HWU.out.trans (hB.mono HWU.out.size)
      by_cases hrn : r < rs.length
      · obtain ⟨hrs, -, -, -⟩ := HALL.out wr hwr
        obtain ⟨rb, ro, a1, c1, a2, c2, er, hrb, hI, hin, hou, k0, k1, k2, k3, k4, k5, k6, k7, k8, k9⟩ := hrs.ru10 (Below.refl _ _) r hrn
        have HFX : Hid (RuF l kd (rs.getD r Ru.none) g) := HFR.out _ (by rw [List.getD_eq_getElem?_getD, List.getElem?_eq_getElem hrn]; exact List.getElem_mem hrn)
        have HSK : Hid (meQ ms L sk (j : Int) (rs.getD r Ru.none).inn = Option.none → duF l ms n k L (j : Int) = rsF (inF l ms n L) kd sk ms L (j : Int) (rs.drop (r + 1))) := fun h => by rw [HDR.out, rsF_skip hrn h]
        have HMT : Hid (∀ m, meQ ms L sk (j : Int) (rs.getD r Ru.none).inn = Option.some m → duF l ms n k L (j : Int) = Option.some (apF (inF l ms n L) kd L (j : Int) (rs.getD r Ru.none) m)) := fun m h => by rw [HDR.out, rsF_met hrn h]
        obtain ⟨x, hx⟩ : ∃ x, rs.getD r Ru.none = x := ⟨_, rfl⟩
        rw [hx] at hI hin hou k0 k1 k2 k3 k4 k5 k6 k7 k8 k9 HFX HSK HMT
        clear hx
        obtain ⟨inn, out, ap, lk, ⟨x1, x2⟩, ⟨y1, y2⟩, ⟨w1, w2⟩⟩ := x
        dsimp only at k0 k1 k2 k3 k4 k5 k6 k7 k8 k9 hin hou HSK HMT
        obtain ⟨f1, f2, ⟨f3, f4⟩, ⟨f5, f6⟩, f7, f8⟩ := hI
        dsimp only at f1 f2 f3 f4 f5 f6 f7 f8
        subst er
        have i5 : (0 : Int) ≤ (r : Int) := by omega
        have i6 : (r : Int) < (rs.length : Int) := by omega
        have hil : inn.length ≤ 8 := HFX.out.il.2
        have hol : out.length ≤ 8 := HFX.out.ol
        obtain ⟨V, hV, XV, hbV⟩ : ∃ V, V = wr.alloc (.cells #[.slice a1 inn.length c1, .slice a2 out.length c2, .int .i64 ap, .int .i64 lk, .int .i64 x1, .int .i64 x2, .int .i64 y1, .int .i64 y2, .int .i64 w1, .int .i64 w2] 46) ∧ Bk 46 V wr.heap.size (ruV a1 c1 a2 c2 ⟨inn, out, ap, lk, (x1, x2), (y1, y2), (w1, w2)⟩) ∧ Below wr.heap.size wr V := ⟨_, rfl, Bk.new _ _ (ruV a1 c1 a2 c2 ⟨inn, out, ap, lk, (x1, x2), (y1, y2), (w1, w2)⟩), bl1 _⟩
        have hUV := hB.trans (hbV.mono hB.size)
        have hwV := hwr.trans (hbV.mono hwr.size)
        have hinV := hin.below hbV
        have houV := hou.below hbV
        go_upto_region 7 with fail
        rw [← hV]
        clear hV k0 k1 k2 k3 k4 k5 k6 k7 k8 k9 hin hou hrs hbV
        obtain ⟨-, y1', -⟩ := (HWW.out.below hUV).two
        obtain ⟨-, z1, -⟩ := (HXU.out.below hUV).three
        obtain ⟨q0, -⟩ := XV.ru
        dsimp only at q0
        have hme := cmeet_any Sm (some ⟨ab, ao, none⟩) ca L mb mc ms (j : Int) a1 c1 inn sk V (HL.out.below hwV).ri (HMS.out.below hwV) hIJ hinV.ri (by omega)
        go_wp2_with fail
        refine hme.mono ?_
        rintro e u3 ⟨⟨v, rfl, hv⟩, hb3⟩
        have hU3 := hUV.trans (hb3.mono hUV.size)
        have hw3 := hwV.trans (hb3.mono hwV.size)
        obtain ⟨pa, pc, rfl, hpr⟩ := hv.slice
        clear hme hv y1' z1 q0
        cases hq : meQ ms L sk (j : Int) inn with
        | none =>
          have HB0 : meB ms L sk (j : Int) inn = false := by unfold meB; rw [hq]; rfl
          have HDN : Hid (duF l ms n k L (j : Int) = rsF (inF l ms n L) kd sk ms L (j : Int) (rs.drop (r + 1))) := HSK.out hq
          rw [HB0]
          clear hq HB0 HSK HMT HDR hpr hb3 hinV houV XV
          go_wp2
          go_roundw
          case rel => exact ⟨r + 1, by omega, by go_num, HDN, hU3⟩
          case measure => simp [intOf]; omega
        | some m =>
        have HB0 : meB ms L sk (j : Int) inn = true := by unfold meB; rw [hq]; rfl
        have HL0 : meL ms L sk (j : Int) inn = m := by unfold meL; rw [hq]; rfl
        have HDM : Hid (duF l ms n k L (j : Int) = Option.some (apF (inF l ms n L) kd L (j : Int) ⟨inn, out, ap, lk, (x1, x2), (y1, y2), (w1, w2)⟩ m)) := HMT.out m hq
        have hM := me_r hq
        rw [HB0, HL0]
        rw [HL0] at hpr
        have HML : Hid (m.length = inn.length) := hM.len
        obtain ⟨z0, z1, z2, -⟩ := (HXU.out.below hU3).three
        have hX3 := XV.below hb3
        have hO3 := houV.below hb3
        clear hq HB0 HL0 HSK HMT HDR hb3 hinV houV XV
        by_cases h3 : kd = 3
        · subst h3
          obtain ⟨e1, e2⟩ := HFX.out.lig rfl
          dsimp only at e1 e2
          obtain ⟨b9, o9, rfl, hb9, c9⟩ := hO3.ri.at (Below.refl _ _) 0 (by omega)
          have hgo : I64 (out.getD 0 0) := hO3.ri.i64 (by omega)
          have HOUT : Hid (out = [out.getD 0 0]) := by
            cases out with
            | nil => simp at e2
            | cons y t =>
              cases t with
              | nil => rfl
              | cons y2 t => simp at e2
          have i7 : 0 < out.length := by omega
          have i8 : (0 : Int) < (out.length : Int) := by omega
          rw [Nat.add_zero] at c9
          obtain ⟨go, hgo2⟩ : ∃ go, out.getD 0 0 = go := ⟨_, rfl⟩
          rw [hgo2] at c9 hgo HOUT
          have hjo := join_any S (some ⟨ab, ao, none⟩) ca L pa pc m ms sk (j : Int) inn go u3 (HL.out.below hw3) hpr hM (by have := HML.out; omega) hgo (by omega)
          have HDZ : Hid (duF l ms n k L (j : Int) = Option.some (puL (taF L m.tail) (j : Int) ((j : Int) + 1) [go], (j : Int) + 1)) := by
            show _ = _
            rw [HDM.out]
            unfold apF
            rw [if_neg (by decide), if_pos rfl, HOUT.out]
          obtain ⟨-, q1, -⟩ := hX3.ru
          dsimp only at q1
          obtain ⟨o, ho⟩ : ∃ o, puL (taF L m.tail) (j : Int) ((j : Int) + 1) [go] = o := ⟨_, rfl⟩
          rw [ho] at hjo HDZ
          clear HDM HOUT hgo2 ho hM e1 e2 HML hpr hO3 hX3
          go_wp2_with fail
          refine hjo.mono ?_
          rintro e u4 ⟨⟨oa, oc, rfl, hgr⟩, hb4⟩
          have HV : Hid (DuA l ms n k L (j : Int) u4 (.returned (.tuple #[.slice oa o.length oc, .int .i64 ((j : Int) + 1), .bool true]))) := DuA.some HDZ.out hgr
          have hfin := hw3.trans (hb4.mono hw3.size)
          clear hjo hgr hb4 z0 z1 z2 q1 c9
          go_wp2
          go_ret3
          exact ⟨HV.out, hfin⟩
        have g3 : (kd == 3) = false := beq_eq_false_iff_ne.2 h3
        by_cases h4 : kd = 4
        · subst h4
          obtain ⟨e0, e1, e2, e3, e4, e5⟩ := HFX.out.cx rfl
          dsimp only at e0 e1 e2 e3 e4 e5
          have hwi := within_any l ms g hf n hn7 IH Sl Sm S (some ⟨lb, lo, none⟩) lc mb mc a1 c1 a2 c2 inn out ap lk x1 x2 y1 y2 w1 w2 (some ⟨ab, ao, none⟩) ca L pa pc m sk (j : Int) inn u3 (HLK.out.below hw3) (HMS.out.below hw3) (HL.out.below hw3) hpr hM hle e1 (by have := HML.out; omega) e3 e4 e5
          rw [HU.out] at hwi
          have HDZ : Hid (duF l ms n k L (j : Int) = Option.some (inF l ms n L lk (m.getD ap.toNat 0), max (m.getD (m.length - 1) 0 + 1 + ((inF l ms n L lk (m.getD ap.toNat 0)).length : Int) - (L.length : Int)) (j : Int))) := by
            show _ = _
            rw [HDM.out]
            unfold apF
            rw [if_pos rfl]
          obtain ⟨y0', y1', -⟩ := (HWW.out.below hU3).two
          obtain ⟨q0, q1, q2, q3, q4, q5, q6, q7, q8, q9⟩ := hX3.ru
          dsimp only at q0 q1 q2 q3 q4 q5 q6 q7 q8 q9
          generalize max (m.getD (m.length - 1) 0 + 1 + ((inF l ms n L lk (m.getD ap.toNat 0)).length : Int) - (L.length : Int)) (j : Int) = on at hwi HDZ
          generalize inF l ms n L lk (m.getD ap.toNat 0) = o at hwi HDZ
          clear HDM hM e0 e1 e2 e3 e4 e5 HML hpr hO3 hX3 g3 h3
          go_wp2_with fail
          refine hwi.mono ?_
          rintro e u4 ⟨⟨oa, oc, rfl, hgr⟩, hb4⟩
          have HV : Hid (DuA l ms n k L (j : Int) u4 (.returned (.tuple #[.slice oa o.length oc, .int .i64 on, .bool true]))) := DuA.some HDZ.out hgr
          have hfin := hw3.trans (hb4.mono hw3.size)
          clear hwi hgr hb4 z0 z1 z2 y0' y1' q0 q1 q2 q3 q4 q5 q6 q7 q8 q9
          go_wp2
          go_ret3
          exact ⟨HV.out, hfin⟩
        have g4 : (kd == 4) = false := beq_eq_false_iff_ne.2 h4
        have HDZ : Hid (duF l ms n k L (j : Int) = Option.some (puL L (j : Int) ((j : Int) + 1) out, (j : Int) + (out.length : Int))) := by
          show _ = _
          rw [HDM.out]
          unfold apF
          rw [if_neg h4, if_neg h3]
        obtain ⟨-, q1, -⟩ := hX3.ru
        dsimp only at q1
        have lt3 : wr.heap.size < u3.heap.size := hX3.lt
        have hpu := fun Z (hZ : Below u3.heap.size u3 Z) => cput_any S Sl (some ⟨ab, ao, none⟩) ca L (j : Int) ((j : Int) + 1) a2 c2 out Z (HL.out.below (hw3.trans (hZ.mono hw3.size))) (hO3.below hZ) hIJ ⟨by omega, by omega⟩ (by omega) (by omega)
        have v1 : IntKind.i64.wrap ((j : Int) + 1) = (j : Int) + 1 := wrapi64y (by omega) (by omega)
        have v2 : IntKind.i64.wrap ((j : Int) + (out.length : Int)) = (j : Int) + (out.length : Int) := wrapi64y (by omega) (by omega)
        clear HDM hM HML hpr hO3 hX3 h3 h4
        obtain ⟨o, ho⟩ : ∃ o, puL L (j : Int) ((j : Int) + 1) out = o := ⟨_, rfl⟩
        rw [ho] at HDZ
        have HO : Hid (puL L (j : Int) ((j : Int) + 1) out = o) := ho
        clear ho
        go_wp2
        refine wp_region_held_drew (S := fun u => u.cell? ⟨wr.heap.size, 1, none⟩ = some (.slice a2 out.length c2)) (by kernel_rfl) q1 (fun hHeld => ?_)
        have hdr : Below u3.heap.size u3 u3.drew := (Below.refl _ _).drew
        generalize u3.drew = Z at hdr hHeld ⊢
        refine hT 0 hHeld ?_
        refine hT 1 hHeld ?_
        refine hT 2 hHeld ?_
        refine hT 3 hHeld ?_
        refine hT 4 hHeld ?_
        refine hT 5 hHeld ?_
        refine hT 7 hHeld ?_
        refine hT 8 hHeld ?_
        refine hT 9 hHeld ?_
        refine hT 10 hHeld ?_
        refine hT 11 hHeld ?_
        refine hCall (i := 6) rfl (by kernel_rfl) (by rfl) (fun K hK => ?_)
        go_simp
        refine (hpu Z hdr).mono ?_
        rintro e u4 ⟨⟨v4, rfl, hv4⟩, hb4⟩
        rw [HO.out] at hv4
        obtain ⟨oa, oc, rfl, hgr⟩ := hv4.io.grL (S := fun _ => True)
        have HV : Hid (DuA l ms n k L (j : Int) u4 (.returned (.tuple #[.slice oa o.length oc, .int .i64 ((j : Int) + (out.length : Int)), .bool true]))) := DuA.some HDZ.out hgr
        have h34 := hdr.trans (hb4.mono hdr.size)
        have hfin := hw3.trans (h34.mono hw3.size)
        have q1' := (h34.cell (p := ⟨wr.heap.size, 1, none⟩) lt3).trans q1
        clear hpu hgr hb4 hv4
        go_wp2_with fail
        refine hK.out _ _ q1' (fun hHeld => ?_)
        clear hK K
        try simp only [Act.put, List.setIfInBounds_toArray, List.set_cons_zero, List.set_cons_succ]
        refine hT 12 hHeld ?_
        refine hT 13 hHeld ?_
        refine hT 14 hHeld ?_
        refine wpAnyH_done (by kernel_rfl) ?_ _
        clear z0 z1 z2 q1 q1' hHeld hdr h34
        go_wp2
        go_ret3
        exact ⟨HV.out, hfin⟩
      · have HF : Hid (duF l ms n k L (j : Int) = Option.none) := by
          show _ = _
          rw [HDR.out, show r = rs.length by omega]
          exact rsF_end
        have hcl := ccloneI_any S (some ⟨ab, ao, none⟩) ca L wr (HL.out.below hwr) (by omega)
        have g4 : ¬ (r : Int) < (rs.length : Int) := by omega
        clear HDR
        go_wp2_with fail
        refine hcl.mono ?_
        rintro e u ⟨⟨v, rfl, hv⟩, hbu⟩
        obtain ⟨va, vc, rfl, hvg⟩ := hv.io.grL (S := fun _ => True)
        have HV : Hid (DuA l ms n k L (j : Int) u (.returned (.tuple #[.slice va L.length vc, .int .i64 (j : Int), .bool false]))) := DuA.none HF.out hvg
        have hfin := hwr.trans (hbu.mono hwr.size)
        clear hcl hv hvg hbu
        go_wp2
        go_ret3
        exact ⟨HV.out, hfin⟩

theorem do_any (l : List Lk) (ms : List Bool) (g : Int) (hf : foU l g = true) : ∀ n, n ≤ 7 → DoC l ms n := by
  intro n
  induction n with
  | zero => intro h; exact do_of l ms g hf 0 h (fun n' e => by omega)
  | succ n ih => intro h; exact do_of l ms g hf (n + 1) h (fun n' e => by obtain rfl : n = n' := (by omega); exact ih (by omega))

end Go.Proofs.YtechkkefpigcaaaDoor

namespace Go.Proofs.YtechkkefpigcaaaDoor
open Go.RowKit Go.Maps
set_option linter.unusedSimpArgs false
set_option linter.unusedVariables false

set_option maxHeartbeats 4000000 in
set_option maxRecDepth 100000 in
theorem cformU_any (S : Nat → Prop) (a : Option Addr) (ca : Nat) (l : List Lk) (g : Int) (w : World) (hl : Gr LkE S w a ca l) (hg : I64 g) (hT : Spn w) :
    Calls Tryd.prog 16 #[.slice a l.length ca, .int .i64 g] w fun e w' => e = .returned (.bool (foU l g)) ∧ Below w.heap.size w w' := by
  have kl := hl.lenB
  by_cases hn1 : 10 < l.length
  · have HF : Hid (foU l g = false) := foU_long hn1
    have g2 : (10 : Int) < (l.length : Int) := by omega
    clear hn1 hl hT
    go_enter Tryd.func16, Tryd.ntmps16
    go_wp2
    go_ret
    exact ⟨rt_bool HF.out.symm, Below.refl _ _⟩
  have g2 : ¬ (10 : Int) < (l.length : Int) := by omega
  have HL : Hid (Gr LkE S w a ca l) := hl
  have HT : Hid (Spn w) := hT
  obtain ⟨R, hR⟩ : ∃ R, foU l g = R := ⟨_, rfl⟩
  have HBD : Hid (∀ k, k < l.length → loB l g (l.getD k Lk.none) = false → R = false) := fun k hk h => by rw [← hR]; exact foU_bad hk h
  have HYS : Hid ((∀ k, k < l.length → loB l g (l.getD k Lk.none) = true) → R = true) := fun h => by rw [← hR]; exact foU_iff.2 ⟨by omega, h⟩
  rw [hR]
  clear hR hn1 hl hT
  go_enter Tryd.func16, Tryd.ntmps16
  go_wp2
  clear g2
  go_loopw [12] (fun i wr => ∃ k : Nat, k ≤ l.length ∧ i = .int .i64 k ∧ Hid (∀ j, j < k → loB l g (l.getD j Lk.none) = true) ∧ Below w.heap.size w wr) (fun i _ => l.length - (intOf i).toNat)
  case atStart => exact ⟨0, Nat.zero_le _, rfl, (fun j hj => by omega), Below.refl _ _⟩
  case round =>
    obtain ⟨k, hk, rfl, HOK, hB⟩ := hrel
    by_cases hkn : k < l.length
    · obtain ⟨b, off, ra, rc, ea, hb1, hkd, hrs, d0, d1, d2⟩ := HL.out.lk hB k hkn
      have HBad : Hid (loB l g (l.getD k Lk.none) = false → R = false) := HBD.out k hkn
      have HOK2 : Hid (loB l g (l.getD k Lk.none) = true → ∀ j, j < k + 1 → loB l g (l.getD j Lk.none) = true) := fun h j hj => by
        rcases Nat.lt_or_ge j k with h1 | h1
        · exact HOK.out j h1
        · rw [show j = k by omega]; exact h
      obtain ⟨x, hx⟩ : ∃ x, l.getD k Lk.none = x := ⟨_, rfl⟩
      rw [hx] at hkd hrs d0 d1 d2 HBad HOK2
      clear hx
      obtain ⟨kd, sk, rs⟩ := x
      dsimp only at hkd hrs d0 d1 d2
      have i1 : (0 : Int) ≤ (k : Int) := by omega
      have i2 : (k : Int) < (l.length : Int) := by omega
      subst ea
      obtain ⟨U, hU, XG, hbU⟩ : ∃ U, U = wr.alloc (.cells #[.int .i64 kd, .bool sk, .slice ra rs.length rc] 41) ∧ Bk 41 U wr.heap.size [.int .i64 kd, .bool sk, .slice ra rs.length rc] ∧ Below wr.heap.size wr U := ⟨_, rfl, Bk.new _ _ _, bl1 _⟩
      have hBU := hB.trans (hbU.mono hB.size)
      have hpu := puts_any kd U hkd
      obtain ⟨x0, x1, x2, -⟩ := XG.three
      go_upto_region 6 with fail
      rw [← hU]
      clear hU XG d0 d1 d2 HOK
      cases hp : puB kd with
      | false =>
        rw [hp] at hpu
        have HOK3 : Hid (∀ j, j < k + 1 → loB l g (l.getD j Lk.none) = true) := HOK2.out (loB_other (x := ⟨kd, sk, rs⟩) hp)
        clear hp HBad HOK2 hrs
        go_wp2_with fail
        refine hpu.mono ?_
        rintro e u ⟨rfl, rfl⟩
        clear hpu x0 x1 x2 hB
        go_wp2
        go_roundw
        case rel => exact ⟨k + 1, by omega, by go_num, HOK3, hBU⟩
        case measure => simp [intOf]; omega
      | true =>
        rw [hp] at hpu
        have hlo : loB l g ⟨kd, sk, rs⟩ = lkB l g ⟨kd, sk, rs⟩ := loB_lk (x := ⟨kd, sk, rs⟩) hp
        have h4 := puB_iff.1 hp
        obtain ⟨n, rfl⟩ : ∃ n : Nat, kd = (n : Int) := ⟨kd.toNat, by omega⟩
        have hlf := lookF_any S (some ⟨b, off, none⟩) ca l n sk ra rc rs g U (HL.out.below hBU) (by omega) (by omega) (hrs.below hbU) hg (HT.out.below hBU)
        rw [hlo] at HBad HOK2
        generalize lkB l g ⟨(n : Int), sk, rs⟩ = A at hlf HBad HOK2
        clear hp hlo h4 hrs
        go_wp2_with fail
        refine hpu.mono ?_
        rintro e u ⟨rfl, rfl⟩
        clear hpu
        go_wp2_with fail
        refine hlf.mono ?_
        rintro e u ⟨rfl, hbu⟩
        have hfin := hBU.trans (hbu.mono hBU.size)
        clear hlf hbu x0 x1 x2 hB hBU
        cases A with
        | false =>
          have HF : Hid (R = false) := HBad.out rfl
          clear HBad HOK2
          go_wp2
          go_ret
          exact ⟨rt_bool HF.out.symm, hfin⟩
        | true =>
          have HOK3 : Hid (∀ j, j < k + 1 → loB l g (l.getD j Lk.none) = true) := HOK2.out rfl
          clear HBad HOK2
          go_wp2
          go_roundw
          case rel => exact ⟨k + 1, by omega, by go_num, HOK3, hfin⟩
          case measure => simp [intOf]; omega
    · have HF : Hid (R = true) := HYS.out (fun j hj => HOK.out j (by omega))
      have g4 : ¬ (k : Int) < (l.length : Int) := by omega
      clear HOK
      go_wp2
      go_ret
      exact ⟨rt_bool HF.out.symm, hB⟩

end Go.Proofs.YtechkkefpigcaaaDoor

namespace Go.Proofs.YtechkkefpigcaaaDoor
set_option linter.unusedSimpArgs false
set_option linter.unusedVariables false

/-- Glyph by glyph from a place on. -/
theorem liQ_ind {l : List Lk} {g : Int} {ms : List Bool} (hf : foU l g = true) {k : Nat} (hk : k < l.length) (hp : puB (l.getD k Lk.none).kd = true) (P : List Int → Int → List Int → Prop)
    (h0 : ∀ L i, 0 ≤ i → ¬ i < (L.length : Int) → P L i L)
    (h1 : ∀ L i o, 0 ≤ i → i < (L.length : Int) → ¬ 100 < (duL l ms 7 k L i).length → P (duL l ms 7 k L i) (goO l ms k L i) o → P L i o) :
    ∀ (n : Nat) (L : List Int) (i : Int) (o : List Int), 0 ≤ i → (L.length : Int) - i ≤ (n : Int) → liQ l ms k L i = some o → P L i o := by
  intro n
  induction n with
  | zero =>
    intro L i o hi hn h
    rw [liQ_end hi (by omega)] at h
    injection h with h
    subst h
    exact h0 L i hi (by omega)
  | succ n ih =>
    intro L i o hi hn h
    by_cases hlt : i < (L.length : Int)
    · by_cases hl : 100 < (duL l ms 7 k L i).length
      · rw [liQ_long hi hlt hl] at h; cases h
      · obtain ⟨g1, g2, g3, g4⟩ := go_less (ms := ms) hf hk hp hi hlt
        rw [liQ_on hf hk hp hi hlt hl] at h
        exact h1 L i o hi hlt hl (ih _ _ _ (by omega) (by omega) h)
    · rw [liQ_end hi hlt] at h
      injection h with h
      subst h
      exact h0 L i hi hlt
theorem duL_single {l : List Lk} {g : Int} {ms : List Bool} (hf : foU l g = true) {k : Nat} (hk : k < l.length) (h1 : (l.getD k Lk.none).kd = 1) {L : List Int} {i : Int} (h0 : 0 ≤ i) (hi : i < (L.length : Int)) : (duL l ms 7 k L i).length = L.length := by
  unfold duL
  cases hd : duF l ms 7 k L i with
  | none => rfl
  | some p => exact (du_single hf hk h1 (plB_iff.2 ⟨h0, hi⟩) hd).1
theorem duL_lig {l : List Lk} {g : Int} {ms : List Bool} (hf : foU l g = true) {k : Nat} (hk : k < l.length) (h1 : (l.getD k Lk.none).kd = 3) {L : List Int} {i : Int} (h0 : 0 ≤ i) (hi : i < (L.length : Int)) : (duL l ms 7 k L i).length ≤ L.length := by
  unfold duL
  cases hd : duF l ms 7 k L i with
  | none => exact Nat.le_refl _
  | some p => exact du_lig hf hk h1 (plB_iff.2 ⟨h0, hi⟩) hd
/-- A line that never grows is done. -/
theorem liQ_some {l : List Lk} {g : Int} {ms : List Bool} (hf : foU l g = true) {k : Nat} (hk : k < l.length) (hp : puB (l.getD k Lk.none).kd = true) (hle : ∀ L i, 0 ≤ i → i < (L.length : Int) → (duL l ms 7 k L i).length ≤ L.length) :
    ∀ (n : Nat) (L : List Int) (i : Int), 0 ≤ i → (L.length : Int) - i ≤ (n : Int) → L.length ≤ 100 → ∃ o, liQ l ms k L i = some o ∧ o.length ≤ L.length := by
  intro n
  induction n with
  | zero => intro L i hi hn hl; exact ⟨L, liQ_end hi (by omega), Nat.le_refl _⟩
  | succ n ih =>
    intro L i hi hn hl
    by_cases hlt : i < (L.length : Int)
    · have h1 := hle L i hi hlt
      obtain ⟨g1, g2, g3, g4⟩ := go_less (ms := ms) hf hk hp hi hlt
      obtain ⟨o, e, ho⟩ := ih (duL l ms 7 k L i) (goO l ms k L i) (by omega) (by omega) (by omega)
      exact ⟨o, by rw [liQ_on hf hk hp hi hlt (by omega)]; exact e, by omega⟩
    · exact ⟨L, liQ_end hi hlt, Nat.le_refl _⟩
theorem liQ_single {l : List Lk} {g : Int} {ms : List Bool} (hf : foU l g = true) {k : Nat} (hk : k < l.length) (h1 : (l.getD k Lk.none).kd = 1) {L : List Int} (hl : L.length ≤ 100) : ∃ o, liQ l ms k L 0 = some o ∧ o.length = L.length := by
  have hp : puB (l.getD k Lk.none).kd = true := puB_iff.2 (.inl h1)
  obtain ⟨o, e, _⟩ := liQ_some (ms := ms) hf hk hp (fun L i a b => Nat.le_of_eq (duL_single hf hk h1 a b)) L.length L 0 (Int.le_refl _) (by omega) hl
  refine ⟨o, e, ?_⟩
  exact liQ_ind hf hk hp (fun L i o => o.length = L.length) (fun L i _ _ => rfl) (fun L i o a b _ h => by rw [h]; exact duL_single hf hk h1 a b) L.length L 0 o (Int.le_refl _) (by omega) e
theorem liQ_lig {l : List Lk} {g : Int} {ms : List Bool} (hf : foU l g = true) {k : Nat} (hk : k < l.length) (h1 : (l.getD k Lk.none).kd = 3) {L : List Int} (hl : L.length ≤ 100) : ∃ o, liQ l ms k L 0 = some o ∧ o.length ≤ L.length :=
  liQ_some hf hk (puB_iff.2 (.inr (.inr (.inl h1)))) (fun L i a b => duL_lig hf hk h1 a b) L.length L 0 (Int.le_refl _) (by omega) hl

/-- One glyph met. -/
theorem me_one {ms : List Bool} {L : List Int} {sk : Bool} {i : Nat} (hi : i < L.length) (g : Int) : meQ ms L sk (i : Int) [g] = if L.getD i 0 = g then some [(i : Int)] else none := by
  rw [meQ]
  have hp : plB L (i : Int) = true := plB_iff.2 ⟨by omega, by omega⟩
  rw [hp, Int.toNat_natCast]
  by_cases h : L.getD i 0 = g
  · rw [if_pos ⟨rfl, h⟩, if_pos h, meF]; rfl
  · rw [if_neg (fun e => h e.2), if_neg h]
/-- Two glyphs met, no marks. -/
theorem me_two {L : List Int} {i : Nat} (hi : i < L.length) (g h : Int) : meQ [] L false (i : Int) [g, h] = if L.getD i 0 = g ∧ i + 1 < L.length ∧ L.getD (i + 1) 0 = h then some [(i : Int), ((i + 1 : Nat) : Int)] else none := by
  rw [meQ]
  have hp : plB L (i : Int) = true := plB_iff.2 ⟨by omega, by omega⟩
  rw [hp, Int.toNat_natCast]
  by_cases h1 : L.getD i 0 = g
  · rw [if_pos ⟨rfl, h1⟩, meF]
    have hn : nxQ [] L false (i : Int) = if i + 1 < L.length then ((i + 1 : Nat) : Int) else -1 := by
      rw [nxQ_yes hi]
      by_cases h2 : i + 1 < L.length
      · rw [if_pos h2]; exact nxF_off h2 rfl
      · rw [if_neg h2]; exact nxF_end (by omega)
    rw [hn]
    by_cases h2 : i + 1 < L.length
    · rw [if_pos h2]
      by_cases h3 : L.getD (i + 1) 0 = h
      · rw [if_neg (fun e => by
          rcases e with e | e
          · omega
          · rw [Int.toNat_natCast] at e; exact e h3), if_pos ⟨h1, h2, h3⟩, meF]
        rfl
      · rw [if_pos (.inr (by rw [Int.toNat_natCast]; exact h3)), if_neg (fun e => h3 e.2.2)]
        rfl
    · rw [if_neg h2, if_pos (.inl rfl), if_neg (fun e => h2 e.2.1)]
      rfl
  · rw [if_neg (fun e => h1 e.2), if_neg (fun e => h1 e.1)]
theorem mkB_nil (z : Int) : mkB [] z = false := mkB_no (fun h => by have := h.2; simp at this; omega)

/-- SubstSingle's lookup. -/
def lsS (p q : Int) (sk : Bool) : List Lk := [⟨1, sk, [⟨[p], [q], 0, 0, (0, 0), (0, 0), (0, 0)⟩, ⟨[q], [p], 0, 0, (0, 0), (0, 0), (0, 0)⟩]⟩]
theorem lsS_fo {p q : Int} {sk : Bool} (h1 : 0 ≤ p ∧ p < 65536) (h2 : 0 ≤ q ∧ q < 65536) : foU (lsS p q sk) 65536 = true := by
  have e1 : gyB 65536 p = true := gyB_iff.2 h1
  have e2 : gyB 65536 q = true := gyB_iff.2 h2
  simp [foU, lsS, loB, puB, ruB, zsB, alB, e1, e2]
def swS (p q x : Int) : Int := if x = p then q else if x = q then p else x
theorem swS_du {p q : Int} {sk : Bool} {ms : List Bool} (hs : sk = true → ms = []) {L : List Int} {i : Nat} (hi : i < L.length) : duL (lsS p q sk) ms 7 0 L (i : Int) = L.take i ++ [swS p q (L.getD i 0)] ++ L.drop (i + 1) ∧ goO (lsS p q sk) ms 0 L (i : Int) = (i : Int) + 1 := by
  have hsk : (((lsS p q sk).getD 0 Lk.none).sk && mkB ms (L.getD (i : Int).toNat 0)) = false := by
    show (sk && _) = false
    cases sk with
    | false => rfl
    | true => rw [hs rfl, mkB_nil]; rfl
  have hself : L.take i ++ [L.getD i 0] ++ L.drop (i + 1) = L := by
    rw [List.getD_eq_getElem?_getD, List.getElem?_eq_getElem hi, Option.getD_some, List.append_assoc, List.singleton_append, List.getElem_cons_drop, List.take_append_drop]
  have hd : duF (lsS p q sk) ms 7 0 L (i : Int) = if L.getD i 0 = p then some (puL L (i : Int) ((i : Int) + 1) [q], (i : Int) + 1) else if L.getD i 0 = q then some (puL L (i : Int) ((i : Int) + 1) [p], (i : Int) + 1) else none := by
    rw [duF_eq, if_neg (by rw [hsk]; decide)]
    show rsF _ 1 sk ms L (i : Int) [⟨[p], [q], 0, 0, (0, 0), (0, 0), (0, 0)⟩, ⟨[q], [p], 0, 0, (0, 0), (0, 0), (0, 0)⟩] = _
    rw [rsF, me_one hi]
    by_cases h1 : L.getD i 0 = p
    · rw [if_pos h1, if_pos h1]; rfl
    · rw [if_neg h1, if_neg h1]
      show rsF _ 1 sk ms L (i : Int) [⟨[q], [p], 0, 0, (0, 0), (0, 0), (0, 0)⟩] = _
      rw [rsF, me_one hi]
      by_cases h2 : L.getD i 0 = q
      · rw [if_pos h2, if_pos h2]; rfl
      · rw [if_neg h2, if_neg h2]; rfl
  unfold goO duL duO duB
  rw [hd]
  unfold swS
  by_cases h1 : L.getD i 0 = p
  · rw [if_pos h1, if_pos h1]
    refine ⟨?_, ?_⟩
    · show puL L (i : Int) ((i : Int) + 1) [q] = _
      rw [puL_one (by omega) (by omega), Int.toNat_natCast]
    · rw [if_neg (fun h => by
        rcases h with h | h
        · cases h
        · have := h.1; simp at this; omega)]
      rfl
  · rw [if_neg h1, if_neg h1]
    by_cases h2 : L.getD i 0 = q
    · rw [if_pos h2, if_pos h2]
      refine ⟨?_, ?_⟩
      · show puL L (i : Int) ((i : Int) + 1) [p] = _
        rw [puL_one (by omega) (by omega), Int.toNat_natCast]
      · rw [if_neg (fun h => by
          rcases h with h | h
          · cases h
          · have := h.1; simp at this; omega)]
        rfl
    · rw [if_neg h2, if_neg h2, if_pos (.inl rfl)]
      exact ⟨hself.symm, rfl⟩
theorem swS_li {p q : Int} {sk : Bool} {ms : List Bool} (hs : sk = true → ms = []) (h1 : 0 ≤ p ∧ p < 65536) (h2 : 0 ≤ q ∧ q < 65536) : ∀ (B A : List Int), (A ++ B).length ≤ 100 → liQ (lsS p q sk) ms 0 (A ++ B) (A.length : Int) = some (A ++ B.map (swS p q)) := by
  intro B
  induction B with
  | nil => intro A _; rw [List.append_nil, liQ_end (by omega) (by omega)]; simp
  | cons x B ih =>
    intro A hl
    have hi : A.length < (A ++ x :: B).length := by simp
    obtain ⟨e1, e2⟩ := swS_du (p := p) (q := q) hs hi
    have e3 : (A ++ x :: B).take A.length ++ [swS p q ((A ++ x :: B).getD A.length 0)] ++ (A ++ x :: B).drop (A.length + 1) = (A ++ [swS p q x]) ++ B := by
      simp [List.getD]
    rw [e3] at e1
    have hle : ((A ++ [swS p q x]) ++ B).length ≤ 100 := by simp at hl ⊢; omega
    rw [liQ_on (lsS_fo h1 h2) (show 0 < 1 from Nat.one_pos) (by rfl) (by omega) (by omega) (by rw [e1]; omega), e1, e2]
    have := ih (A ++ [swS p q x]) hle
    rw [show ((A ++ [swS p q x]).length : Int) = (A.length : Int) + 1 by simp] at this
    rw [this]
    simp
theorem swS_twice {p q : Int} (h : p ≠ q) (L : List Int) : (L.map (swS p q)).map (swS p q) = L := by
  rw [List.map_map]
  conv => rhs; rw [← List.map_id L]
  apply List.map_congr_left
  intro x _
  show swS p q (swS p q x) = x
  unfold swS
  by_cases h1 : x = p
  · rw [if_pos h1, if_neg (fun e => h e.symm), if_pos rfl, h1]
  · rw [if_neg h1]
    by_cases h2 : x = q
    · rw [if_pos h2, if_pos rfl, h2]
    · rw [if_neg h2, if_neg h1, if_neg h2]

end Go.Proofs.YtechkkefpigcaaaDoor
