/-
  foundryref20.done: the walk.
  foundryref20.Formed: the walk.
-/
import Derived.Test.YtechkkefpigcaaaDoorZL8
import Derived.Test.YtechkkefpigcaaaDoorZL10
import Derived.Test.YtechkkefpigcaaaDoorZL11
import Derived.Test.YtechkkefpigcaaaDoorZL7
namespace Go.Proofs.YtechkkefpigcaaaDoor
open Go.RowKit Go.Maps
set_option linter.unusedSimpArgs false
set_option linter.unusedVariables false

/-- The contract of the reference's done, with so many more under way within. -/
def DoS (l : List Lk) (ms : List Bool) (n : Nat) : Prop := ∀ (Sl Sm S : Nat → Prop) (la : Option Addr) (lc : Nat) (mb : Option Addr) (mc : Nat) (k : Nat) (a : Option Addr) (ca : Nat) (L : List Int) (i : Int) (w : World),
  Gr LkE Sl w la lc l → Gr El.bool Sm w mb mc ms → Gr El.int S w a ca L → k < l.length → puB (l.getD k Lk.none).kd = true → plB L i = true → L.length ≤ 200 →
  Calls Tryd.prog 26 #[.slice la l.length lc, .int .i64 k, .slice mb ms.length mc, .slice a L.length ca, .int .i64 i, .int .i64 (8 - (n : Int))] w fun e w' => DuA l ms n k L i w' e ∧ Below w.heap.size w w'
theorem taF_le (L t : List Int) : (taF L t).length ≤ L.length := by rw [← foP_taF]; exact foP_le _ _

set_option maxHeartbeats 8000000 in
set_option maxRecDepth 100000 in
theorem done_of (l : List Lk) (ms : List Bool) (g : Int) (hf : foU l g = true) (n : Nat) (hn7 : n ≤ 7) (IH : ∀ n', n = n' + 1 → DoS l ms n') : DoS l ms n := by
  intro Sl Sm S la lc mb mc k a ca L i w hl hms hL hk hp hi hle
  have kl := hL.lenB
  have kll := hl.lenB
  have hpi := plB_iff.1 hi
  obtain ⟨j, rfl⟩ : ∃ j : Nat, i = (j : Int) := ⟨i.toNat, by omega⟩
  have hj : j < L.length := by omega
  have hLR := hL.ri
  obtain ⟨ab, ao, rfl, hab, -⟩ := hLR.at (Below.refl _ _) j hj
  have HLC : Hid (∀ W, Below w.heap.size w W → W.cell? ⟨ab, ao + j, none⟩ = some (.int .i64 (L.getD j 0))) := fun W hW => by
    obtain ⟨b1, o1, e1, _, d1⟩ := hLR.at hW j hj
    cases e1
    exact d1
  have hLz : I64 (L.getD j 0) := hLR.i64 hj
  obtain ⟨lb, lo, ra, rc, rfl, hkd, hall⟩ := hl.lkAll k hk
  have HFR : Hid (∀ r ∈ (l.getD k Lk.none).rs, RuF l (l.getD k Lk.none).kd r g) := fun r hr => ru_mem hf hk hp hr
  have HD : Hid (duF l ms n k L (j : Int) = if (l.getD k Lk.none).sk && mkB ms (L.getD j 0) then Option.none else rsF (inF l ms n L) (l.getD k Lk.none).kd (l.getD k Lk.none).sk ms L (j : Int) (l.getD k Lk.none).rs) := by
    show _ = _
    rw [duF_eq, Int.toNat_natCast]
  obtain ⟨x, hx⟩ : ∃ x, l.getD k Lk.none = x := ⟨_, rfl⟩
  rw [hx] at hkd hall HFR HD hp
  clear hx
  obtain ⟨kd, sk, rs⟩ := x
  dsimp only at hkd hall HFR HD hp
  obtain ⟨z, hz⟩ : ∃ z, L.getD j 0 = z := ⟨_, rfl⟩
  rw [hz] at HLC hLz HD
  clear hz
  obtain ⟨uu, hu⟩ : ∃ uu : Int, 8 - (n : Int) = uu := ⟨_, rfl⟩
  have HU : Hid (8 - (n : Int) = uu) := hu
  rw [hu]
  clear hu
  have HALL : Hid (∀ u, Below w.heap.size w u → Gr RuE Sl u ra rc rs ∧ u.cell? ⟨lb, lo + k * 3, none⟩ = some (.int .i64 kd) ∧ u.cell? ⟨lb, lo + k * 3 + 1, none⟩ = some (.bool sk) ∧ u.cell? ⟨lb, lo + k * 3 + 2, none⟩ = some (.slice ra rs.length rc)) := hall
  have HL : Hid (Gr El.int S w (some ⟨ab, ao, none⟩) ca L) := hL
  have HLK : Hid (Gr LkE Sl w (some ⟨lb, lo, none⟩) lc l) := hl
  have HMS : Hid (Gr El.bool Sm w mb mc ms) := hms
  have hIJ : I64 (j : Int) := ⟨by omega, by omega⟩
  obtain ⟨U, hU, XU, hwU⟩ : ∃ U, U = w.alloc (.cells #[.int .i64 kd, .bool sk, .slice ra rs.length rc] 41) ∧ Bk 41 U w.heap.size [.int .i64 kd, .bool sk, .slice ra rs.length rc] ∧ Below w.heap.size w U := ⟨_, rfl, Bk.new _ _ _, bl1 _⟩
  obtain ⟨-, d0, d1, d2⟩ := hall w (Below.refl _ _)
  have i1 : (0 : Int) ≤ (k : Int) := by omega
  have i2 : (k : Int) < (l.length : Int) := by omega
  have i3 : (0 : Int) ≤ (j : Int) := by omega
  have i4 : (j : Int) < (L.length : Int) := by omega
  have hkr := (hall w (Below.refl _ _)).1.lenB
  have HXU : Hid (Bk 41 U w.heap.size [.int .i64 kd, .bool sk, .slice ra rs.length rc]) := XU
  have HWU : Hid (Below w.heap.size w U) := hwU
  have hmk := smark_any Sm mb mc ms z U (hms.below hwU) hLz
  have c0 := HLC.out U hwU
  obtain ⟨z0, z1, z2, -⟩ := XU.three
  go_enter Tryd.func26, Tryd.ntmps26
  go_upto_region 2 with fail
  rw [← hU]
  clear hU hl hms hL hLR hall XU hwU d0 d1 d2
  go_cut [37] from 28 to 37 (fun v wx => v = .bool (sk && mkB ms z) ∧ Below U.heap.size U wx)
  case first =>
    cases sk with
    | false =>
      clear hmk
      go_wp2
      go_meet
      exact ⟨rfl, Below.refl _ _⟩
    | true =>
      obtain ⟨q, hq⟩ : ∃ q, mkB ms z = q := ⟨_, rfl⟩
      rw [hq] at hmk
      have HQ : Hid (mkB ms z = q) := hq
      clear hq
      go_wp2_with fail
      refine hmk.mono ?_
      rintro e u ⟨rfl, hbu⟩
      clear hmk c0
      go_wp2
      go_meet
      exact ⟨by rw [HQ.out, Bool.true_and], hbu⟩
  case rest =>
    obtain ⟨rfl, hBc⟩ := hcut
    clear hmk c0 z0 z1 z2
    have hwc := HWU.out.trans (hBc.mono HWU.out.size)
    obtain ⟨bq, hq⟩ : ∃ bq, (sk && mkB ms z) = bq := ⟨_, rfl⟩
    rw [hq] at HD ⊢
    clear hq
    cases bq with
    | true =>
      have HF : Hid (duF l ms n k L (j : Int) = Option.none) := by show _ = _; rw [HD.out]; rfl
      have HV : Hid (DuA l ms n k L (j : Int) wc (.returned (.tuple #[.slice (some ⟨ab, ao, none⟩) L.length ca, .int .i64 (j : Int), .bool false]))) := DuA.none HF.out (HL.out.below hwc).anyI
      clear HD
      go_wp2
      go_ret3
      exact ⟨HV.out, hwc⟩
    | false =>
    have HD2 : Hid (duF l ms n k L (j : Int) = rsF (inF l ms n L) kd sk ms L (j : Int) (rs.drop 0)) := by show _ = _; rw [HD.out]; rfl
    clear HD
    go_wp2
    go_loopw [16] (fun i wr => ∃ r : Nat, r ≤ rs.length ∧ i = .int .i64 r ∧ Hid (duF l ms n k L (j : Int) = rsF (inF l ms n L) kd sk ms L (j : Int) (rs.drop r)) ∧ Below U.heap.size U wr) (fun i _ => rs.length - (intOf i).toNat)
    case atStart => exact ⟨0, Nat.zero_le _, rfl, HD2, hBc⟩
    case round =>
      clear HD2 hBc hwc
      obtain ⟨r, hr, rfl, HDR, hB⟩ := hrel
      have hwr := HWU.out.trans (hB.mono HWU.out.size)
      obtain ⟨t0, t1, t2, -⟩ := (HXU.out.below hB).three
      by_cases hrn : r < rs.length
      · obtain ⟨hrs, -, -, -⟩ := HALL.out wr hwr
        obtain ⟨rb, ro, a1, c1, a2, c2, er, hrb, hI, hin, hou, k0, k1, k2, k3, k4, k5, k6, k7, k8, k9⟩ := hrs.ru10 (Below.refl _ _) r hrn
        have HFX : Hid (RuF l kd (rs.getD r Ru.none) g) := HFR.out _ (by rw [List.getD_eq_getElem?_getD, List.getElem?_eq_getElem hrn]; exact List.getElem_mem hrn)
        have HSK : Hid (meQ ms L sk (j : Int) (rs.getD r Ru.none).inn = Option.none → duF l ms n k L (j : Int) = rsF (inF l ms n L) kd sk ms L (j : Int) (rs.drop (r + 1))) := fun h => by rw [HDR.out, rsF_skip hrn h]
        have HMT : Hid (∀ m, meQ ms L sk (j : Int) (rs.getD r Ru.none).inn = Option.some m → duF l ms n k L (j : Int) = Option.some (apF (inF l ms n L) kd L (j : Int) (rs.getD r Ru.none) m)) := fun m h => by rw [HDR.out, rsF_met hrn h]
        obtain ⟨x, hx⟩ : ∃ x, rs.getD r Ru.none = x := ⟨_, rfl⟩
        rw [hx] at hI hin hou k0 k1 k2 k3 k4 k5 k6 k7 k8 k9 HFX HSK HMT
        clear hx
        obtain ⟨inn, out, ap, lk, ⟨x1, x2⟩, ⟨y1, y2⟩, ⟨w1, w2⟩⟩ := x
        dsimp only at k0 k1 k2 k3 k4 k5 k6 k7 k8 k9 hin hou HSK HMT
        obtain ⟨f1, f2, ⟨f3, f4⟩, ⟨f5, f6⟩, f7, f8⟩ := hI
        dsimp only at f1 f2 f3 f4 f5 f6 f7 f8
        subst er
        have i5 : (0 : Int) ≤ (r : Int) := by omega
        have i6 : (r : Int) < (rs.length : Int) := by omega
        have hil : inn.length ≤ 8 := HFX.out.il.2
        have hol : out.length ≤ 8 := HFX.out.ol
        obtain ⟨V, hV, XV, hbV⟩ : ∃ V, V = wr.alloc (.cells #[.slice a1 inn.length c1, .slice a2 out.length c2, .int .i64 ap, .int .i64 lk, .int .i64 x1, .int .i64 x2, .int .i64 y1, .int .i64 y2, .int .i64 w1, .int .i64 w2] 46) ∧ Bk 46 V wr.heap.size (ruV a1 c1 a2 c2 ⟨inn, out, ap, lk, (x1, x2), (y1, y2), (w1, w2)⟩) ∧ Below wr.heap.size wr V := ⟨_, rfl, Bk.new _ _ (ruV a1 c1 a2 c2 ⟨inn, out, ap, lk, (x1, x2), (y1, y2), (w1, w2)⟩), bl1 _⟩
        have hUV := hB.trans (hbV.mono hB.size)
        have hwV := hwr.trans (hbV.mono hwr.size)
        have hinV := hin.below hbV
        have houV := hou.below hbV
        go_upto_region 8 with fail
        rw [← hV]
        clear hV k0 k1 k2 k3 k4 k5 k6 k7 k8 k9 hin hou hrs hbV t0 t1 t2
        obtain ⟨-, z1, -⟩ := (HXU.out.below hUV).three
        obtain ⟨q0, -⟩ := XV.ru
        dsimp only at q0
        have hme := smeet_any Sm (some ⟨ab, ao, none⟩) ca L mb mc ms (j : Int) a1 c1 inn sk V (HL.out.below hwV).ri (HMS.out.below hwV) hIJ hinV.ri (by omega)
        go_wp2_with fail
        refine hme.mono ?_
        rintro e u3 ⟨⟨v, rfl, hv⟩, hb3⟩
        have hU3 := hUV.trans (hb3.mono hUV.size)
        have hw3 := hwV.trans (hb3.mono hwV.size)
        obtain ⟨pa, pc, rfl, hpr⟩ := hv.slice
        clear hme hv z1 q0
        cases hq : meQ ms L sk (j : Int) inn with
        | none =>
          have HB0 : meB ms L sk (j : Int) inn = false := by unfold meB; rw [hq]; rfl
          have HDN : Hid (duF l ms n k L (j : Int) = rsF (inF l ms n L) kd sk ms L (j : Int) (rs.drop (r + 1))) := HSK.out hq
          rw [HB0]
          clear hq HB0 HSK HMT HDR hpr hb3 hinV houV XV
          go_wp2
          go_roundw
          case rel => exact ⟨r + 1, by omega, by go_num, HDN, hU3⟩
          case measure => simp [intOf]; omega
        | some m =>
        have HB0 : meB ms L sk (j : Int) inn = true := by unfold meB; rw [hq]; rfl
        have HL0 : meL ms L sk (j : Int) inn = m := by unfold meL; rw [hq]; rfl
        have HDM : Hid (duF l ms n k L (j : Int) = Option.some (apF (inF l ms n L) kd L (j : Int) ⟨inn, out, ap, lk, (x1, x2), (y1, y2), (w1, w2)⟩ m)) := HMT.out m hq
        have hM := me_r hq
        rw [HB0, HL0]
        rw [HL0] at hpr
        have HML : Hid (m.length = inn.length) := hM.len
        obtain ⟨z0, z1, z2, -⟩ := (HXU.out.below hU3).three
        have hX3 := XV.below hb3
        have hO3 := houV.below hb3
        have hpos := hM.pos
        have hlast := hM.hi (k := m.length - 1) (by omega)
        have hlast0 := hM.lo (k := m.length - 1) (by omega)
        have hmL : m.length ≤ L.length := by
          have := hM.hi hpos
          rw [hM.fst] at this
          omega
        have HMK : Hid (∀ p, p < m.length → 0 ≤ m.getD p 0 ∧ m.getD p 0 < (L.length : Int)) := fun p hp => by
          obtain ⟨q, e, hq, _⟩ := hM.ok p hp
          exact ⟨by omega, by omega⟩
        obtain ⟨pb, po, rfl, hpb, -⟩ := hpr.at (Below.refl _ _) 0 hpos
        have HPR : Hid (∀ W, Below u3.heap.size u3 W → ∀ p, p < m.length → W.cell? ⟨pb, po + p, none⟩ = some (.int .i64 (m.getD p 0))) := fun W hW p hp => by
          obtain ⟨b1, o1, e1, _, d1⟩ := hpr.at hW p hp
          cases e1
          exact d1
        have km := hpr.lenB
        clear hq HB0 HL0 HSK HMT HDR hb3 hinV houV XV hpr
        by_cases h4 : kd = 4
        · subst h4
          obtain ⟨e0, e1, e2, e3, e4, e5⟩ := HFX.out.cx rfl
          dsimp only at e0 e1 e2 e3 e4 e5
          obtain ⟨p, rfl⟩ : ∃ p : Nat, ap = (p : Int) := ⟨ap.toNat, by omega⟩
          obtain ⟨q, rfl⟩ : ∃ q : Nat, lk = (q : Int) := ⟨lk.toNat, by omega⟩
          rw [Int.toNat_natCast] at e5
          have hpm : p < m.length := by have := HML.out; omega
          have hql : q < l.length := by omega
          have hsub : (m.length : Int) - 1 = ((m.length - 1 : Nat) : Int) := by omega
          have hlt1 : m.length - 1 < m.length := by omega
          have HDZ : Hid (duF l ms n k L (j : Int) = Option.some (inF l ms n L (q : Int) (m.getD p 0), max (m.getD (m.length - 1) 0 + 1 + ((inF l ms n L (q : Int) (m.getD p 0)).length : Int) - (L.length : Int)) (j : Int))) := by
            show _ = _
            rw [HDM.out]
            unfold apF
            rw [if_pos rfl, Int.toNat_natCast]
          have hplz : plB L (m.getD p 0) = true := plB_iff.2 (HMK.out p hpm)
          obtain ⟨zz, hzz⟩ : ∃ zz, m.getD p 0 = zz := ⟨_, rfl⟩
          obtain ⟨t, ht⟩ : ∃ t, m.getD (m.length - 1) 0 = t := ⟨_, rfl⟩
          have HPZ : Hid (∀ W, Below u3.heap.size u3 W → W.cell? ⟨pb, po + p, none⟩ = some (.int .i64 zz)) := fun W hW => by rw [← hzz]; exact HPR.out W hW p hpm
          have HPT : Hid (∀ W, Below u3.heap.size u3 W → W.cell? ⟨pb, po + (m.length - 1), none⟩ = some (.int .i64 t)) := fun W hW => by rw [← ht]; exact HPR.out W hW _ hlt1
          rw [hzz, ht] at HDZ
          rw [hzz] at hplz
          rw [ht] at hlast hlast0
          have hlt : t ≤ 200 := by omega
          have hlt0 : 0 ≤ t := by omega
          obtain ⟨-, -, q2, q3, -⟩ := hX3.ru
          dsimp only at q2 q3
          have lt3 : wr.heap.size < u3.heap.size := hX3.lt
          have i7 : (0 : Int) ≤ (p : Int) := by omega
          have i8 : (p : Int) < (m.length : Int) := by omega
          have HCL : Hid (L.length ≤ 200) := hle
          clear HDM hM e0 e1 e2 e3 e4 HML hO3 hX3 HPR HMK hzz ht hlast hlast0
          cases n with
          | zero =>
            have g8 : ¬ uu < 8 := by have := HU.out; omega
            have d2 := HPT.out u3 (Below.refl _ _)
            have HV : Hid (DuA l ms 0 k L (j : Int) u3 (.returned (.tuple #[.slice (some ⟨ab, ao, none⟩) L.length ca, .int .i64 (max (t + 1 + (L.length : Int) - (L.length : Int)) (j : Int)), .bool true]))) := DuA.some HDZ.out (HL.out.below hw3).anyI
            rw [show t + 1 + (L.length : Int) - (L.length : Int) = t + 1 by omega] at HV
            clear HDZ HPT HPZ
            go_wp2
            go_ret3
            exact ⟨HV.out, hw3⟩
          | succ n =>
            have g8 : uu < 8 := by have := HU.out; omega
            have v1 : IntKind.i64.wrap (uu + 1) = uu + 1 := wrapi64y (by have := HU.out; omega) (by omega)
            have hdo : ∀ Z, Below u3.heap.size u3 Z → Calls Tryd.prog 26 #[.slice (some ⟨lb, lo, none⟩) l.length lc, .int .i64 q, .slice mb ms.length mc, .slice (some ⟨ab, ao, none⟩) L.length ca, .int .i64 zz, .int .i64 (uu + 1)] Z fun e w' => DuA l ms n q L zz w' e ∧ Below Z.heap.size Z w' := fun Z hZ => by
              have hwZ := hw3.trans (hZ.mono hw3.size)
              have h := IH n rfl Sl Sm S (some ⟨lb, lo, none⟩) lc mb mc q (some ⟨ab, ao, none⟩) ca L zz Z (HLK.out.below hwZ) (HMS.out.below hwZ) (HL.out.below hwZ) hql e5 hplz hle
              rw [show (8 : Int) - (n : Int) = uu + 1 by have := HU.out; omega] at h
              exact h
            have HDL : Hid (∀ d, duF l ms n q L zz = some d → d.1.length ≤ L.length + 7) := fun d hd => (du_f hf n q L zz d hql e5 hplz hd).len
            have HO : Hid (inF l ms (n + 1) L (q : Int) zz = duL l ms n q L zz) := by show duL l ms n (q : Int).toNat L zz = _; rw [Int.toNat_natCast]
            have hol2 : (duL l ms n q L zz).length ≤ 300 := by
              unfold duL
              cases hd : duF l ms n q L zz with
              | none => show L.length ≤ _; omega
              | some d => have := HDL.out d hd; show d.1.length ≤ _; omega
            rw [HO.out] at HDZ
            have d1 := HPZ.out u3 (Below.refl _ _)
            clear HO HDL IH e5 hplz
            go_wp2
            refine wp_region_held_drew (S := fun u' => (u'.cell? ⟨wr.heap.size, 2, none⟩ = some (.int .i64 (p : Int)) ∧ u'.cell? ⟨wr.heap.size, 3, none⟩ = some (.int .i64 (q : Int))) ∧ u'.cell? ⟨pb, po + p, none⟩ = some (.int .i64 zz)) (by kernel_rfl) ⟨⟨q2, q3⟩, d1⟩ (fun hHeld => ?_)
            have hdr : Below u3.heap.size u3 u3.drew := (Below.refl _ _).drew
            generalize u3.drew = Z at hdr hHeld ⊢
            refine hT 0 hHeld ?_
            refine hT 1 hHeld ?_
            refine hT 2 hHeld ?_
            refine hT 3 hHeld ?_
            refine hT 4 hHeld ?_
            refine hT 5 hHeld ?_
            refine hT 6 hHeld ?_
            refine hT 7 hHeld ?_
            refine hT 8 hHeld ?_
            refine hT 9 hHeld ?_
            refine hT 10 hHeld ?_
            refine hT 11 hHeld ?_
            refine hCall (i := 12) rfl (by kernel_rfl) (by rfl) (fun K hK => ?_)
            go_simp
            refine (hdo Z hdr).mono ?_
            rintro e u4 ⟨⟨oa, oc, rfl, hgr⟩, hb4⟩
            have h34 := hdr.trans (hb4.mono hdr.size)
            have hfin := hw3.trans (h34.mono hw3.size)
            have d1' := HPZ.out u4 h34
            have d2' := HPT.out u4 h34
            have q2' := (h34.cell (p := ⟨wr.heap.size, 2, none⟩) lt3).trans q2
            have q3' := (h34.cell (p := ⟨wr.heap.size, 3, none⟩) lt3).trans q3
            generalize duL l ms n q L zz = o at hgr hol2 HDZ
            generalize duO l ms n q L zz = on
            generalize duB l ms n q L zz = db
            clear hdo HPZ HPT
            go_wp2_with fail
            refine hK.out _ _ ⟨⟨q2', q3'⟩, d1'⟩ (fun hHeld => ?_)
            clear hK K
            try simp only [Act.put, List.setIfInBounds_toArray, List.set_cons_zero, List.set_cons_succ]
            refine hT 13 hHeld ?_
            refine hT 14 hHeld ?_
            refine hT 15 hHeld ?_
            refine hT 16 hHeld ?_
            refine hT 17 hHeld ?_
            refine wpAnyH_done (by kernel_rfl) ?_ _
            have HV : Hid (DuA l ms (n + 1) k L (j : Int) u4 (.returned (.tuple #[.slice oa o.length oc, .int .i64 (max (t + 1 + (o.length : Int) - (L.length : Int)) (j : Int)), .bool true]))) := DuA.some HDZ.out hgr
            clear hHeld hgr hb4 hdr h34 q2 q3 q2' q3' d1 d1' HDZ z0 z1 z2
            go_wp2
            go_ret3
            exact ⟨HV.out, hfin⟩
        have g4 : (kd == 4) = false := beq_eq_false_iff_ne.2 h4
        by_cases h3 : kd = 3
        · subst h3
          have HDZ : Hid (duF l ms n k L (j : Int) = Option.some (puL (taF L m.tail) (j : Int) ((j : Int) + 1) out, (j : Int) + 1)) := by
            show _ = _
            rw [HDM.out]
            unfold apF
            rw [if_neg (by decide), if_pos rfl]
          have hsub : (m.length : Int) - 1 = ((m.length - 1 : Nat) : Int) := by omega
          have HX3 : Hid (Bk 46 u3 wr.heap.size (ruV a1 c1 a2 c2 ⟨inn, out, ap, lk, (x1, x2), (y1, y2), (w1, w2)⟩)) := hX3
          have HO3 : Hid (Gr El.int Sl u3 a2 c2 out) := hO3
          have HTD : Hid (∀ p, p < m.length → taF L (m.drop p) = puL (taF L (m.drop (p + 1))) (m.getD p 0) (m.getD p 0 + 1) []) := fun p hp => taF_drop hp
          clear HDM hM HML hO3 hX3 g4 h4 hlast hlast0
          go_wp2
          clear z0 z1 z2
          go_loopw [22, 23] (fun vo vm wx => ∃ (X : List Int) (xa : Option Addr) (xc : Nat) (p : Nat), vo = .slice xa X.length xc ∧ vm = .int .i64 p ∧ p < m.length ∧ Hid (Gr El.int (fun _ => True) wx xa xc X) ∧ Hid (X = taF L (m.drop (p + 1))) ∧ Below u3.heap.size u3 wx) (fun _ vm _ => (intOf vm).toNat)
          case atStart => exact ⟨L, some ⟨ab, ao, none⟩, ca, m.length - 1, rfl, rfl, by omega, (HL.out.below hw3).anyI, (by show L = _; rw [show m.length - 1 + 1 = m.length by omega, taF_end]), Below.refl _ _⟩
          case round =>
            rename World => wx
            obtain ⟨X, xa, xc, p, rfl, rfl, hpm, HG, HXE, hbx⟩ := hrel
            have hwx := hw3.trans (hbx.mono hw3.size)
            have hXl : X.length ≤ 200 := by
              have h := taF_le L (m.drop (p + 1))
              rw [← HXE.out] at h
              omega
            by_cases hp1 : 1 ≤ p
            · have d1 := HPR.out wr
              have c1' := HPR.out wx hbx p hpm
              obtain ⟨b1, b2⟩ := HMK.out p hpm
              have HTD2 : Hid (taF L (m.drop p) = puL X (m.getD p 0) (m.getD p 0 + 1) []) := by show _ = _; rw [HTD.out p hpm, ← HXE.out]
              obtain ⟨zz, hzz⟩ : ∃ zz, m.getD p 0 = zz := ⟨_, rfl⟩
              rw [hzz] at c1' b1 b2 HTD2
              have hpu : ∀ Z, Below wx.heap.size wx Z → Calls Tryd.prog 37 #[.slice xa X.length xc, .int .i64 zz, .int .i64 (zz + 1), .slice none 0 0] Z fun e w' => PutA X zz (zz + 1) [] Z.heap.size w' e ∧ Below Z.heap.size Z w' := fun Z hZ =>
                sput_any (fun _ => True) (fun _ => True) xa xc X zz (zz + 1) none 0 [] Z (HG.out.below hZ) (Gr.nil _ _ _ _ _ (Nat.zero_le _) (fun _ => rfl)) ⟨by omega, by omega⟩ ⟨by omega, by omega⟩ (by omega) (by simp)
              have v1 : IntKind.i64.wrap (zz + 1) = zz + 1 := wrapi64y (by omega) (by omega)
              have lt4 : pb < wx.heap.size := Nat.lt_of_lt_of_le hpb hbx.size
              have i7 : (0 : Int) ≤ (p : Int) := by omega
              have i8 : (p : Int) < (m.length : Int) := by omega
              have i9 : (1 : Int) ≤ (p : Int) := by omega
              have hp2 : (p : Int) - 1 = ((p - 1 : Nat) : Int) := by omega
              clear hzz HG HXE
              go_wp2
              refine wp_region_held_drew (S := fun u' => u'.cell? ⟨pb, po + p, none⟩ = some (.int .i64 zz)) (by kernel_rfl) c1' (fun hHeld => ?_)
              have hdr : Below wx.heap.size wx wx.drew := (Below.refl _ _).drew
              generalize wx.drew = Z at hdr hHeld ⊢
              refine hT 0 hHeld ?_
              refine hT 1 hHeld ?_
              refine hT 2 hHeld ?_
              refine hT 3 hHeld ?_
              refine hT 4 hHeld ?_
              refine hT 5 hHeld ?_
              refine hT 6 hHeld ?_
              refine hT 7 hHeld ?_
              refine hT 8 hHeld ?_
              refine hT 9 hHeld ?_
              refine hCall (i := 10) rfl (by kernel_rfl) (by rfl) (fun K hK => ?_)
              go_simp
              refine (hpu Z hdr).mono ?_
              rintro e u4 ⟨⟨v4, rfl, hv4⟩, hb4⟩
              obtain ⟨oa, oc, rfl, hgr⟩ := hv4.io.grL (S := fun _ => True)
              have hx4 := hdr.trans (hb4.mono hdr.size)
              have h34 := hbx.trans (hx4.mono hbx.size)
              have c1'' := (hx4.cell (p := ⟨pb, po + p, none⟩) lt4).trans c1'
              obtain ⟨Y, hY⟩ : ∃ Y, puL X zz (zz + 1) [] = Y := ⟨_, rfl⟩
              rw [hY] at HTD2 hgr ⊢
              have HGY : Hid (Gr El.int (fun _ => True) u4 oa oc Y) := hgr
              clear hpu hgr hb4 hv4 hY
              go_wp2_with fail
              refine hK.out _ _ c1'' (fun hHeld => ?_)
              clear hK K
              try simp only [Act.put, List.setIfInBounds_toArray, List.set_cons_zero, List.set_cons_succ]
              refine hT 11 hHeld ?_
              refine wpAnyH_done (by kernel_rfl) ?_ _
              clear hHeld c1' c1'' hdr hx4 b1 b2 v1
              go_wp2
              go_roundw
              case rel => exact ⟨Y, oa, oc, p - 1, rfl, by first | rfl | go_num, by omega, HGY, (by show Y = _; rw [show p - 1 + 1 = p by omega]; exact HTD2.out.symm), h34⟩
              case measure => simp only [intOf]; omega
            · obtain rfl : p = 0 := by omega
              have HXT : Hid (X = taF L m.tail) := by show _ = _; rw [HXE.out, Nat.zero_add, List.drop_one]
              rw [← HXT.out] at HDZ
              have hput : Calls Tryd.prog 37 #[.slice xa X.length xc, .int .i64 (j : Int), .int .i64 ((j : Int) + 1), .slice a2 out.length c2] wx fun e w' => PutA X (j : Int) ((j : Int) + 1) out wx.heap.size w' e ∧ Below wx.heap.size wx w' :=
                sput_any (fun _ => True) Sl xa xc X (j : Int) ((j : Int) + 1) a2 c2 out wx HG.out (HO3.out.below hbx) hIJ ⟨by omega, by omega⟩ (by omega) (by omega)
              obtain ⟨-, q1, -⟩ := (HX3.out.below hbx).ru
              dsimp only at q1
              obtain ⟨Y, hY⟩ : ∃ Y, puL X (j : Int) ((j : Int) + 1) out = Y := ⟨_, rfl⟩
              rw [hY] at HDZ
              have HY : Hid (puL X (j : Int) ((j : Int) + 1) out = Y) := hY
              clear hY HG HXE HXT HPR HMK HTD
              go_wp2_with fail
              refine hput.mono ?_
              rintro e u4 ⟨⟨v4, rfl, hv4⟩, hb4⟩
              rw [HY.out] at hv4
              obtain ⟨oa, oc, rfl, hgr⟩ := hv4.io.grL (S := fun _ => True)
              have HV : Hid (DuA l ms n k L (j : Int) u4 (.returned (.tuple #[.slice oa Y.length oc, .int .i64 ((j : Int) + 1), .bool true]))) := DuA.some HDZ.out hgr
              have hfin := hwx.trans (hb4.mono hwx.size)
              clear hput hgr hb4 hv4 q1
              go_wp2
              go_ret3
              exact ⟨HV.out, hfin⟩
        have g3 : (kd == 3) = false := beq_eq_false_iff_ne.2 h3
        have HDZ : Hid (duF l ms n k L (j : Int) = Option.some (puL L (j : Int) ((j : Int) + 1) out, (j : Int) + (out.length : Int))) := by
          show _ = _
          rw [HDM.out]
          unfold apF
          rw [if_neg h4, if_neg h3]
        obtain ⟨-, q1, -⟩ := hX3.ru
        dsimp only at q1
        have lt3 : wr.heap.size < u3.heap.size := hX3.lt
        have hpu := fun Z (hZ : Below u3.heap.size u3 Z) => sput_any S Sl (some ⟨ab, ao, none⟩) ca L (j : Int) ((j : Int) + 1) a2 c2 out Z (HL.out.below (hw3.trans (hZ.mono hw3.size))) (hO3.below hZ) hIJ ⟨by omega, by omega⟩ (by omega) (by omega)
        have v1 : IntKind.i64.wrap ((j : Int) + 1) = (j : Int) + 1 := wrapi64y (by omega) (by omega)
        have v2 : IntKind.i64.wrap ((j : Int) + (out.length : Int)) = (j : Int) + (out.length : Int) := wrapi64y (by omega) (by omega)
        clear HDM hM HML hO3 hX3 h3 h4 HPR HMK hlast hlast0
        obtain ⟨o, ho⟩ : ∃ o, puL L (j : Int) ((j : Int) + 1) out = o := ⟨_, rfl⟩
        rw [ho] at HDZ
        have HO : Hid (puL L (j : Int) ((j : Int) + 1) out = o) := ho
        clear ho
        go_wp2
        refine wp_region_held_drew (S := fun u => u.cell? ⟨wr.heap.size, 1, none⟩ = some (.slice a2 out.length c2)) (by kernel_rfl) q1 (fun hHeld => ?_)
        have hdr : Below u3.heap.size u3 u3.drew := (Below.refl _ _).drew
        generalize u3.drew = Z at hdr hHeld ⊢
        refine hT 0 hHeld ?_
        refine hT 1 hHeld ?_
        refine hT 2 hHeld ?_
        refine hT 3 hHeld ?_
        refine hT 4 hHeld ?_
        refine hT 5 hHeld ?_
        refine hT 7 hHeld ?_
        refine hT 8 hHeld ?_
        refine hT 9 hHeld ?_
        refine hT 10 hHeld ?_
        refine hT 11 hHeld ?_
        refine hCall (i := 6) rfl (by kernel_rfl) (by rfl) (fun K hK => ?_)
        go_simp
        refine (hpu Z hdr).mono ?_
        rintro e u4 ⟨⟨v4, rfl, hv4⟩, hb4⟩
        rw [HO.out] at hv4
        obtain ⟨oa, oc, rfl, hgr⟩ := hv4.io.grL (S := fun _ => True)
        have HV : Hid (DuA l ms n k L (j : Int) u4 (.returned (.tuple #[.slice oa o.length oc, .int .i64 ((j : Int) + (out.length : Int)), .bool true]))) := DuA.some HDZ.out hgr
        have h34 := hdr.trans (hb4.mono hdr.size)
        have hfin := hw3.trans (h34.mono hw3.size)
        have q1' := (h34.cell (p := ⟨wr.heap.size, 1, none⟩) lt3).trans q1
        clear hpu hgr hb4 hv4
        go_wp2_with fail
        refine hK.out _ _ q1' (fun hHeld => ?_)
        clear hK K
        try simp only [Act.put, List.setIfInBounds_toArray, List.set_cons_zero, List.set_cons_succ]
        refine hT 12 hHeld ?_
        refine hT 13 hHeld ?_
        refine hT 14 hHeld ?_
        refine wpAnyH_done (by kernel_rfl) ?_ _
        clear z0 z1 z2 q1 q1' hHeld hdr h34
        go_wp2
        go_ret3
        exact ⟨HV.out, hfin⟩
      · have HF : Hid (duF l ms n k L (j : Int) = Option.none) := by
          show _ = _
          rw [HDR.out, show r = rs.length by omega]
          exact rsF_end
        have HV : Hid (DuA l ms n k L (j : Int) wr (.returned (.tuple #[.slice (some ⟨ab, ao, none⟩) L.length ca, .int .i64 (j : Int), .bool false]))) := DuA.none HF.out (HL.out.below hwr).anyI
        have g4 : ¬ (r : Int) < (rs.length : Int) := by omega
        clear HDR
        go_wp2
        go_ret3
        exact ⟨HV.out, hwr⟩

theorem done_any (l : List Lk) (ms : List Bool) (g : Int) (hf : foU l g = true) : ∀ n, n ≤ 7 → DoS l ms n := by
  intro n
  induction n with
  | zero => intro h; exact done_of l ms g hf 0 h (fun n' e => by omega)
  | succ n ih => intro h; exact done_of l ms g hf (n + 1) h (fun n' e => by obtain rfl : n = n' := (by omega); exact ih (by omega))

end Go.Proofs.YtechkkefpigcaaaDoor

namespace Go.Proofs.YtechkkefpigcaaaDoor
open Go.RowKit Go.Maps
set_option linter.unusedSimpArgs false
set_option linter.unusedVariables false

set_option maxHeartbeats 8000000 in
set_option maxRecDepth 100000 in
theorem sformU_any (S : Nat → Prop) (a : Option Addr) (ca : Nat) (l : List Lk) (g : Int) (w : World) (hl : Gr LkE S w a ca l) (hg : I64 g) :
    Calls Tryd.prog 17 #[.slice a l.length ca, .int .i64 g] w fun e w' => e = .returned (.bool (foU l g)) ∧ Below w.heap.size w w' := by
  have kl := hl.lenB
  by_cases hn1 : 10 < l.length
  · have HF : Hid (foU l g = false) := foU_long hn1
    have g2 : (10 : Int) < (l.length : Int) := by omega
    clear hn1 hl
    go_enter Tryd.func17, Tryd.ntmps17
    go_wp2
    go_ret
    exact ⟨rt_bool HF.out.symm, Below.refl _ _⟩
  have g2 : ¬ (10 : Int) < (l.length : Int) := by omega
  have HL : Hid (Gr LkE S w a ca l) := hl
  obtain ⟨R, hR⟩ : ∃ R, foU l g = R := ⟨_, rfl⟩
  have HBD : Hid (∀ k, k < l.length → loB l g (l.getD k Lk.none) = false → R = false) := fun k hk h => by rw [← hR]; exact foU_bad hk h
  have HYS : Hid ((∀ k, k < l.length → loB l g (l.getD k Lk.none) = true) → R = true) := fun h => by rw [← hR]; exact foU_iff.2 ⟨by omega, h⟩
  rw [hR]
  clear hR hn1 hl
  go_enter Tryd.func17, Tryd.ntmps17
  go_wp2
  clear g2
  go_loopw [5] (fun i wr => ∃ k : Nat, k ≤ l.length ∧ i = .int .i64 k ∧ Hid (∀ j, j < k → loB l g (l.getD j Lk.none) = true) ∧ Below w.heap.size w wr) (fun i _ => l.length - (intOf i).toNat)
  case atStart => exact ⟨0, Nat.zero_le _, rfl, (fun j hj => by omega), Below.refl _ _⟩
  case round =>
    obtain ⟨k, hk, rfl, HOK, hB⟩ := hrel
    by_cases hkn : k < l.length
    · obtain ⟨b, off, ra, rc, ea, hkd, hall⟩ := HL.out.lkAll k hkn
      have HBad : Hid (loB l g (l.getD k Lk.none) = false → R = false) := HBD.out k hkn
      have HOK2 : Hid (loB l g (l.getD k Lk.none) = true → ∀ j, j < k + 1 → loB l g (l.getD j Lk.none) = true) := fun h j hj => by
        rcases Nat.lt_or_ge j k with h1 | h1
        · exact HOK.out j h1
        · rw [show j = k by omega]; exact h
      obtain ⟨x, hx⟩ : ∃ x, l.getD k Lk.none = x := ⟨_, rfl⟩
      rw [hx] at hkd hall HBad HOK2
      clear hx HOK
      obtain ⟨kd, sk, rs⟩ := x
      dsimp only at hkd hall
      have HALL : Hid (∀ u, Below w.heap.size w u → Gr RuE S u ra rc rs ∧ u.cell? ⟨b, off + k * 3, none⟩ = some (.int .i64 kd) ∧ u.cell? ⟨b, off + k * 3 + 1, none⟩ = some (.bool sk) ∧ u.cell? ⟨b, off + k * 3 + 2, none⟩ = some (.slice ra rs.length rc)) := hall
      obtain ⟨hrs, d0, d1, d2⟩ := hall wr hB
      have kr := hrs.lenB
      have i1 : (0 : Int) ≤ (k : Int) := by omega
      have i2 : (k : Int) < (l.length : Int) := by omega
      subst ea
      have hpu := fun u => sputs_any kd u hkd
      clear hrs hall
      cases hp : puB kd with
      | false =>
        rw [hp] at hpu
        have HOK3 : Hid (∀ j, j < k + 1 → loB l g (l.getD j Lk.none) = true) := HOK2.out (loB_other (x := ⟨kd, sk, rs⟩) hp)
        have hpu0 := hpu wr
        clear hp HBad HOK2
        go_wp2_with fail
        refine hpu0.mono ?_
        rintro e u ⟨rfl, rfl⟩
        clear hpu0
        go_wp2
        clear d0 d1 d2
        go_loopw [6] (fun i wr => i = .int .i64 0 ∧ Below w.heap.size w wr) (fun _ _ => 0)
        case atStart => exact ⟨rfl, hB⟩
        case round =>
          clear hB
          obtain ⟨rfl, hB⟩ := hrel
          obtain ⟨-, d0, d1, d2⟩ := HALL.out wr hB
          by_cases h0 : 0 < rs.length
          · have d3 : decide (0 < rs.length) = true := decide_eq_true h0
            have d4 : decide ((0 : Int) < (rs.length : Int)) = true := decide_eq_true (by omega)
            have hpu0 := hpu wr
            clear hpu h0
            go_wp2_with fail
            refine hpu0.mono ?_
            rintro e u ⟨rfl, rfl⟩
            clear hpu0
            go_wp2
            go_roundw
            case rel => exact ⟨k + 1, by omega, by go_num, HOK3, hB⟩
            case measure => simp [intOf]; omega
          · have d3 : decide (0 < rs.length) = false := decide_eq_false h0
            have d4 : decide ((0 : Int) < (rs.length : Int)) = false := decide_eq_false (by omega)
            clear hpu h0
            go_wp2
            go_roundw
            case rel => exact ⟨k + 1, by omega, by go_num, HOK3, hB⟩
            case measure => simp [intOf]; omega
      | true =>
        rw [hp] at hpu
        have hlo : loB l g ⟨kd, sk, rs⟩ = lkB l g ⟨kd, sk, rs⟩ := loB_lk (x := ⟨kd, sk, rs⟩) hp
        rw [hlo] at HBad HOK2
        have hpu0 := hpu wr
        clear hp hlo
        by_cases hn4 : 40 < rs.length
        · have g3 : decide ((40 : Int) < (rs.length : Int)) = true := decide_eq_true (by omega)
          have HF : Hid (R = false) := HBad.out (by unfold lkB; rw [decide_eq_false (show ¬ rs.length ≤ 40 by omega)]; rfl)
          clear HBad HOK2 hpu hn4
          go_wp2_with fail
          refine hpu0.mono ?_
          rintro e u ⟨rfl, rfl⟩
          clear hpu0
          go_wp2
          go_ret
          exact ⟨rt_bool HF.out.symm, hB⟩
        have g3 : decide ((40 : Int) < (rs.length : Int)) = false := decide_eq_false (by omega)
        have HBad2 : Hid (∀ j, j < rs.length → ruB l kd (rs.getD j Ru.none) g = false → R = false) := fun j hj h => HBad.out (lkB_bad (x := ⟨kd, sk, rs⟩) hj h)
        have HOK3 : Hid ((∀ j, j < rs.length → ruB l kd (rs.getD j Ru.none) g = true) → ∀ j, j < k + 1 → loB l g (l.getD j Lk.none) = true) := fun h => HOK2.out (lkB_yes (x := ⟨kd, sk, rs⟩) (show rs.length ≤ 40 by omega) h)
        clear HBad HOK2 hn4
        go_wp2_with fail
        refine hpu0.mono ?_
        rintro e u ⟨rfl, rfl⟩
        clear hpu0
        go_wp2
        clear d0 d1 d2 g3
        go_loopw [6] (fun i wr => ∃ j : Nat, j ≤ rs.length ∧ i = .int .i64 j ∧ Hid (∀ i, i < j → ruB l kd (rs.getD i Ru.none) g = true) ∧ Below w.heap.size w wr) (fun i _ => rs.length - (intOf i).toNat)
        case atStart => exact ⟨0, Nat.zero_le _, rfl, (fun j hj => by omega), hB⟩
        case round =>
          clear hB
          obtain ⟨j, hj, rfl, HOJ, hB⟩ := hrel
          obtain ⟨hrs, d0, d1, d2⟩ := HALL.out wr hB
          by_cases hjn : j < rs.length
          · have d3 : decide (j < rs.length) = true := decide_eq_true hjn
            have d4 : decide ((j : Int) < (rs.length : Int)) = true := decide_eq_true (by omega)
            have i3 : (0 : Int) ≤ (j : Int) := by omega
            have i4 : (j : Int) < (rs.length : Int) := by omega
            obtain ⟨rb, ro, a1, c1, a2, c2, er, hrb, hI, hin, hou, k0, k1, k2, k3, k4, k5, k6, k7, k8, k9⟩ := hrs.ru10 (Below.refl _ _) j hjn
            obtain ⟨r, hrr⟩ : ∃ r, rs.getD j Ru.none = r := ⟨_, rfl⟩
            have HRR : Hid (rs.getD j Ru.none = r) := hrr
            rw [hrr] at hI hin hou k0 k1 k2 k3 k4 k5 k6 k7 k8 k9
            clear hrr
            obtain ⟨inn, out, ap, lk, ⟨x1, x2⟩, ⟨y1, y2⟩, ⟨w1, w2⟩⟩ := r
            dsimp only at k0 k1 k2 k3 k4 k5 k6 k7 k8 k9 hin hou
            obtain ⟨j1, j2, ⟨j3, j4⟩, ⟨j5, j6⟩, j7, j8⟩ := hI
            dsimp only at j1 j2 j3 j4 j5 j6 j7 j8
            subst er
            have HBad3 : Hid (ruB l kd ⟨inn, out, ap, lk, (x1, x2), (y1, y2), (w1, w2)⟩ g = false → R = false) := fun h => HBad2.out j hjn (by rw [HRR.out]; exact h)
            have HOJ2 : Hid (ruB l kd ⟨inn, out, ap, lk, (x1, x2), (y1, y2), (w1, w2)⟩ g = true → ∀ i, i < j + 1 → ruB l kd (rs.getD i Ru.none) g = true) := fun h i hi => by
              rcases Nat.lt_or_ge i j with h1 | h1
              · exact HOJ.out i h1
              · rw [show i = j by omega, HRR.out]; exact h
            have hrc := fun Z (hZ : Below wr.heap.size wr Z) => srule_any S (some ⟨b, off, none⟩) ca l kd a1 c1 a2 c2 inn out ap lk x1 x2 y1 y2 w1 w2 g Z (HL.out.below (hB.trans (hZ.mono hB.size))) hkd j1 j2 (hin.below hZ).ri (hou.below hZ).ri hg
            generalize ruB l kd ⟨inn, out, ap, lk, (x1, x2), (y1, y2), (w1, w2)⟩ g = A at hrc HBad3 HOJ2
            have hpu0 := hpu wr
            clear HOJ HRR hin hou hrs
            go_wp2_with fail
            refine hpu0.mono ?_
            rintro e u ⟨rfl, rfl⟩
            clear hpu0
            go_wp2_with fail
            refine wp_region_held_drew (S := fun u => (u.cell? ⟨b, off + k * 3, none⟩ = some (.int .i64 kd) ∧ u.cell? ⟨b, off + k * 3 + 2, none⟩ = some (.slice (some ⟨rb, ro, none⟩) rs.length rc)) ∧
              (u.cell? ⟨rb, ro + j * 10, none⟩ = some (.slice a1 inn.length c1) ∧ u.cell? ⟨rb, ro + j * 10 + 1, none⟩ = some (.slice a2 out.length c2) ∧ u.cell? ⟨rb, ro + j * 10 + 2, none⟩ = some (.int .i64 ap) ∧ u.cell? ⟨rb, ro + j * 10 + 3, none⟩ = some (.int .i64 lk) ∧ u.cell? ⟨rb, ro + j * 10 + 4, none⟩ = some (.int .i64 x1) ∧ u.cell? ⟨rb, ro + j * 10 + 5, none⟩ = some (.int .i64 x2) ∧ u.cell? ⟨rb, ro + j * 10 + 6, none⟩ = some (.int .i64 y1) ∧ u.cell? ⟨rb, ro + j * 10 + 7, none⟩ = some (.int .i64 y2) ∧ u.cell? ⟨rb, ro + j * 10 + 8, none⟩ = some (.int .i64 w1) ∧ u.cell? ⟨rb, ro + j * 10 + 9, none⟩ = some (.int .i64 w2)))
              (by kernel_rfl) ⟨⟨d0, d2⟩, k0, k1, k2, k3, k4, k5, k6, k7, k8, k9⟩ (fun hHeld => ?_)
            have hdr : Below wr.heap.size wr wr.drew := (Below.refl _ _).drew
            generalize wr.drew = Z at hdr hHeld ⊢
            refine hT 0 hHeld ?_
            refine hT 1 hHeld ?_
            refine hT 2 hHeld ?_
            refine hT 3 hHeld ?_
            refine hT 4 hHeld ?_
            refine hT 5 hHeld ?_
            refine hT 6 hHeld ?_
            refine hT 7 hHeld ?_
            refine hT 8 hHeld ?_
            refine hT 9 hHeld ?_
            refine hT 10 hHeld ?_
            refine hT 11 hHeld ?_
            refine hT 12 hHeld ?_
            refine hT 13 hHeld ?_
            refine hT 14 hHeld ?_
            refine hCall (i := 15) rfl (by kernel_rfl) (by rfl) (fun K hK => ?_)
            go_simp
            refine (hrc Z hdr).mono ?_
            rintro e u ⟨rfl, hbu⟩
            have hUu := hdr.trans (hbu.mono hdr.size)
            have hfin := hB.trans (hUu.mono hB.size)
            have hSu : Hid ((u.cell? ⟨b, off + k * 3, none⟩ = some (.int .i64 kd) ∧ u.cell? ⟨b, off + k * 3 + 2, none⟩ = some (.slice (some ⟨rb, ro, none⟩) rs.length rc)) ∧
              (u.cell? ⟨rb, ro + j * 10, none⟩ = some (.slice a1 inn.length c1) ∧ u.cell? ⟨rb, ro + j * 10 + 1, none⟩ = some (.slice a2 out.length c2) ∧ u.cell? ⟨rb, ro + j * 10 + 2, none⟩ = some (.int .i64 ap) ∧ u.cell? ⟨rb, ro + j * 10 + 3, none⟩ = some (.int .i64 lk) ∧ u.cell? ⟨rb, ro + j * 10 + 4, none⟩ = some (.int .i64 x1) ∧ u.cell? ⟨rb, ro + j * 10 + 5, none⟩ = some (.int .i64 x2) ∧ u.cell? ⟨rb, ro + j * 10 + 6, none⟩ = some (.int .i64 y1) ∧ u.cell? ⟨rb, ro + j * 10 + 7, none⟩ = some (.int .i64 y2) ∧ u.cell? ⟨rb, ro + j * 10 + 8, none⟩ = some (.int .i64 w1) ∧ u.cell? ⟨rb, ro + j * 10 + 9, none⟩ = some (.int .i64 w2))) :=
              ⟨⟨(HALL.out u hfin).2.1, (HALL.out u hfin).2.2.2⟩, (hUu.cell (p := ⟨rb, ro + j * 10, none⟩) hrb).trans k0, (hUu.cell (p := ⟨rb, ro + j * 10 + 1, none⟩) hrb).trans k1, (hUu.cell (p := ⟨rb, ro + j * 10 + 2, none⟩) hrb).trans k2, (hUu.cell (p := ⟨rb, ro + j * 10 + 3, none⟩) hrb).trans k3, (hUu.cell (p := ⟨rb, ro + j * 10 + 4, none⟩) hrb).trans k4, (hUu.cell (p := ⟨rb, ro + j * 10 + 5, none⟩) hrb).trans k5, (hUu.cell (p := ⟨rb, ro + j * 10 + 6, none⟩) hrb).trans k6, (hUu.cell (p := ⟨rb, ro + j * 10 + 7, none⟩) hrb).trans k7, (hUu.cell (p := ⟨rb, ro + j * 10 + 8, none⟩) hrb).trans k8, (hUu.cell (p := ⟨rb, ro + j * 10 + 9, none⟩) hrb).trans k9⟩
            clear hrc
            go_wp2_with fail
            refine hK.out _ _ hSu.out (fun hHeld => ?_)
            clear hK K
            try simp only [Act.put, List.setIfInBounds_toArray, List.set_cons_zero, List.set_cons_succ]
            refine hT 16 hHeld ?_
            refine wpAnyH_done (by kernel_rfl) ?_ _
            clear hSu hHeld hUu hbu hdr k0 k1 k2 k3 k4 k5 k6 k7 k8 k9 d0 d1 d2 d3 d4 hB
            cases A with
            | false =>
              have HF : Hid (R = false) := HBad3.out rfl
              clear HBad3 HOJ2
              go_wp2
              go_ret
              exact ⟨rt_bool HF.out.symm, hfin⟩
            | true =>
              have HOJ3 : Hid (∀ i, i < j + 1 → ruB l kd (rs.getD i Ru.none) g = true) := HOJ2.out rfl
              clear HBad3 HOJ2
              go_wp2
              go_roundw
              case rel => exact ⟨j + 1, by omega, by go_num, HOJ3, hfin⟩
              case measure => simp [intOf]; omega
          · have d3 : decide (j < rs.length) = false := decide_eq_false hjn
            have d4 : decide ((j : Int) < (rs.length : Int)) = false := decide_eq_false (by omega)
            have HOK4 : Hid (∀ j, j < k + 1 → loB l g (l.getD j Lk.none) = true) := HOK3.out (fun i hi => HOJ.out i (by omega))
            clear HOK3 HOJ hpu hjn hrs
            go_wp2
            go_roundw
            case rel => exact ⟨k + 1, by omega, by go_num, HOK4, hB⟩
            case measure => simp [intOf]; omega
    · have HF : Hid (R = true) := HYS.out (fun j hj => HOK.out j (by omega))
      have g4 : ¬ (k : Int) < (l.length : Int) := by omega
      clear HOK
      go_wp2
      go_ret
      exact ⟨rt_bool HF.out.symm, hB⟩

end Go.Proofs.YtechkkefpigcaaaDoor
