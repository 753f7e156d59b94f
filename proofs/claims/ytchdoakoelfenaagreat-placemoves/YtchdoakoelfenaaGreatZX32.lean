/-
  foundryref10.Change: the walk.
  fixed.To14, near: the walks.
  fixed.Between: the walk.
  foundryref02.Sign, Cmp: the walks.
-/
import Derived.Test.YtchdoakoelfenaaGreatZX18
import Derived.Test.YtchdoakoelfenaaGreatZX31
import Derived.Test.YtchdoakoelfenaaGreatZX17
import Derived.Test.YtchdoakoelfenaaGreatZX5
import Derived.Deep.CutRange
import Derived.Test.YtchdoakoelfenaaGreatZX13
import Derived.Deep.RegionHeld3
import Derived.Test.YtchdoakoelfenaaGreatZX30
namespace Go.Proofs.YtchdoakoelfenaaGreat
open Go.RowKit Go.Maps
set_option linter.unusedSimpArgs false
set_option linter.unusedVariables false

set_option maxHeartbeats 8000000 in
set_option maxRecDepth 100000 in
theorem schangeS_any (a : Option Addr) (ca : Nat) (b : Option Addr) (cb : Nat) (s : Sr) (i : Int) (pa : Option Addr) (pc : Nat) (cs : List Int) (w : World) (hg : Tzz w a ca s.rg) (hm : Rii w b cb s.rw) (hp : Ri w pa pc cs) (hl : s.rg.length ≤ 40) (h8 : ∀ l ∈ s.rg, l.length ≤ 8) :
    Calls Tryz.prog 51 #[.agg #[.slice a s.rg.length ca, .slice b s.rw.length cb], .int .i64 i, .slice pa cs.length pc] w fun e w' => ∃ v', e = .returned v' ∧ Fr w' v' 1000 (chQ s i cs) ∧ Below w.heap.size w w' := by
  have k1 := hg.lenB
  have k2 := hm.lenB
  have k3 := hp.lenB
  have HG : Hid (Tzz w a ca s.rg) := hg
  have HM : Hid (Rii w b cb s.rw) := hm
  have HP : Hid (Ri w pa pc cs) := hp
  have HL8 : Hid (∀ l ∈ s.rg, l.length ≤ 8) := h8
  clear hg hm hp h8
  obtain ⟨W, hW, X1, B0, hbW⟩ : ∃ W, W = (w.alloc (.cells #[.slice a s.rg.length ca, .slice b s.rw.length cb] 29)).alloc (.cells #[.bool false, .slice none 0 0, .slice none 0 0] 91) ∧ BxS W w.heap.size (.slice a s.rg.length ca) (.slice b s.rw.length cb) ∧ Box 91 W (w.heap.size + 1) (.bool false) (.slice none 0 0) (.slice none 0 0) ∧ Below w.heap.size w W := ⟨_, rfl, (BxS.new _ _ _).below (bl1 _), Box.new1S _ _ _ _ _ _, bl2 _ _⟩
  by_cases hi : 0 ≤ i ∧ i < (s.rw.length : Int)
  · obtain ⟨j, rfl⟩ : ∃ j : Nat, i = (j : Int) := ⟨i.toNat, (Int.toNat_of_nonneg hi.1).symm⟩
    have hj : j < s.rw.length := by omega
    obtain ⟨b1, o1, a1, c1, ea, hb1, d0, hr⟩ := HM.out.2.2 j hj
    have HRQ : Hid (rwB s (j : Int) = decide ((s.rw.getD j []).length = s.rg.length)) := by
      show _ = _
      rw [rwB, Int.toNat_natCast]
      exact decide_eq_decide.2 ⟨fun h => h.2.2, fun h => ⟨hi.1, hi.2, h⟩⟩
    have HCQ : Hid (rwB s (j : Int) = true → chQ s (j : Int) cs = chK s.rg (s.rw.getD j []) cs s.rg.length) := fun h => by rw [chQ_yes h, Int.toNat_natCast]
    obtain ⟨r, hrr⟩ : ∃ r, s.rw.getD j [] = r := ⟨_, rfl⟩
    rw [hrr] at d0 hr HRQ HCQ
    have HR : Hid (Ri w a1 c1 r) := hr
    have k4 := hr.lenB
    subst ea
    have HA0 : Hid (∀ U, Below w.heap.size w U → Cl U b1 (o1 + j) (.slice a1 r.length c1)) := fun U hU => ⟨Nat.lt_of_lt_of_le hb1 hU.size, (hU.cell (p := ⟨b1, o1 + j, none⟩) hb1).trans d0⟩
    clear hrr hr
    have i1 : (0 : Int) ≤ (j : Int) := by omega
    have i2 : (j : Int) < (s.rw.length : Int) := by omega
    have g1 : decide ((j : Int) < 0) = false := decide_eq_false (by omega)
    have g2 : decide (s.rw.length ≤ j) = false := decide_eq_false (by omega)
    clear d0 hi
    by_cases hlen : r.length = s.rg.length
    · have HQ : Hid (chK s.rg r cs r.length = chQ s (j : Int) cs) := by show _ = _; rw [HCQ.out (by rw [HRQ.out]; exact decide_eq_true hlen), hlen]
      have g5 : ((r.length : Int) != (s.rg.length : Int)) = false := by simp [hlen]
      have HLN : Hid (r.length = s.rg.length) := hlen
      clear HRQ HCQ hlen
      go_enter Tryz.func51, Tryz.ntmps51
      go_wp2_with fail
      rw [← hW]
      clear hW
      refine (szero_any _).mono ?_
      rintro e y1 ⟨v5, rfl, hF5, hb1⟩
      replace X1 := X1.below hb1
      replace B0 := B0.below hb1
      replace hbW := hbW.trans (hb1.mono hbW.size)
      clear hb1
      obtain ⟨n5, xl5, yl5, ⟨a5, c5, b5, d5, rfl, hx5, hy5⟩, hF5⟩ := hF5
      obtain ⟨Z1, hZ, P5, hb9⟩ : ∃ U, U = y1.alloc (.cells #[.bool n5, .slice a5 xl5.length c5, .slice b5 yl5.length d5] 91) ∧ Box 91 U y1.heap.size (.bool n5) (.slice a5 xl5.length c5) (.slice b5 yl5.length d5) ∧ Below y1.heap.size y1 U := ⟨_, rfl, Box.new _ _ _ _ _, al1 _⟩
      have hF5 : Fr Z1 (.agg #[.bool n5, .slice a5 xl5.length c5, .slice b5 yl5.length d5]) 2 0 := Fr.below ⟨_, _, _, ⟨_, _, _, _, rfl, hx5, hy5⟩, hF5⟩ hb9
      have hgb := B0.lt
      replace X1 := X1.below hb9
      replace B0 := B0.below hb9
      replace hbW := hbW.trans (hb9.mono hbW.size)
      clear hx5 hy5 hb9
      go_upto_region 2 with fail
      rw [← hZ]
      clear hZ
      generalize xl5.length = x5 at *
      generalize yl5.length = y5 at *
      generalize y1.heap.size = g7 at *
      have A0 := HA0.out _ hbW
      have q0 := A0.2
      obtain ⟨p00, p01, _⟩ := X1.cells
      refine wp_region_held_drew (S := (fun u => u.cell? ⟨w.heap.size, 0, none⟩ = some (.slice a s.rg.length ca) ∧ u.cell? ⟨w.heap.size, 1, none⟩ = some (.slice (some ⟨b1, o1, none⟩) s.rw.length cb) ∧ u.cell? ⟨b1, o1 + j, none⟩ = some (.slice a1 r.length c1))) (by kernel_rfl) ?_ (fun hHeld => ?_)
      · (try dsimp only)
        go_keep
      have hdr : Below Z1.heap.size Z1 Z1.drew := Below.drew1
      generalize Z1.drew = ud1 at hdr hHeld ⊢
      replace A0 := A0.below hdr
      replace B0 := B0.below hdr
      replace P5 := P5.below hdr
      replace hF5 := hF5.below hdr
      replace X1 := X1.below hdr
      replace hbW : Below w.heap.size w ud1 := hbW.trans (hdr.mono hbW.size)
      clear hdr
      clear p00 p01
      obtain ⟨p00, p01, _⟩ := X1.cells
      refine hT 0 hHeld ?_
      refine hT 1 hHeld ?_
      refine hT 2 hHeld ?_
      refine hT 3 hHeld ?_
      refine hT 4 hHeld ?_
      refine hT 5 hHeld ?_
      refine hT 6 hHeld ?_
      refine hT 7 hHeld ?_
      refine hT 8 hHeld ?_
      refine hT 9 hHeld ?_
      refine hT 10 hHeld ?_
      refine hT 11 hHeld ?_
      refine hT 12 hHeld ?_
      refine hT 13 hHeld ?_
      refine hT 14 hHeld ?_
      refine hT 15 hHeld ?_
      refine hT 16 hHeld ?_
      refine hT 17 hHeld ?_
      refine hT 18 hHeld ?_
      refine hT 19 hHeld ?_
      refine hT 20 hHeld ?_
      refine wpAnyH_done (by kernel_rfl) ?_ _
      clear hHeld A0 q0 g1 g2 g5
      go_wp2_with fail
      clear p00 p01
      go_loopw [8] (fun i wr => ∃ (k : Nat) (n5 : Bool) (a5 : Option Addr) (x5 c5 : Nat) (b5 : Option Addr) (y5 d5 : Nat), k ≤ s.rg.length ∧ i = .int .i64 (k : Int) ∧ Box 91 wr g7 (.bool n5) (.slice a5 x5 c5) (.slice b5 y5 d5) ∧ Fr wr (.agg #[.bool n5, .slice a5 x5 c5, .slice b5 y5 d5]) (2 + 21 * k) (chK s.rg r cs k) ∧ Box 91 wr (w.heap.size + 1) (.bool false) (.slice none 0 0) (.slice none 0 0) ∧ BxS wr w.heap.size (.slice a s.rg.length ca) (.slice (some ⟨b1, o1, none⟩) s.rw.length cb) ∧ Below w.heap.size w wr) (fun i _ => s.rg.length - (intOf i).toNat)
      case atStart => exact ⟨0, _, _, _, _, _, _, _, Nat.zero_le _, rfl, P5, hF5, B0, X1, hbW⟩
      case round =>
        clear P5 hF5 B0 X1 hbW
        obtain ⟨k, n5, a5, x5, c5, b5, y5, d5, hk, rfl, P5, hF5, B0, X1, hbW⟩ := hrel
        obtain ⟨x0, x1, _⟩ := X1.cells
        by_cases hkn : k < s.rg.length
        · have hkr : k < r.length := by rw [HLN.out]; exact hkn
          obtain ⟨b3, o3, a3, c3, e3, hb3, d3, hl3⟩ := HG.out.at hbW k hkn
          have hl8 := HL8.out _ (getL_mem hkn)
          obtain ⟨l, hl⟩ : ∃ l, s.rg.getD k [] = l := ⟨_, rfl⟩
          have HL : Hid (s.rg.getD k [] = l) := hl
          rw [hl] at d3 hl3 hl8
          subst e3
          obtain ⟨rb, ro, er, hrb, dz⟩ := HR.out.at (Below.refl _ _) k hkr
          subst er
          have hzi := HR.out.i64 hkr
          obtain ⟨z, hz⟩ : ∃ z, r.getD k 0 = z := ⟨_, rfl⟩
          rw [hz] at dz hzi
          have HAZ : Hid (∀ U, Below w.heap.size w U → Cl U rb (ro + k) (.int .i64 z)) := fun U hU => ⟨Nat.lt_of_lt_of_le hrb hU.size, (hU.cell (p := ⟨rb, ro + k, none⟩) hrb).trans dz⟩
          have hca := sallT_any a3 c3 l pa pc cs wr hl3 (HP.out.below hbW) (by omega)
          obtain ⟨q, hq⟩ : ∃ q, alQ l cs = q := ⟨_, rfl⟩
          have HK : Hid (chK s.rg r cs (k + 1) = chK s.rg r cs k + q * ((z : Int) : Rat)) := by show _ = _; rw [chK_succ, hl, hz, hq]
          rw [hq] at hca
          clear hq hl hz dz hl3
          go_wp2_with fail
          refine hca.mono ?_
          rintro e t1 ⟨v8, rfl, hF8, hb1⟩
          obtain ⟨n8, x8, y8, ⟨a8, c8, b8, d8, rfl, hx8, hy8⟩, hF8⟩ := hF8
          obtain ⟨U2, hU, P8, hb9⟩ : ∃ U, U = t1.alloc (.cells #[.bool n8, .slice a8 x8.length c8, .slice b8 y8.length d8] 91) ∧ Box 91 U t1.heap.size (.bool n8) (.slice a8 x8.length c8) (.slice b8 y8.length d8) ∧ Below t1.heap.size t1 U := ⟨_, rfl, Box.new _ _ _ _ _, al1 _⟩
          have hF8 : Fr U2 (.agg #[.bool n8, .slice a8 x8.length c8, .slice b8 y8.length d8]) (2 + 2 * l.length) q := Fr.below ⟨_, _, _, ⟨_, _, _, _, rfl, hx8, hy8⟩, hF8⟩ hb9
          replace P5 := P5.below hb1
          have ng8 := P5.lt
          replace P5 := P5.below hb9
          replace hF5 := (hF5.below hb1).below hb9
          replace B0 := (B0.below hb1).below hb9
          have ng7 := X1.lt
          replace X1 := (X1.below hb1).below hb9
          have ng6 := hb1.size
          replace hbW := (hbW.trans (hb1.mono hbW.size)).trans (hb9.mono (Nat.le_trans hbW.size hb1.size))
          clear hx8 hy8 hca x0 x1 d3 hb1 hb9
          go_upto_region 8 with fail
          rw [← hU]
          clear hU
          generalize t1.heap.size = g8 at *
          have A0 := HA0.out _ hbW
          have A1 := HAZ.out _ hbW
          have q0 := A0.2
          have q1 := A1.2
          obtain ⟨p00, p01, p02, _⟩ := P8.cells
          obtain ⟨p10, p11, _⟩ := X1.cells
          have i3 : (0 : Int) ≤ (k : Int) := by omega
          have i4 : (k : Int) < (r.length : Int) := by omega
          refine wp_region_held_drew (S := (fun u => u.cell? ⟨g8, 0, none⟩ = some (.bool n8) ∧ u.cell? ⟨g8, 1, none⟩ = some (.slice a8 x8.length c8) ∧ u.cell? ⟨g8, 2, none⟩ = some (.slice b8 y8.length d8) ∧ u.cell? ⟨w.heap.size, 0, none⟩ = some (.slice (some ⟨b3, o3, none⟩) s.rg.length ca) ∧ u.cell? ⟨w.heap.size, 1, none⟩ = some (.slice (some ⟨b1, o1, none⟩) s.rw.length cb) ∧ u.cell? ⟨b1, o1 + j, none⟩ = some (.slice (some ⟨rb, ro, none⟩) r.length c1) ∧ u.cell? ⟨rb, ro + k, none⟩ = some (.int .i64 z))) (by kernel_rfl) ?_ (fun hHeld => ?_)
          · (try dsimp only)
            go_keep
          have hdr : Below U2.heap.size U2 U2.drew := Below.drew1
          generalize U2.drew = ud2 at hdr hHeld ⊢
          replace A0 := A0.below hdr
          replace A1 := A1.below hdr
          replace hF8 := hF8.below hdr
          replace hF5 := hF5.below hdr
          replace B0 := B0.below hdr
          replace P5 := P5.below hdr
          replace P8 := P8.below hdr
          replace X1 := X1.below hdr
          replace hbW : Below w.heap.size w ud2 := hbW.trans (hdr.mono hbW.size)
          clear hdr
          clear p00 p01 p02 p10 p11
          obtain ⟨p00, p01, p02, _⟩ := P8.cells
          obtain ⟨p10, p11, _⟩ := X1.cells
          refine hT 1 hHeld ?_
          refine hT 2 hHeld ?_
          refine hT 3 hHeld ?_
          refine hT 4 hHeld ?_
          refine hT 5 hHeld ?_
          refine hT 6 hHeld ?_
          refine hT 7 hHeld ?_
          refine hT 8 hHeld ?_
          refine hT 9 hHeld ?_
          refine wpAnyH_ready (rs := [0, 10]) (by kernel_rfl) (by simp) (hCons (i := 0) rfl (by rfl) (fun K hK => ?_) (hCons (i := 10) rfl (by rfl) (fun K hK => ?_) AllReadyH.nil))
          · go_simp
            obtain ⟨f1, f2, f3, f4, f5, f6⟩ := P5.cells
            try go_simp
            clear f1 f2 f3 f4 f5 f6
            refine hK.out _ _ ?_ (fun hHeld => ?_)
            · (try dsimp only)
              exact ⟨p00, p01, p02, p10, p11, A0.2, A1.2⟩
            clear hK K
            try simp only [Act.put, List.setIfInBounds_toArray, List.set_cons_zero, List.set_cons_succ]
            refine hCall (i := 10) rfl (by kernel_rfl) (by rfl) (fun K hK => ?_)
            go_simp
            refine (swhole_any z _ hzi.1 (by have := hzi.2; omega)).mono ?_
            rintro e u11 ⟨v6, rfl, hF6, hb11⟩
            replace A0 := A0.below hb11
            replace A1 := A1.below hb11
            replace hF8 := hF8.below hb11
            replace hF5 := hF5.below hb11
            replace B0 := B0.below hb11
            replace P5 := P5.below hb11
            replace P8 := P8.below hb11
            replace X1 := X1.below hb11
            replace hbW : Below w.heap.size w u11 := hbW.trans (hb11.mono hbW.size)
            clear hb11
            clear p00 p01 p02 p10 p11
            obtain ⟨p00, p01, p02, _⟩ := P8.cells
            obtain ⟨p10, p11, _⟩ := X1.cells
            go_wp2_with fail
            refine hK.out _ _ ?_ (fun hHeld => ?_)
            · (try dsimp only)
              exact ⟨p00, p01, p02, p10, p11, A0.2, A1.2⟩
            clear hK K
            try simp only [Act.put, List.setIfInBounds_toArray, List.set_cons_zero, List.set_cons_succ]
            refine hCall (i := 11) rfl (by kernel_rfl) (by rfl) (fun K hK => ?_)
            go_simp
            refine (smul_any (2 + 2 * l.length) 2 _ _ _ _ _ hF8.ct hF6.ct (by omega) (by decide) (by omega) (by decide)).mono ?_
            rintro e u12 ⟨v7, rfl, hF7, hb12⟩
            replace A0 := A0.below hb12
            replace A1 := A1.below hb12
            replace hF8 := hF8.below hb12
            replace hF5 := hF5.below hb12
            replace B0 := B0.below hb12
            replace P5 := P5.below hb12
            replace hF6 := hF6.below hb12
            replace P8 := P8.below hb12
            replace X1 := X1.below hb12
            replace hbW : Below w.heap.size w u12 := hbW.trans (hb12.mono hbW.size)
            clear hb12
            clear p00 p01 p02 p10 p11
            obtain ⟨p00, p01, p02, _⟩ := P8.cells
            obtain ⟨p10, p11, _⟩ := X1.cells
            go_wp2_with fail
            refine hK.out _ _ ?_ (fun hHeld => ?_)
            · (try dsimp only)
              exact ⟨p00, p01, p02, p10, p11, A0.2, A1.2⟩
            clear hK K
            try simp only [Act.put, List.setIfInBounds_toArray, List.set_cons_zero, List.set_cons_succ]
            refine hCall (i := 12) rfl (by kernel_rfl) (by rfl) (fun K hK => ?_)
            go_simp
            refine (sadd_any (2 + 21 * k) (2 + 2 * l.length + 2) _ _ _ _ _ hF5.ct hF7.ct (by omega) (by omega) (by omega) (by omega)).mono ?_
            rintro e u13 ⟨v9, rfl, hF9, hb13⟩
            replace A0 := A0.below hb13
            replace A1 := A1.below hb13
            replace hF8 := hF8.below hb13
            replace hF5 := hF5.below hb13
            replace B0 := B0.below hb13
            replace P5 := P5.below hb13
            replace hF6 := hF6.below hb13
            replace hF7 := hF7.below hb13
            replace P8 := P8.below hb13
            replace X1 := X1.below hb13
            replace hbW : Below w.heap.size w u13 := hbW.trans (hb13.mono hbW.size)
            clear hb13
            rw [← HK.out] at hF9
            obtain ⟨n9, x9, y9, ⟨a9, c9, b9, d9, rfl, hx9, hy9⟩, hF9⟩ := hF9
            clear p00 p01 p02 p10 p11
            obtain ⟨p00, p01, p02, _⟩ := P8.cells
            obtain ⟨p10, p11, _⟩ := X1.cells
            go_wp2_with fail
            refine hK.out _ _ ?_ (fun hHeld => ?_)
            · (try dsimp only)
              exact ⟨p00, p01, p02, p10, p11, A0.2, A1.2⟩
            clear hK K
            try simp only [Act.put, List.setIfInBounds_toArray, List.set_cons_zero, List.set_cons_succ]
            refine hCall (i := 13) rfl (by kernel_rfl) (by rfl) (fun K hK => ?_)
            go_simp
            have hs := P5.lt
            obtain ⟨f1, f2, f3, f4, f5, f6⟩ := P5.cells
            try go_simp
            obtain ⟨u74, hU, C5, hbU, hK9, ho⟩ := set3_world P5 (.bool n9) (.slice a9 x9.length c9) (.slice b9 y9.length d9)
            rw [← hU]
            clear hU f1 f2 f3 f4 f5 f6
            replace B0 := B0.other ho (by omega)
            replace P8 := P8.other ho (by omega)
            replace X1 : BxS u74 w.heap.size (.slice (some ⟨b3, o3, none⟩) s.rg.length ca) (.slice (some ⟨b1, o1, none⟩) s.rw.length cb) := (ho _ (by omega)).trans X1
            replace hbW := hbU _ _ hbW (by omega)
            have hF9 : Fr u74 (.agg #[.bool n9, .slice a9 x9.length c9, .slice b9 y9.length d9]) (2 + 21 * (k + 1)) (chK s.rg r cs (k + 1)) := Fr.le (k := 2 + 21 * k + (2 + 2 * l.length + 2) + 1) ⟨_, _, _, ⟨_, _, _, _, rfl, hK9 _ _ _ hx9, hK9 _ _ _ hy9⟩, hF9⟩ (by omega)
            clear hbU hK9 ho hx9 hy9 A0 A1
            have A0 := HA0.out _ hbW
            have A1 := HAZ.out _ hbW
            clear p00 p01 p02 p10 p11
            obtain ⟨p00, p01, p02, _⟩ := P8.cells
            obtain ⟨p10, p11, _⟩ := X1.cells
            refine hK.out _ _ ?_ (fun hHeld => ?_)
            · (try dsimp only)
              exact ⟨p00, p01, p02, p10, p11, A0.2, A1.2⟩
            clear hK K
            try simp only [Act.put, List.setIfInBounds_toArray, List.set_cons_zero, List.set_cons_succ]
            refine wpAnyH_done (by kernel_rfl) ?_ _
            clear hHeld
            go_wp2
            go_roundw
            case rel => exact ⟨k + 1, _, _, _, _, _, _, _, by omega, by go_num, C5, hF9, B0, X1, hbW⟩
            case measure => simp [intOf]; omega
          · go_simp
            refine (swhole_any z _ hzi.1 (by have := hzi.2; omega)).mono ?_
            rintro e u11 ⟨v6, rfl, hF6, hb11⟩
            replace A0 := A0.below hb11
            replace A1 := A1.below hb11
            replace hF8 := hF8.below hb11
            replace hF5 := hF5.below hb11
            replace B0 := B0.below hb11
            replace P5 := P5.below hb11
            replace P8 := P8.below hb11
            replace X1 := X1.below hb11
            replace hbW : Below w.heap.size w u11 := hbW.trans (hb11.mono hbW.size)
            clear hb11
            clear p00 p01 p02 p10 p11
            obtain ⟨p00, p01, p02, _⟩ := P8.cells
            obtain ⟨p10, p11, _⟩ := X1.cells
            go_wp2_with fail
            refine hK.out _ _ ?_ (fun hHeld => ?_)
            · (try dsimp only)
              exact ⟨p00, p01, p02, p10, p11, A0.2, A1.2⟩
            clear hK K
            try simp only [Act.put, List.setIfInBounds_toArray, List.set_cons_zero, List.set_cons_succ]
            refine wpAnyH_ready (rs := [0, 11]) (by kernel_rfl) (by simp) (hCons (i := 0) rfl (by rfl) (fun K hK => ?_) (hCons (i := 11) rfl (by rfl) (fun K hK => ?_) AllReadyH.nil))
            · go_simp
              obtain ⟨f1, f2, f3, f4, f5, f6⟩ := P5.cells
              try go_simp
              clear f1 f2 f3 f4 f5 f6
              refine hK.out _ _ ?_ (fun hHeld => ?_)
              · (try dsimp only)
                exact ⟨p00, p01, p02, p10, p11, A0.2, A1.2⟩
              clear hK K
              try simp only [Act.put, List.setIfInBounds_toArray, List.set_cons_zero, List.set_cons_succ]
              refine hCall (i := 11) rfl (by kernel_rfl) (by rfl) (fun K hK => ?_)
              go_simp
              refine (smul_any (2 + 2 * l.length) 2 _ _ _ _ _ hF8.ct hF6.ct (by omega) (by decide) (by omega) (by decide)).mono ?_
              rintro e u12 ⟨v7, rfl, hF7, hb12⟩
              replace A0 := A0.below hb12
              replace A1 := A1.below hb12
              replace hF8 := hF8.below hb12
              replace hF5 := hF5.below hb12
              replace B0 := B0.below hb12
              replace P5 := P5.below hb12
              replace hF6 := hF6.below hb12
              replace P8 := P8.below hb12
              replace X1 := X1.below hb12
              replace hbW : Below w.heap.size w u12 := hbW.trans (hb12.mono hbW.size)
              clear hb12
              clear p00 p01 p02 p10 p11
              obtain ⟨p00, p01, p02, _⟩ := P8.cells
              obtain ⟨p10, p11, _⟩ := X1.cells
              go_wp2_with fail
              refine hK.out _ _ ?_ (fun hHeld => ?_)
              · (try dsimp only)
                exact ⟨p00, p01, p02, p10, p11, A0.2, A1.2⟩
              clear hK K
              try simp only [Act.put, List.setIfInBounds_toArray, List.set_cons_zero, List.set_cons_succ]
              refine hCall (i := 12) rfl (by kernel_rfl) (by rfl) (fun K hK => ?_)
              go_simp
              refine (sadd_any (2 + 21 * k) (2 + 2 * l.length + 2) _ _ _ _ _ hF5.ct hF7.ct (by omega) (by omega) (by omega) (by omega)).mono ?_
              rintro e u13 ⟨v9, rfl, hF9, hb13⟩
              replace A0 := A0.below hb13
              replace A1 := A1.below hb13
              replace hF8 := hF8.below hb13
              replace hF5 := hF5.below hb13
              replace B0 := B0.below hb13
              replace P5 := P5.below hb13
              replace hF6 := hF6.below hb13
              replace hF7 := hF7.below hb13
              replace P8 := P8.below hb13
              replace X1 := X1.below hb13
              replace hbW : Below w.heap.size w u13 := hbW.trans (hb13.mono hbW.size)
              clear hb13
              rw [← HK.out] at hF9
              obtain ⟨n9, x9, y9, ⟨a9, c9, b9, d9, rfl, hx9, hy9⟩, hF9⟩ := hF9
              clear p00 p01 p02 p10 p11
              obtain ⟨p00, p01, p02, _⟩ := P8.cells
              obtain ⟨p10, p11, _⟩ := X1.cells
              go_wp2_with fail
              refine hK.out _ _ ?_ (fun hHeld => ?_)
              · (try dsimp only)
                exact ⟨p00, p01, p02, p10, p11, A0.2, A1.2⟩
              clear hK K
              try simp only [Act.put, List.setIfInBounds_toArray, List.set_cons_zero, List.set_cons_succ]
              refine hCall (i := 13) rfl (by kernel_rfl) (by rfl) (fun K hK => ?_)
              go_simp
              have hs := P5.lt
              obtain ⟨f1, f2, f3, f4, f5, f6⟩ := P5.cells
              try go_simp
              obtain ⟨u74, hU, C5, hbU, hK9, ho⟩ := set3_world P5 (.bool n9) (.slice a9 x9.length c9) (.slice b9 y9.length d9)
              rw [← hU]
              clear hU f1 f2 f3 f4 f5 f6
              replace B0 := B0.other ho (by omega)
              replace P8 := P8.other ho (by omega)
              replace X1 : BxS u74 w.heap.size (.slice (some ⟨b3, o3, none⟩) s.rg.length ca) (.slice (some ⟨b1, o1, none⟩) s.rw.length cb) := (ho _ (by omega)).trans X1
              replace hbW := hbU _ _ hbW (by omega)
              have hF9 : Fr u74 (.agg #[.bool n9, .slice a9 x9.length c9, .slice b9 y9.length d9]) (2 + 21 * (k + 1)) (chK s.rg r cs (k + 1)) := Fr.le (k := 2 + 21 * k + (2 + 2 * l.length + 2) + 1) ⟨_, _, _, ⟨_, _, _, _, rfl, hK9 _ _ _ hx9, hK9 _ _ _ hy9⟩, hF9⟩ (by omega)
              clear hbU hK9 ho hx9 hy9 A0 A1
              have A0 := HA0.out _ hbW
              have A1 := HAZ.out _ hbW
              clear p00 p01 p02 p10 p11
              obtain ⟨p00, p01, p02, _⟩ := P8.cells
              obtain ⟨p10, p11, _⟩ := X1.cells
              refine hK.out _ _ ?_ (fun hHeld => ?_)
              · (try dsimp only)
                exact ⟨p00, p01, p02, p10, p11, A0.2, A1.2⟩
              clear hK K
              try simp only [Act.put, List.setIfInBounds_toArray, List.set_cons_zero, List.set_cons_succ]
              refine wpAnyH_done (by kernel_rfl) ?_ _
              clear hHeld
              go_wp2
              go_roundw
              case rel => exact ⟨k + 1, _, _, _, _, _, _, _, by omega, by go_num, C5, hF9, B0, X1, hbW⟩
              case measure => simp [intOf]; omega
            · go_simp
              refine (smul_any (2 + 2 * l.length) 2 _ _ _ _ _ hF8.ct hF6.ct (by omega) (by decide) (by omega) (by decide)).mono ?_
              rintro e u12 ⟨v7, rfl, hF7, hb12⟩
              replace A0 := A0.below hb12
              replace A1 := A1.below hb12
              replace hF8 := hF8.below hb12
              replace hF5 := hF5.below hb12
              replace B0 := B0.below hb12
              replace P5 := P5.below hb12
              replace hF6 := hF6.below hb12
              replace P8 := P8.below hb12
              replace X1 := X1.below hb12
              replace hbW : Below w.heap.size w u12 := hbW.trans (hb12.mono hbW.size)
              clear hb12
              clear p00 p01 p02 p10 p11
              obtain ⟨p00, p01, p02, _⟩ := P8.cells
              obtain ⟨p10, p11, _⟩ := X1.cells
              go_wp2_with fail
              refine hK.out _ _ ?_ (fun hHeld => ?_)
              · (try dsimp only)
                exact ⟨p00, p01, p02, p10, p11, A0.2, A1.2⟩
              clear hK K
              try simp only [Act.put, List.setIfInBounds_toArray, List.set_cons_zero, List.set_cons_succ]
              refine hCall (i := 0) rfl (by kernel_rfl) (by rfl) (fun K hK => ?_)
              go_simp
              obtain ⟨f1, f2, f3, f4, f5, f6⟩ := P5.cells
              try go_simp
              clear f1 f2 f3 f4 f5 f6
              refine hK.out _ _ ?_ (fun hHeld => ?_)
              · (try dsimp only)
                exact ⟨p00, p01, p02, p10, p11, A0.2, A1.2⟩
              clear hK K
              try simp only [Act.put, List.setIfInBounds_toArray, List.set_cons_zero, List.set_cons_succ]
              refine hCall (i := 12) rfl (by kernel_rfl) (by rfl) (fun K hK => ?_)
              go_simp
              refine (sadd_any (2 + 21 * k) (2 + 2 * l.length + 2) _ _ _ _ _ hF5.ct hF7.ct (by omega) (by omega) (by omega) (by omega)).mono ?_
              rintro e u13 ⟨v9, rfl, hF9, hb13⟩
              replace A0 := A0.below hb13
              replace A1 := A1.below hb13
              replace hF8 := hF8.below hb13
              replace hF5 := hF5.below hb13
              replace B0 := B0.below hb13
              replace P5 := P5.below hb13
              replace hF6 := hF6.below hb13
              replace hF7 := hF7.below hb13
              replace P8 := P8.below hb13
              replace X1 := X1.below hb13
              replace hbW : Below w.heap.size w u13 := hbW.trans (hb13.mono hbW.size)
              clear hb13
              rw [← HK.out] at hF9
              obtain ⟨n9, x9, y9, ⟨a9, c9, b9, d9, rfl, hx9, hy9⟩, hF9⟩ := hF9
              clear p00 p01 p02 p10 p11
              obtain ⟨p00, p01, p02, _⟩ := P8.cells
              obtain ⟨p10, p11, _⟩ := X1.cells
              go_wp2_with fail
              refine hK.out _ _ ?_ (fun hHeld => ?_)
              · (try dsimp only)
                exact ⟨p00, p01, p02, p10, p11, A0.2, A1.2⟩
              clear hK K
              try simp only [Act.put, List.setIfInBounds_toArray, List.set_cons_zero, List.set_cons_succ]
              refine hCall (i := 13) rfl (by kernel_rfl) (by rfl) (fun K hK => ?_)
              go_simp
              have hs := P5.lt
              obtain ⟨f1, f2, f3, f4, f5, f6⟩ := P5.cells
              try go_simp
              obtain ⟨u74, hU, C5, hbU, hK9, ho⟩ := set3_world P5 (.bool n9) (.slice a9 x9.length c9) (.slice b9 y9.length d9)
              rw [← hU]
              clear hU f1 f2 f3 f4 f5 f6
              replace B0 := B0.other ho (by omega)
              replace P8 := P8.other ho (by omega)
              replace X1 : BxS u74 w.heap.size (.slice (some ⟨b3, o3, none⟩) s.rg.length ca) (.slice (some ⟨b1, o1, none⟩) s.rw.length cb) := (ho _ (by omega)).trans X1
              replace hbW := hbU _ _ hbW (by omega)
              have hF9 : Fr u74 (.agg #[.bool n9, .slice a9 x9.length c9, .slice b9 y9.length d9]) (2 + 21 * (k + 1)) (chK s.rg r cs (k + 1)) := Fr.le (k := 2 + 21 * k + (2 + 2 * l.length + 2) + 1) ⟨_, _, _, ⟨_, _, _, _, rfl, hK9 _ _ _ hx9, hK9 _ _ _ hy9⟩, hF9⟩ (by omega)
              clear hbU hK9 ho hx9 hy9 A0 A1
              have A0 := HA0.out _ hbW
              have A1 := HAZ.out _ hbW
              clear p00 p01 p02 p10 p11
              obtain ⟨p00, p01, p02, _⟩ := P8.cells
              obtain ⟨p10, p11, _⟩ := X1.cells
              refine hK.out _ _ ?_ (fun hHeld => ?_)
              · (try dsimp only)
                exact ⟨p00, p01, p02, p10, p11, A0.2, A1.2⟩
              clear hK K
              try simp only [Act.put, List.setIfInBounds_toArray, List.set_cons_zero, List.set_cons_succ]
              refine wpAnyH_done (by kernel_rfl) ?_ _
              clear hHeld
              go_wp2
              go_roundw
              case rel => exact ⟨k + 1, _, _, _, _, _, _, _, by omega, by go_num, C5, hF9, B0, X1, hbW⟩
              case measure => simp [intOf]; omega
        · obtain rfl : k = s.rg.length := by omega
          rw [← HLN.out, HQ.out] at hF5
          obtain ⟨p0, p1, p2, _⟩ := P5.cells
          obtain ⟨q1, q2, q3, q4, q5, q6⟩ := B0.cells
          have hs := B0.lt
          go_wp2
          refine ret3 (v := .agg #[.bool n5, .slice a5 x5 c5, .slice b5 y5 d5]) B0 rfl (fun U hU => by obtain ⟨r1, r2, r3, _⟩ := hU.cells; simp [results, Tryz.results51, go_sem, r1, r2, r3]) (fun U hU hK => ⟨_, rfl, (hF5.moved hK).le (by have := HLN.out; omega), hU _ _ hbW (by omega)⟩)
    · have HQ : Hid ((0 : Rat) = chQ s (j : Int) cs) := by show _ = _; rw [chQ_no (by rw [HRQ.out]; exact decide_eq_false hlen)]
      have g5 : ((r.length : Int) != (s.rg.length : Int)) = true := bne_iff_ne.2 (by omega)
      clear HRQ HCQ hlen
      go_enter Tryz.func51, Tryz.ntmps51
      go_wp2_with fail
      rw [← hW]
      clear hW
      refine (szero_any _).mono ?_
      rintro e y1 ⟨v5, rfl, hF5, hb1⟩
      replace X1 := X1.below hb1
      replace B0 := B0.below hb1
      replace hbW := hbW.trans (hb1.mono hbW.size)
      clear hb1
      obtain ⟨n5, xl5, yl5, ⟨a5, c5, b5, d5, rfl, hx5, hy5⟩, hF5⟩ := hF5
      obtain ⟨Z1, hZ, P5, hb9⟩ : ∃ U, U = y1.alloc (.cells #[.bool n5, .slice a5 xl5.length c5, .slice b5 yl5.length d5] 91) ∧ Box 91 U y1.heap.size (.bool n5) (.slice a5 xl5.length c5) (.slice b5 yl5.length d5) ∧ Below y1.heap.size y1 U := ⟨_, rfl, Box.new _ _ _ _ _, al1 _⟩
      have hF5 : Fr Z1 (.agg #[.bool n5, .slice a5 xl5.length c5, .slice b5 yl5.length d5]) 2 0 := Fr.below ⟨_, _, _, ⟨_, _, _, _, rfl, hx5, hy5⟩, hF5⟩ hb9
      have hgb := B0.lt
      replace X1 := X1.below hb9
      replace B0 := B0.below hb9
      replace hbW := hbW.trans (hb9.mono hbW.size)
      clear hx5 hy5 hb9
      go_upto_region 2 with fail
      rw [← hZ]
      clear hZ
      generalize xl5.length = x5 at *
      generalize yl5.length = y5 at *
      generalize y1.heap.size = g7 at *
      have A0 := HA0.out _ hbW
      have q0 := A0.2
      obtain ⟨p00, p01, _⟩ := X1.cells
      refine wp_region_held_drew (S := (fun u => u.cell? ⟨w.heap.size, 0, none⟩ = some (.slice a s.rg.length ca) ∧ u.cell? ⟨w.heap.size, 1, none⟩ = some (.slice (some ⟨b1, o1, none⟩) s.rw.length cb) ∧ u.cell? ⟨b1, o1 + j, none⟩ = some (.slice a1 r.length c1))) (by kernel_rfl) ?_ (fun hHeld => ?_)
      · (try dsimp only)
        go_keep
      have hdr : Below Z1.heap.size Z1 Z1.drew := Below.drew1
      generalize Z1.drew = ud3 at hdr hHeld ⊢
      replace A0 := A0.below hdr
      replace B0 := B0.below hdr
      replace P5 := P5.below hdr
      replace hF5 := hF5.below hdr
      replace X1 := X1.below hdr
      replace hbW : Below w.heap.size w ud3 := hbW.trans (hdr.mono hbW.size)
      clear hdr
      clear p00 p01
      obtain ⟨p00, p01, _⟩ := X1.cells
      refine hT 0 hHeld ?_
      refine hT 1 hHeld ?_
      refine hT 2 hHeld ?_
      refine hT 3 hHeld ?_
      refine hT 4 hHeld ?_
      refine hT 5 hHeld ?_
      refine hT 6 hHeld ?_
      refine hT 7 hHeld ?_
      refine hT 8 hHeld ?_
      refine hT 9 hHeld ?_
      refine hT 10 hHeld ?_
      refine hT 11 hHeld ?_
      refine hT 12 hHeld ?_
      refine hT 13 hHeld ?_
      refine hT 14 hHeld ?_
      refine hT 15 hHeld ?_
      refine hT 16 hHeld ?_
      refine hT 17 hHeld ?_
      refine hT 18 hHeld ?_
      refine hT 19 hHeld ?_
      refine hT 20 hHeld ?_
      refine wpAnyH_done (by kernel_rfl) ?_ _
      clear hHeld
      rw [HQ.out] at hF5
      obtain ⟨p0, p1, p2, _⟩ := P5.cells
      obtain ⟨q1, q2, q3, q4, q5, q6⟩ := B0.cells
      have hs := B0.lt
      go_wp2
      refine ret3 (v := .agg #[.bool n5, .slice a5 x5 c5, .slice b5 y5 d5]) B0 rfl (fun U hU => by obtain ⟨r1, r2, r3, _⟩ := hU.cells; simp [results, Tryz.results51, go_sem, r1, r2, r3]) (fun U hU hK => ⟨_, rfl, (hF5.moved hK).le (by decide), hU _ _ hbW (by omega)⟩)
  · have HQ : Hid ((0 : Rat) = chQ s i cs) := by
      show _ = _
      rw [chQ_no]
      rw [Bool.eq_false_iff]
      intro e
      have := rwB_iff.1 e
      exact hi ⟨this.1, this.2.1⟩
    by_cases h0 : i < 0
    · have g1 : decide (i < 0) = true := decide_eq_true h0
      clear hi h0
      go_enter Tryz.func51, Tryz.ntmps51
      go_wp2_with fail
      rw [← hW]
      clear hW
      refine (szero_any _).mono ?_
      rintro e y1 ⟨v5, rfl, hF5, hb1⟩
      replace X1 := X1.below hb1
      replace B0 := B0.below hb1
      replace hbW := hbW.trans (hb1.mono hbW.size)
      clear hb1
      obtain ⟨n5, xl5, yl5, ⟨a5, c5, b5, d5, rfl, hx5, hy5⟩, hF5⟩ := hF5
      obtain ⟨Z1, hZ, P5, hb9⟩ : ∃ U, U = y1.alloc (.cells #[.bool n5, .slice a5 xl5.length c5, .slice b5 yl5.length d5] 91) ∧ Box 91 U y1.heap.size (.bool n5) (.slice a5 xl5.length c5) (.slice b5 yl5.length d5) ∧ Below y1.heap.size y1 U := ⟨_, rfl, Box.new _ _ _ _ _, al1 _⟩
      have hF5 : Fr Z1 (.agg #[.bool n5, .slice a5 xl5.length c5, .slice b5 yl5.length d5]) 2 0 := Fr.below ⟨_, _, _, ⟨_, _, _, _, rfl, hx5, hy5⟩, hF5⟩ hb9
      have hgb := B0.lt
      replace X1 := X1.below hb9
      replace B0 := B0.below hb9
      replace hbW := hbW.trans (hb9.mono hbW.size)
      clear hx5 hy5 hb9
      go_upto_region 2 with fail
      rw [← hZ]
      clear hZ
      generalize xl5.length = x5 at *
      generalize yl5.length = y5 at *
      generalize y1.heap.size = g7 at *
      obtain ⟨p00, p01, _⟩ := X1.cells
      refine wp_region_held_drew (S := (fun u => u.cell? ⟨w.heap.size, 0, none⟩ = some (.slice a s.rg.length ca) ∧ u.cell? ⟨w.heap.size, 1, none⟩ = some (.slice b s.rw.length cb))) (by kernel_rfl) ?_ (fun hHeld => ?_)
      · (try dsimp only)
        go_keep
      have hdr : Below Z1.heap.size Z1 Z1.drew := Below.drew1
      generalize Z1.drew = ud4 at hdr hHeld ⊢
      replace B0 := B0.below hdr
      replace P5 := P5.below hdr
      replace hF5 := hF5.below hdr
      replace X1 := X1.below hdr
      replace hbW : Below w.heap.size w ud4 := hbW.trans (hdr.mono hbW.size)
      clear hdr
      clear p00 p01
      obtain ⟨p00, p01, _⟩ := X1.cells
      refine hT 0 hHeld ?_
      refine hT 1 hHeld ?_
      refine hT 2 hHeld ?_
      refine hN 3 hHeld ?_
      refine hN 4 hHeld ?_
      refine hN 5 hHeld ?_
      refine hN 6 hHeld ?_
      refine hN 7 hHeld ?_
      refine hT 8 hHeld ?_
      refine hT 9 hHeld ?_
      refine hN 10 hHeld ?_
      refine hN 11 hHeld ?_
      refine hN 12 hHeld ?_
      refine hN 13 hHeld ?_
      refine hN 14 hHeld ?_
      refine hN 15 hHeld ?_
      refine hN 16 hHeld ?_
      refine hN 17 hHeld ?_
      refine hN 18 hHeld ?_
      refine hN 19 hHeld ?_
      refine hT 20 hHeld ?_
      refine wpAnyH_done (by kernel_rfl) ?_ _
      clear hHeld
      rw [HQ.out] at hF5
      obtain ⟨p0, p1, p2, _⟩ := P5.cells
      obtain ⟨q1, q2, q3, q4, q5, q6⟩ := B0.cells
      have hs := B0.lt
      go_wp2
      refine ret3 (v := .agg #[.bool n5, .slice a5 x5 c5, .slice b5 y5 d5]) B0 rfl (fun U hU => by obtain ⟨r1, r2, r3, _⟩ := hU.cells; simp [results, Tryz.results51, go_sem, r1, r2, r3]) (fun U hU hK => ⟨_, rfl, (hF5.moved hK).le (by decide), hU _ _ hbW (by omega)⟩)
    · have g1 : decide (i < 0) = false := decide_eq_false h0
      have g2 : decide ((s.rw.length : Int) ≤ i) = true := decide_eq_true (by omega)
      clear hi h0
      go_enter Tryz.func51, Tryz.ntmps51
      go_wp2_with fail
      rw [← hW]
      clear hW
      refine (szero_any _).mono ?_
      rintro e y1 ⟨v5, rfl, hF5, hb1⟩
      replace X1 := X1.below hb1
      replace B0 := B0.below hb1
      replace hbW := hbW.trans (hb1.mono hbW.size)
      clear hb1
      obtain ⟨n5, xl5, yl5, ⟨a5, c5, b5, d5, rfl, hx5, hy5⟩, hF5⟩ := hF5
      obtain ⟨Z1, hZ, P5, hb9⟩ : ∃ U, U = y1.alloc (.cells #[.bool n5, .slice a5 xl5.length c5, .slice b5 yl5.length d5] 91) ∧ Box 91 U y1.heap.size (.bool n5) (.slice a5 xl5.length c5) (.slice b5 yl5.length d5) ∧ Below y1.heap.size y1 U := ⟨_, rfl, Box.new _ _ _ _ _, al1 _⟩
      have hF5 : Fr Z1 (.agg #[.bool n5, .slice a5 xl5.length c5, .slice b5 yl5.length d5]) 2 0 := Fr.below ⟨_, _, _, ⟨_, _, _, _, rfl, hx5, hy5⟩, hF5⟩ hb9
      have hgb := B0.lt
      replace X1 := X1.below hb9
      replace B0 := B0.below hb9
      replace hbW := hbW.trans (hb9.mono hbW.size)
      clear hx5 hy5 hb9
      go_upto_region 2 with fail
      rw [← hZ]
      clear hZ
      generalize xl5.length = x5 at *
      generalize yl5.length = y5 at *
      generalize y1.heap.size = g7 at *
      obtain ⟨p00, p01, _⟩ := X1.cells
      refine wp_region_held_drew (S := (fun u => u.cell? ⟨w.heap.size, 0, none⟩ = some (.slice a s.rg.length ca) ∧ u.cell? ⟨w.heap.size, 1, none⟩ = some (.slice b s.rw.length cb))) (by kernel_rfl) ?_ (fun hHeld => ?_)
      · (try dsimp only)
        go_keep
      have hdr : Below Z1.heap.size Z1 Z1.drew := Below.drew1
      generalize Z1.drew = ud5 at hdr hHeld ⊢
      replace B0 := B0.below hdr
      replace P5 := P5.below hdr
      replace hF5 := hF5.below hdr
      replace X1 := X1.below hdr
      replace hbW : Below w.heap.size w ud5 := hbW.trans (hdr.mono hbW.size)
      clear hdr
      clear p00 p01
      obtain ⟨p00, p01, _⟩ := X1.cells
      refine hT 0 hHeld ?_
      refine hT 1 hHeld ?_
      refine hT 2 hHeld ?_
      refine hT 3 hHeld ?_
      refine hT 4 hHeld ?_
      refine hT 5 hHeld ?_
      refine hT 6 hHeld ?_
      refine hT 7 hHeld ?_
      refine hT 8 hHeld ?_
      refine hT 9 hHeld ?_
      refine hN 10 hHeld ?_
      refine hN 11 hHeld ?_
      refine hN 12 hHeld ?_
      refine hN 13 hHeld ?_
      refine hN 14 hHeld ?_
      refine hN 15 hHeld ?_
      refine hN 16 hHeld ?_
      refine hN 17 hHeld ?_
      refine hN 18 hHeld ?_
      refine hN 19 hHeld ?_
      refine hT 20 hHeld ?_
      refine wpAnyH_done (by kernel_rfl) ?_ _
      clear hHeld
      rw [HQ.out] at hF5
      obtain ⟨p0, p1, p2, _⟩ := P5.cells
      obtain ⟨q1, q2, q3, q4, q5, q6⟩ := B0.cells
      have hs := B0.lt
      go_wp2
      refine ret3 (v := .agg #[.bool n5, .slice a5 x5 c5, .slice b5 y5 d5]) B0 rfl (fun U hU => by obtain ⟨r1, r2, r3, _⟩ := hU.cells; simp [results, Tryz.results51, go_sem, r1, r2, r3]) (fun U hU hK => ⟨_, rfl, (hF5.moved hK).le (by decide), hU _ _ hbW (by omega)⟩)

end Go.Proofs.YtchdoakoelfenaaGreat

namespace Go.Proofs.YtchdoakoelfenaaGreat
open Go.RowKit
set_option linter.unusedSimpArgs false
set_option linter.unusedVariables false

theorem c14_big {q : Rat} {z : Int} (hz : (q * 16384 + 1 / 2).floor = z) (h : flB z = false) : c14 z = 16384 * sgnQ q := by
  have h1 : ¬ (-9223372036854775808 ≤ z ∧ z < 9223372036854775808) := by unfold flB at h; simpa using h
  have f1 := Rat.floor_le (q * 16384 + 1 / 2)
  have f2 := Rat.lt_floor (x := q * 16384 + 1 / 2)
  rw [hz] at f1 f2
  by_cases h2 : z < 0
  · have h3 : z ≤ -2 := by omega
    have hq : q < 0 := by
      have h4 : ((z : Int) : Rat) ≤ ((-2 : Int) : Rat) := Rat.intCast_le_intCast.2 h3
      grind
    have h0 : q ≠ 0 := by grind
    unfold sgnQ c14
    rw [if_neg h0, if_pos hq, if_pos (by omega)]
    rfl
  · have h3 : 2 ≤ z := by omega
    have hq : ¬ q < 0 := by
      have h4 : ((2 : Int) : Rat) ≤ ((z : Int) : Rat) := Rat.intCast_le_intCast.2 h3
      grind
    have h0 : q ≠ 0 := by
      have h4 : ((2 : Int) : Rat) ≤ ((z : Int) : Rat) := Rat.intCast_le_intCast.2 h3
      grind
    unfold sgnQ c14
    rw [if_neg h0, if_neg hq, if_neg (by omega), if_pos (by omega)]
    rfl

/-- A number that Between takes. -/
def nr (z : Int) : Bool := decide (-1099511627776 ≤ z ∧ z ≤ 1099511627776)

end Go.Proofs.YtchdoakoelfenaaGreat

namespace Go.Proofs.YtchdoakoelfenaaGreat
open Go.RowKit
set_option linter.unusedSimpArgs false
set_option linter.unusedVariables false

/-- All four are near. -/
def nr4 (a b n d : Int) : Bool := [a, b, n, d].all nr
/-- The fraction between. -/
def btw (a b n d : Int) : Rat := if nr4 a b n d = true then (a : Rat) + ((b - a : Int) : Rat) * ((n : Rat) / (d : Rat)) else 0
theorem nr4_all {a b n d : Int} (h : nr4 a b n d = true) : (-1099511627776 ≤ a ∧ a ≤ 1099511627776) ∧ (-1099511627776 ≤ b ∧ b ≤ 1099511627776) ∧ (-1099511627776 ≤ n ∧ n ≤ 1099511627776) ∧ (-1099511627776 ≤ d ∧ d ≤ 1099511627776) := by
  simp [nr4, nr] at h
  omega

end Go.Proofs.YtchdoakoelfenaaGreat

namespace Go.Proofs.YtchdoakoelfenaaGreat
open Go.RowKit Classical
set_option linter.unusedSimpArgs false
set_option linter.unusedVariables false
end Go.Proofs.YtchdoakoelfenaaGreat
