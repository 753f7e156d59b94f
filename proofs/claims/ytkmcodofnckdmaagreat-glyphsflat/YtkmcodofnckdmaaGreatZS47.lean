/-
  foundryref09.All: the walk.
-/
import Derived.Test.YtkmcodofnckdmaaGreatZS46
import Derived.Test.YtkmcodofnckdmaaGreatZS17
import Derived.Test.YtkmcodofnckdmaaGreatZS27
import Derived.Test.YtkmcodofnckdmaaGreatZS33
import Derived.Test.YtkmcodofnckdmaaGreatZS15
import Derived.Deep.CutRange
set_option maxHeartbeats 4000000
set_option maxRecDepth 100000
set_option linter.unusedSimpArgs false
set_option linter.unusedVariables false
namespace Go.Proofs.YtkmcodofnckdmaaGreat
open Go.RowKit Go.Maps
theorem sallT_any (a : Option Addr) (cap : Nat) (l : List Te) (pa : Option Addr) (pc : Nat) (cs : List Int) (w : World) (h : Tz w a cap l) (hp : Ri w pa pc cs) (hl : l.length ≤ 1000) :
    Calls Tryz.prog 122 #[.slice a l.length cap, .slice pa cs.length pc] w fun e w' => ∃ v', e = .returned v' ∧ Fr w' v' (2 + 2 * l.length) (alQ l cs) ∧ Below w.heap.size w w' := by
 have k2 := h.lenB
 have k3 := hp.lenB
 have HH : Hid (Tz w a cap l) := h
 have HP : Hid (Ri w pa pc cs) := hp
 obtain ⟨W0, hW0, B0, hbW⟩ : ∃ W, W = w.alloc (.cells #[.bool false, .slice none 0 0, .slice none 0 0] 130) ∧ Box 130 W w.heap.size (.bool false) (.slice none 0 0) (.slice none 0 0) ∧ Below w.heap.size w W := ⟨_, rfl, Box.new _ _ _ _ _, al1 _⟩
 clear h hp
 go_enter Tryz.func122, Tryz.ntmps122
 go_wp2_with fail
 rw [← hW0]; clear hW0
 refine (swhole_any 1 _ (by decide) (by decide)).mono ?_
 rintro e U1 ⟨v5, rfl, hF5, hb5⟩; replace B0 := B0.below hb5
 replace hbW := hbW.trans (hb5.mono hbW.size)
 clear hb5; obtain ⟨n5, x5, y5, ⟨a5, c5, b5, d5, rfl, hx5, hy5⟩, hF5⟩ := hF5
 have hlt := B0.lt
 have P5 := Box.new 130 U1 (.bool n5) (.slice a5 x5.length c5) (.slice b5 y5.length d5)
 have hF5 : Fr (U1.alloc (.cells #[.bool n5, .slice a5 x5.length c5, .slice b5 y5.length d5] 130)) (.agg #[.bool n5, .slice a5 x5.length c5, .slice b5 y5.length d5]) (2 + 2 * 0) (alK l cs 0) := Fr.below ⟨_, _, _, ⟨_, _, _, _, rfl, hx5, hy5⟩, hF5⟩ (al1 _)
 replace B0 := B0.alloc (.cells #[.bool n5, .slice a5 x5.length c5, .slice b5 y5.length d5] 130)
 replace hbW := hbW.alloc hbW.size (.cells #[.bool n5, .slice a5 x5.length c5, .slice b5 y5.length d5] 130)
 clear hx5 hy5; go_wp2
 go_loopw [6] (fun i wr => ∃ (k : Nat) (n5 : Bool) (a5 : Option Addr) (x5 c5 : Nat) (b5 : Option Addr) (y5 d5 : Nat), k ≤ l.length ∧ i = .int .i64 (k : Int) ∧ Box 130 wr U1.heap.size (.bool n5) (.slice a5 x5 c5) (.slice b5 y5 d5) ∧ Fr wr (.agg #[.bool n5, .slice a5 x5 c5, .slice b5 y5 d5]) (2 + 2 * k) (alK l cs k) ∧ Box 130 wr w.heap.size (.bool false) (.slice none 0 0) (.slice none 0 0) ∧ Below w.heap.size w wr) (fun i _ => l.length - (intOf i).toNat)
 case atStart => exact ⟨0, _, _, _, _, _, _, _, Nat.zero_le _, rfl, P5, hF5, B0, hbW⟩
 case round =>
  clear P5 hF5 B0 hbW; obtain ⟨k, n5, a5, x5, c5, b5, y5, d5, hk, rfl, P5, hF5, B0, hbW⟩ := hrel
  by_cases hkn : k < l.length
  · obtain ⟨b0, off, ea, hb0, e0, e1, e2⟩ := HH.out.at hbW k hkn
    subst ea
    obtain ⟨z, hz⟩ : ∃ z, cs.getD k 0 = z := ⟨_, rfl⟩
    have hzi : I64 z := by
     by_cases h1 : k < cs.length
     · rw [← hz]; exact HP.out.i64 h1
     · rw [← hz, List.getD_eq_getElem?_getD, List.getElem?_eq_none (by omega)]; exact ⟨by decide, by decide⟩
    obtain ⟨t, ht⟩ : ∃ t, l.getD k Te.none = t := ⟨_, rfl⟩
    have HK : Hid (alK l cs (k + 1) = alK l cs k * paQ t z) := by show _ = _; rw [alK_succ, ht, hz]
    rw [ht] at e0 e1 e2; clear ht
    have hpa := fun U => spart_any t z U hzi
    obtain ⟨q, hq⟩ : ∃ q, paQ t z = q := ⟨_, rfl⟩
    simp only [hq] at hpa HK
    clear hq hzi; obtain ⟨st, pk, en⟩ := t
    dsimp only at *
    have s1 := P5.lt
    have s2 := hbW.size
    have A0 : Cl wr b0 (off + k * 3) (.int .i64 st) := ⟨Nat.lt_of_lt_of_le hb0 hbW.size, e0⟩
    have A1 : Cl wr b0 (off + k * 3 + 1) (.int .i64 pk) := ⟨Nat.lt_of_lt_of_le hb0 hbW.size, e1⟩
    have A2 : Cl wr b0 (off + k * 3 + 2) (.int .i64 en) := ⟨Nat.lt_of_lt_of_le hb0 hbW.size, e2⟩
    have hwr : IntKind.i64.wrap (k : Int) = k := wrapi64 (by omega) (by omega)
    have HCZ : Hid (¬ k < cs.length → z = 0) := fun h1 => by rw [← hz, List.getD_eq_getElem?_getD, List.getElem?_eq_none (by omega)]; rfl
    have HCY : Hid (cs.getD k 0 = z) := hz
    clear hz
    by_cases hkc : k < cs.length
    · have gg : (k : Int) < (cs.length : Int) := by omega
      obtain ⟨pb, poff, ep, hpb, dz⟩ := HP.out.at hbW k hkc
      subst ep; rw [HCY.out] at dz; clear HCY HCZ
      have HA : Hid (∀ U, Below w.heap.size w U → Cl U b0 (off + k * 3) (.int .i64 st) ∧ Cl U b0 (off + k * 3 + 1) (.int .i64 pk) ∧ Cl U b0 (off + k * 3 + 2) (.int .i64 en)) := fun U hU => by
       have e : ∀ o, U.cell? ⟨b0, o, none⟩ = wr.cell? ⟨b0, o, none⟩ := fun o => (hU.cell (p := ⟨b0, o, none⟩) hb0).trans (hbW.cell (p := ⟨b0, o, none⟩) hb0).symm
       exact ⟨⟨Nat.lt_of_lt_of_le hb0 hU.size, (e _).trans e0⟩, ⟨Nat.lt_of_lt_of_le hb0 hU.size, (e _).trans e1⟩, ⟨Nat.lt_of_lt_of_le hb0 hU.size, (e _).trans e2⟩⟩
      go_upto_region 8 with fail
      obtain ⟨p00, p01, p02, _⟩ := P5.cells
      refine wp_region_held_drew (S := (fun u => u.cell? ⟨b0, off + k * 3, none⟩ = some (.int .i64 st) ∧ u.cell? ⟨b0, off + k * 3 + 1, none⟩ = some (.int .i64 pk) ∧ u.cell? ⟨b0, off + k * 3 + 2, none⟩ = some (.int .i64 en))) (by kernel_rfl) ?_ (fun hHeld => ?_)
      · (try dsimp only)
        go_keep
      have hdr : Below wr.heap.size wr wr.drew := Below.drew1
      generalize wr.drew = ud2 at hdr hHeld ⊢
      replace A0 := A0.below hdr; replace A1 := A1.below hdr; replace A2 := A2.below hdr; replace hF5 := hF5.below hdr; replace B0 := B0.below hdr; replace P5 := P5.below hdr
      replace hbW : Below w.heap.size w ud2 := hbW.trans (hdr.mono hbW.size)
      clear hdr; clear p00 p01 p02; obtain ⟨p00, p01, p02, _⟩ := P5.cells; refine hT 1 hHeld ?_; refine hT 2 hHeld ?_; refine hT 3 hHeld ?_; refine hT 4 hHeld ?_; refine hT 5 hHeld ?_
      refine wpAnyH_ready (rs := [0, 6]) (by kernel_rfl) (by simp) (hCons (i := 0) rfl (by rfl) (fun K hK => ?_) (hCons (i := 6) rfl (by rfl) (fun K hK => ?_) AllReadyH.nil))
      · go_simp
        refine hK.out _ _ ?_ (fun hHeld => ?_)
        · (try dsimp only)
          exact ⟨A0.2, A1.2, A2.2⟩
        clear hK K
        try simp only [Act.put, pZ]
        refine hCall (i := 6) rfl (by kernel_rfl) (by rfl) (fun K hK => ?_)
        go_simp
        refine (hpa _).mono ?_
        rintro e u1 ⟨v8, rfl, hF8, hb1⟩; replace A0 := A0.below hb1; replace A1 := A1.below hb1; replace A2 := A2.below hb1; replace hF5 := hF5.below hb1; replace B0 := B0.below hb1; replace P5 := P5.below hb1
        replace hbW : Below w.heap.size w u1 := hbW.trans (hb1.mono hbW.size)
        clear hb1; clear p00 p01 p02; obtain ⟨p00, p01, p02, _⟩ := P5.cells
        go_wp2_with fail
        refine hK.out _ _ ?_ (fun hHeld => ?_)
        · (try dsimp only)
          exact ⟨A0.2, A1.2, A2.2⟩
        clear hK K
        try simp only [Act.put, pZ]
        refine hCall (i := 7) rfl (by kernel_rfl) (by rfl) (fun K hK => ?_)
        go_simp
        refine (smul_any (2 + 2 * k) 2 (alK l cs k) q _ _ _ hF5.ct hF8.ct (by omega) (by decide) (by omega) (by decide)).mono ?_
        rintro e u2 ⟨v9, rfl, hF9, hb2⟩; replace A0 := A0.below hb2; replace A1 := A1.below hb2; replace A2 := A2.below hb2; replace hF5 := hF5.below hb2; replace B0 := B0.below hb2; replace hF8 := hF8.below hb2; replace P5 := P5.below hb2
        replace hbW : Below w.heap.size w u2 := hbW.trans (hb2.mono hbW.size)
        clear hb2; rw [← HK.out] at hF9; obtain ⟨n9, x9, y9, ⟨a9, c9, b9, d9, rfl, hx9, hy9⟩, hF9⟩ := hF9; clear p00 p01 p02; obtain ⟨p00, p01, p02, _⟩ := P5.cells
        go_wp2_with fail
        refine hK.out _ _ ?_ (fun hHeld => ?_)
        · (try dsimp only)
          exact ⟨A0.2, A1.2, A2.2⟩
        clear hK K
        try simp only [Act.put, pZ]
        refine hCall (i := 8) rfl (by kernel_rfl) (by rfl) (fun K hK => ?_)
        go_simp
        have hs := P5.lt
        obtain ⟨f1, f2, f3, f4, f5, f6⟩ := P5.cells
        try go_simp
        obtain ⟨u63, hU, C5, hbU, hK9, ho⟩ := set3_world P5 (.bool n9) (.slice a9 x9.length c9) (.slice b9 y9.length d9)
        rw [← hU]; clear hU f1 f2 f3 f4 f5 f6
        replace B0 := B0.other ho (by omega)
        replace hbW := hbU _ _ hbW (by omega)
        have hF9 : Fr u63 (.agg #[.bool n9, .slice a9 x9.length c9, .slice b9 y9.length d9]) (2 + 2 * (k + 1)) (alK l cs (k + 1)) := Fr.le (k := 2 + 2 * k + 2) ⟨_, _, _, ⟨_, _, _, _, rfl, hK9 _ _ _ hx9, hK9 _ _ _ hy9⟩, hF9⟩ (by omega)
        clear hbU hK9 ho hx9 hy9 A0 A1 A2
        obtain ⟨A0, A1, A2⟩ := HA.out _ hbW
        refine hK.out _ _ ?_ (fun hHeld => ?_)
        · (try dsimp only)
          exact ⟨A0.2, A1.2, A2.2⟩
        clear hK K
        try simp only [Act.put, pZ]
        refine wpAnyH_done (by kernel_rfl) ?_ _
        clear hHeld; go_wp2
        go_roundw
        case rel => exact ⟨k + 1, _, _, _, _, _, _, _, by omega, by go_num, C5, hF9, B0, hbW⟩
        case measure => simp [intOf]; omega
      · go_simp
        refine (hpa _).mono ?_
        rintro e u1 ⟨v8, rfl, hF8, hb1⟩; replace A0 := A0.below hb1; replace A1 := A1.below hb1; replace A2 := A2.below hb1; replace hF5 := hF5.below hb1; replace B0 := B0.below hb1; replace P5 := P5.below hb1
        replace hbW : Below w.heap.size w u1 := hbW.trans (hb1.mono hbW.size)
        clear hb1; clear p00 p01 p02; obtain ⟨p00, p01, p02, _⟩ := P5.cells
        go_wp2_with fail
        refine hK.out _ _ ?_ (fun hHeld => ?_)
        · (try dsimp only)
          exact ⟨A0.2, A1.2, A2.2⟩
        clear hK K
        try simp only [Act.put, pZ]
        refine hCall (i := 0) rfl (by kernel_rfl) (by rfl) (fun K hK => ?_)
        go_simp
        refine hK.out _ _ ?_ (fun hHeld => ?_)
        · (try dsimp only)
          exact ⟨A0.2, A1.2, A2.2⟩
        clear hK K
        try simp only [Act.put, pZ]
        refine hCall (i := 7) rfl (by kernel_rfl) (by rfl) (fun K hK => ?_)
        go_simp
        refine (smul_any (2 + 2 * k) 2 (alK l cs k) q _ _ _ hF5.ct hF8.ct (by omega) (by decide) (by omega) (by decide)).mono ?_
        rintro e u2 ⟨v9, rfl, hF9, hb2⟩; replace A0 := A0.below hb2; replace A1 := A1.below hb2; replace A2 := A2.below hb2; replace hF5 := hF5.below hb2; replace B0 := B0.below hb2; replace hF8 := hF8.below hb2; replace P5 := P5.below hb2
        replace hbW : Below w.heap.size w u2 := hbW.trans (hb2.mono hbW.size)
        clear hb2; rw [← HK.out] at hF9; obtain ⟨n9, x9, y9, ⟨a9, c9, b9, d9, rfl, hx9, hy9⟩, hF9⟩ := hF9; clear p00 p01 p02; obtain ⟨p00, p01, p02, _⟩ := P5.cells
        go_wp2_with fail
        refine hK.out _ _ ?_ (fun hHeld => ?_)
        · (try dsimp only)
          exact ⟨A0.2, A1.2, A2.2⟩
        clear hK K
        try simp only [Act.put, pZ]
        refine hCall (i := 8) rfl (by kernel_rfl) (by rfl) (fun K hK => ?_)
        go_simp
        have hs := P5.lt
        obtain ⟨f1, f2, f3, f4, f5, f6⟩ := P5.cells
        try go_simp
        obtain ⟨u63, hU, C5, hbU, hK9, ho⟩ := set3_world P5 (.bool n9) (.slice a9 x9.length c9) (.slice b9 y9.length d9)
        rw [← hU]; clear hU f1 f2 f3 f4 f5 f6
        replace B0 := B0.other ho (by omega)
        replace hbW := hbU _ _ hbW (by omega)
        have hF9 : Fr u63 (.agg #[.bool n9, .slice a9 x9.length c9, .slice b9 y9.length d9]) (2 + 2 * (k + 1)) (alK l cs (k + 1)) := Fr.le (k := 2 + 2 * k + 2) ⟨_, _, _, ⟨_, _, _, _, rfl, hK9 _ _ _ hx9, hK9 _ _ _ hy9⟩, hF9⟩ (by omega)
        clear hbU hK9 ho hx9 hy9 A0 A1 A2
        obtain ⟨A0, A1, A2⟩ := HA.out _ hbW
        refine hK.out _ _ ?_ (fun hHeld => ?_)
        · (try dsimp only)
          exact ⟨A0.2, A1.2, A2.2⟩
        clear hK K
        try simp only [Act.put, pZ]
        refine wpAnyH_done (by kernel_rfl) ?_ _
        clear hHeld; go_wp2
        go_roundw
        case rel => exact ⟨k + 1, _, _, _, _, _, _, _, by omega, by go_num, C5, hF9, B0, hbW⟩
        case measure => simp [intOf]; omega
    · have gg : ¬ (k : Int) < (cs.length : Int) := by omega
      obtain rfl : z = 0 := HCZ.out hkc
      clear HCY HCZ
      have HA : Hid (∀ U, Below w.heap.size w U → Cl U b0 (off + k * 3) (.int .i64 st) ∧ Cl U b0 (off + k * 3 + 1) (.int .i64 pk) ∧ Cl U b0 (off + k * 3 + 2) (.int .i64 en)) := fun U hU => by
       have e : ∀ o, U.cell? ⟨b0, o, none⟩ = wr.cell? ⟨b0, o, none⟩ := fun o => (hU.cell (p := ⟨b0, o, none⟩) hb0).trans (hbW.cell (p := ⟨b0, o, none⟩) hb0).symm
       exact ⟨⟨Nat.lt_of_lt_of_le hb0 hU.size, (e _).trans e0⟩, ⟨Nat.lt_of_lt_of_le hb0 hU.size, (e _).trans e1⟩, ⟨Nat.lt_of_lt_of_le hb0 hU.size, (e _).trans e2⟩⟩
      go_upto_region 8 with fail
      obtain ⟨p00, p01, p02, _⟩ := P5.cells
      refine wp_region_held_drew (S := (fun u => u.cell? ⟨b0, off + k * 3, none⟩ = some (.int .i64 st) ∧ u.cell? ⟨b0, off + k * 3 + 1, none⟩ = some (.int .i64 pk) ∧ u.cell? ⟨b0, off + k * 3 + 2, none⟩ = some (.int .i64 en))) (by kernel_rfl) ?_ (fun hHeld => ?_)
      · (try dsimp only)
        go_keep
      have hdr : Below wr.heap.size wr wr.drew := Below.drew1
      generalize wr.drew = ud3 at hdr hHeld ⊢
      replace A0 := A0.below hdr; replace A1 := A1.below hdr; replace A2 := A2.below hdr; replace hF5 := hF5.below hdr; replace B0 := B0.below hdr; replace P5 := P5.below hdr
      replace hbW : Below w.heap.size w ud3 := hbW.trans (hdr.mono hbW.size)
      clear hdr; clear p00 p01 p02; obtain ⟨p00, p01, p02, _⟩ := P5.cells; refine hT 1 hHeld ?_; refine hT 2 hHeld ?_; refine hT 3 hHeld ?_; refine hT 4 hHeld ?_; refine hT 5 hHeld ?_
      refine wpAnyH_ready (rs := [0, 6]) (by kernel_rfl) (by simp) (hCons (i := 0) rfl (by rfl) (fun K hK => ?_) (hCons (i := 6) rfl (by rfl) (fun K hK => ?_) AllReadyH.nil))
      · go_simp
        refine hK.out _ _ ?_ (fun hHeld => ?_)
        · (try dsimp only)
          exact ⟨A0.2, A1.2, A2.2⟩
        clear hK K
        try simp only [Act.put, pZ]
        refine hCall (i := 6) rfl (by kernel_rfl) (by rfl) (fun K hK => ?_)
        go_simp
        refine (hpa _).mono ?_
        rintro e u1 ⟨v8, rfl, hF8, hb1⟩; replace A0 := A0.below hb1; replace A1 := A1.below hb1; replace A2 := A2.below hb1; replace hF5 := hF5.below hb1; replace B0 := B0.below hb1; replace P5 := P5.below hb1
        replace hbW : Below w.heap.size w u1 := hbW.trans (hb1.mono hbW.size)
        clear hb1; clear p00 p01 p02; obtain ⟨p00, p01, p02, _⟩ := P5.cells
        go_wp2_with fail
        refine hK.out _ _ ?_ (fun hHeld => ?_)
        · (try dsimp only)
          exact ⟨A0.2, A1.2, A2.2⟩
        clear hK K
        try simp only [Act.put, pZ]
        refine hCall (i := 7) rfl (by kernel_rfl) (by rfl) (fun K hK => ?_)
        go_simp
        refine (smul_any (2 + 2 * k) 2 (alK l cs k) q _ _ _ hF5.ct hF8.ct (by omega) (by decide) (by omega) (by decide)).mono ?_
        rintro e u2 ⟨v9, rfl, hF9, hb2⟩; replace A0 := A0.below hb2; replace A1 := A1.below hb2; replace A2 := A2.below hb2; replace hF5 := hF5.below hb2; replace B0 := B0.below hb2; replace hF8 := hF8.below hb2; replace P5 := P5.below hb2
        replace hbW : Below w.heap.size w u2 := hbW.trans (hb2.mono hbW.size)
        clear hb2; rw [← HK.out] at hF9; obtain ⟨n9, x9, y9, ⟨a9, c9, b9, d9, rfl, hx9, hy9⟩, hF9⟩ := hF9; clear p00 p01 p02; obtain ⟨p00, p01, p02, _⟩ := P5.cells
        go_wp2_with fail
        refine hK.out _ _ ?_ (fun hHeld => ?_)
        · (try dsimp only)
          exact ⟨A0.2, A1.2, A2.2⟩
        clear hK K
        try simp only [Act.put, pZ]
        refine hCall (i := 8) rfl (by kernel_rfl) (by rfl) (fun K hK => ?_)
        go_simp
        have hs := P5.lt
        obtain ⟨f1, f2, f3, f4, f5, f6⟩ := P5.cells
        try go_simp
        obtain ⟨u63, hU, C5, hbU, hK9, ho⟩ := set3_world P5 (.bool n9) (.slice a9 x9.length c9) (.slice b9 y9.length d9)
        rw [← hU]; clear hU f1 f2 f3 f4 f5 f6
        replace B0 := B0.other ho (by omega)
        replace hbW := hbU _ _ hbW (by omega)
        have hF9 : Fr u63 (.agg #[.bool n9, .slice a9 x9.length c9, .slice b9 y9.length d9]) (2 + 2 * (k + 1)) (alK l cs (k + 1)) := Fr.le (k := 2 + 2 * k + 2) ⟨_, _, _, ⟨_, _, _, _, rfl, hK9 _ _ _ hx9, hK9 _ _ _ hy9⟩, hF9⟩ (by omega)
        clear hbU hK9 ho hx9 hy9 A0 A1 A2
        obtain ⟨A0, A1, A2⟩ := HA.out _ hbW
        refine hK.out _ _ ?_ (fun hHeld => ?_)
        · (try dsimp only)
          exact ⟨A0.2, A1.2, A2.2⟩
        clear hK K
        try simp only [Act.put, pZ]
        refine wpAnyH_done (by kernel_rfl) ?_ _
        clear hHeld; go_wp2
        go_roundw
        case rel => exact ⟨k + 1, _, _, _, _, _, _, _, by omega, by go_num, C5, hF9, B0, hbW⟩
        case measure => simp [intOf]; omega
      · go_simp
        refine (hpa _).mono ?_
        rintro e u1 ⟨v8, rfl, hF8, hb1⟩; replace A0 := A0.below hb1; replace A1 := A1.below hb1; replace A2 := A2.below hb1; replace hF5 := hF5.below hb1; replace B0 := B0.below hb1; replace P5 := P5.below hb1
        replace hbW : Below w.heap.size w u1 := hbW.trans (hb1.mono hbW.size)
        clear hb1; clear p00 p01 p02; obtain ⟨p00, p01, p02, _⟩ := P5.cells
        go_wp2_with fail
        refine hK.out _ _ ?_ (fun hHeld => ?_)
        · (try dsimp only)
          exact ⟨A0.2, A1.2, A2.2⟩
        clear hK K
        try simp only [Act.put, pZ]
        refine hCall (i := 0) rfl (by kernel_rfl) (by rfl) (fun K hK => ?_)
        go_simp
        refine hK.out _ _ ?_ (fun hHeld => ?_)
        · (try dsimp only)
          exact ⟨A0.2, A1.2, A2.2⟩
        clear hK K
        try simp only [Act.put, pZ]
        refine hCall (i := 7) rfl (by kernel_rfl) (by rfl) (fun K hK => ?_)
        go_simp
        refine (smul_any (2 + 2 * k) 2 (alK l cs k) q _ _ _ hF5.ct hF8.ct (by omega) (by decide) (by omega) (by decide)).mono ?_
        rintro e u2 ⟨v9, rfl, hF9, hb2⟩; replace A0 := A0.below hb2; replace A1 := A1.below hb2; replace A2 := A2.below hb2; replace hF5 := hF5.below hb2; replace B0 := B0.below hb2; replace hF8 := hF8.below hb2; replace P5 := P5.below hb2
        replace hbW : Below w.heap.size w u2 := hbW.trans (hb2.mono hbW.size)
        clear hb2; rw [← HK.out] at hF9; obtain ⟨n9, x9, y9, ⟨a9, c9, b9, d9, rfl, hx9, hy9⟩, hF9⟩ := hF9; clear p00 p01 p02; obtain ⟨p00, p01, p02, _⟩ := P5.cells
        go_wp2_with fail
        refine hK.out _ _ ?_ (fun hHeld => ?_)
        · (try dsimp only)
          exact ⟨A0.2, A1.2, A2.2⟩
        clear hK K
        try simp only [Act.put, pZ]
        refine hCall (i := 8) rfl (by kernel_rfl) (by rfl) (fun K hK => ?_)
        go_simp
        have hs := P5.lt
        obtain ⟨f1, f2, f3, f4, f5, f6⟩ := P5.cells
        try go_simp
        obtain ⟨u63, hU, C5, hbU, hK9, ho⟩ := set3_world P5 (.bool n9) (.slice a9 x9.length c9) (.slice b9 y9.length d9)
        rw [← hU]; clear hU f1 f2 f3 f4 f5 f6
        replace B0 := B0.other ho (by omega)
        replace hbW := hbU _ _ hbW (by omega)
        have hF9 : Fr u63 (.agg #[.bool n9, .slice a9 x9.length c9, .slice b9 y9.length d9]) (2 + 2 * (k + 1)) (alK l cs (k + 1)) := Fr.le (k := 2 + 2 * k + 2) ⟨_, _, _, ⟨_, _, _, _, rfl, hK9 _ _ _ hx9, hK9 _ _ _ hy9⟩, hF9⟩ (by omega)
        clear hbU hK9 ho hx9 hy9 A0 A1 A2
        obtain ⟨A0, A1, A2⟩ := HA.out _ hbW
        refine hK.out _ _ ?_ (fun hHeld => ?_)
        · (try dsimp only)
          exact ⟨A0.2, A1.2, A2.2⟩
        clear hK K
        try simp only [Act.put, pZ]
        refine wpAnyH_done (by kernel_rfl) ?_ _
        clear hHeld; go_wp2
        go_roundw
        case rel => exact ⟨k + 1, _, _, _, _, _, _, _, by omega, by go_num, C5, hF9, B0, hbW⟩
        case measure => simp [intOf]; omega
  · obtain rfl : k = l.length := by omega
    obtain ⟨p0, p1, p2, _⟩ := P5.cells; obtain ⟨q1, q2, q3, q4, q5, q6⟩ := B0.cells
    have hs := B0.lt
    go_wp2
    refine ret3 (v := .agg #[.bool n5, .slice a5 x5 c5, .slice b5 y5 d5]) B0 rfl (fun U hU => by obtain ⟨r1, r2, r3, _⟩ := hU.cells; simp [results, Tryz.results122, go_sem, r1, r2, r3]) (fun U hU hK => ⟨_, rfl, hF5.moved hK, hU _ _ hbW (by omega)⟩)
end Go.Proofs.YtkmcodofnckdmaaGreat
