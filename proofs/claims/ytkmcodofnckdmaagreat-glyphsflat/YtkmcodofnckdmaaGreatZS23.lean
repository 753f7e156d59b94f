/-
  tents.All: the walk.
  tuples.Exact: the walk.
  foundryref12.Same, of two alike: the walk.
-/
import Derived.Test.YtkmcodofnckdmaaGreatZS22
import Derived.Test.YtkmcodofnckdmaaGreatZS17
import Derived.Test.YtkmcodofnckdmaaGreatZS15
import Derived.Deep.CutRange
import Derived.Test.YtkmcodofnckdmaaGreatZS10
import Derived.BigQuiet
import Derived.Deep.QuietTactic
import Derived.WalkSmall
import Derived.Outline
set_option maxHeartbeats 8000000
set_option maxRecDepth 100000
set_option linter.unusedSimpArgs false
set_option linter.unusedVariables false
namespace Go.Proofs.YtkmcodofnckdmaaGreat
open Go.RowKit Go.Maps
theorem callT_any (a : Option Addr) (cap : Nat) (l : List Te) (pa : Option Addr) (pc : Nat) (cs : List Int) (w : World) (h : Tz w a cap l) (hp : Ri w pa pc cs) (hl : l.length ≤ 1000) :
    Calls Tryz.prog 165 #[.slice a l.length cap, .slice pa cs.length pc] w fun e w' => ∃ v', e = .returned v' ∧ Fr w' v' (2 + 2 * l.length) (alQ l cs) ∧ Below w.heap.size w w' := by
 have k2 := h.lenB
 have k3 := hp.lenB
 have HH : Hid (Tz w a cap l) := h
 have HP : Hid (Ri w pa pc cs) := hp
 obtain ⟨W0, hW0, B0, hbW⟩ : ∃ W, W = w.alloc (.cells #[.bool false, .slice none 0 0, .slice none 0 0] 125) ∧ Box 125 W w.heap.size (.bool false) (.slice none 0 0) (.slice none 0 0) ∧ Below w.heap.size w W := ⟨_, rfl, Box.new _ _ _ _ _, al1 _⟩
 clear h hp
 go_enter Tryz.func165, Tryz.ntmps165
 go_wp2_with fail
 rw [← hW0]; clear hW0
 refine (whole_any 1 _ (by decide) (by decide)).mono ?_
 rintro e U1 ⟨v5, rfl, hF5, hb5⟩; replace B0 := B0.below hb5
 replace hbW := hbW.trans (hb5.mono hbW.size)
 clear hb5; obtain ⟨n5, x5, y5, ⟨a5, c5, b5, d5, rfl, hx5, hy5⟩, hF5⟩ := hF5
 have hlt := B0.lt
 have P5 := Box.new 125 U1 (.bool n5) (.slice a5 x5.length c5) (.slice b5 y5.length d5)
 have hF5 : Fr (U1.alloc (.cells #[.bool n5, .slice a5 x5.length c5, .slice b5 y5.length d5] 125)) (.agg #[.bool n5, .slice a5 x5.length c5, .slice b5 y5.length d5]) (2 + 2 * 0) (alK l cs 0) := Fr.below ⟨_, _, _, ⟨_, _, _, _, rfl, hx5, hy5⟩, hF5⟩ (al1 _)
 replace B0 := B0.alloc (.cells #[.bool n5, .slice a5 x5.length c5, .slice b5 y5.length d5] 125)
 replace hbW := hbW.alloc hbW.size (.cells #[.bool n5, .slice a5 x5.length c5, .slice b5 y5.length d5] 125)
 clear hx5 hy5; go_wp2
 go_loopw [12] (fun i wr => ∃ (k : Nat) (n5 : Bool) (a5 : Option Addr) (x5 c5 : Nat) (b5 : Option Addr) (y5 d5 : Nat), k ≤ l.length ∧ i = .int .i64 (k : Int) ∧ Box 125 wr U1.heap.size (.bool n5) (.slice a5 x5 c5) (.slice b5 y5 d5) ∧ Fr wr (.agg #[.bool n5, .slice a5 x5 c5, .slice b5 y5 d5]) (2 + 2 * k) (alK l cs k) ∧ Box 125 wr w.heap.size (.bool false) (.slice none 0 0) (.slice none 0 0) ∧ Below w.heap.size w wr) (fun i _ => l.length - (intOf i).toNat)
 case atStart => exact ⟨0, _, _, _, _, _, _, _, Nat.zero_le _, rfl, P5, hF5, B0, hbW⟩
 case round =>
  clear P5 hF5 B0 hbW; obtain ⟨k, n5, a5, x5, c5, b5, y5, d5, hk, rfl, P5, hF5, B0, hbW⟩ := hrel
  by_cases hkn : k < l.length
  · obtain ⟨b0, off, ea, hb0, e0, e1, e2⟩ := HH.out.at hbW k hkn
    subst ea
    obtain ⟨z, hz⟩ : ∃ z, cs.getD k 0 = z := ⟨_, rfl⟩
    have hzi : I64 z := by
     by_cases h1 : k < cs.length
     · rw [← hz]; exact HP.out.i64 h1
     · rw [← hz, List.getD_eq_getElem?_getD, List.getElem?_eq_none (by omega)]; exact ⟨by decide, by decide⟩
    have hco := fun U hU => coordOf_any pa pc cs k U hU (by omega)
    simp only [hz] at hco
    obtain ⟨t, ht⟩ : ∃ t, l.getD k Te.none = t := ⟨_, rfl⟩
    have HK : Hid (alK l cs (k + 1) = alK l cs k * paQ t z) := by show _ = _; rw [alK_succ, ht, hz]
    have HZ : Hid (paQ t z = 0 → alQ l cs = paQ t z) := fun e => by rw [e]; exact alQ_zero hkn (by rw [ht, hz]; exact e)
    rw [ht] at e0 e1 e2; clear ht hz
    have hpa := fun U => cpart_any t z U hzi
    obtain ⟨q, hq⟩ : ∃ q, paQ t z = q := ⟨_, rfl⟩
    simp only [hq] at hpa HK HZ
    clear hq hzi; obtain ⟨st, pk, en⟩ := t
    dsimp only at *
    obtain ⟨V, hV, X1, hb1⟩ : ∃ V, V = wr.alloc (.cells #[.int .i64 st, .int .i64 pk, .int .i64 en] 146) ∧ Box 146 V wr.heap.size (.int .i64 st) (.int .i64 pk) (.int .i64 en) ∧ Below wr.heap.size wr V := ⟨_, rfl, Box.new _ _ _ _ _, al1 _⟩
    have HP5 : Hid (Box 125 V U1.heap.size (.bool n5) (.slice a5 x5 c5) (.slice b5 y5 d5)) := P5.below hb1
    have HF5 : Hid (Fr V (.agg #[.bool n5, .slice a5 x5 c5, .slice b5 y5 d5]) (2 + 2 * k) (alK l cs k)) := hF5.below hb1
    have HB0 : Hid (Box 125 V w.heap.size (.bool false) (.slice none 0 0) (.slice none 0 0)) := B0.below hb1
    replace hbW := hbW.trans (hb1.mono hbW.size)
    have HBW : Hid (Below w.heap.size w V) := hbW
    have HX1 : Hid (Box 146 V wr.heap.size (.int .i64 st) (.int .i64 pk) (.int .i64 en)) := X1
    have hp := HP.out.below hbW
    clear P5 hF5 B0 hb1
    have hwr : IntKind.i64.wrap (k : Int) = k := wrapi64 (by omega) (by omega)
    go_upto_region 5 with fail
    rw [← hV]; clear hV e0 e1 e2
    go_cut [8] from 13 to 29 (fun s8 wx => ∃ (g8 : Nat) (n8 : Bool) (a8 : Option Addr) (x8 c8 : Nat) (b8 : Option Addr) (y8 d8 : Nat), s8 = .pointer (some ⟨g8, 0, none⟩) ∧ Box 125 wx g8 (.bool n8) (.slice a8 x8 c8) (.slice b8 y8 d8) ∧ Fr wx (.agg #[.bool n8, .slice a8 x8 c8, .slice b8 y8 d8]) 2 q ∧ V.heap.size ≤ g8 ∧ Below V.heap.size V wx)
    case first =>
     have hbR : Below V.heap.size V V := Below.refl _ _
     obtain ⟨p00, p01, p02, _⟩ := X1.cells
     refine wp_region_held_drew (S := (fun u => u.cell? ⟨wr.heap.size, 0, none⟩ = some (.int .i64 st) ∧ u.cell? ⟨wr.heap.size, 1, none⟩ = some (.int .i64 pk) ∧ u.cell? ⟨wr.heap.size, 2, none⟩ = some (.int .i64 en))) (by kernel_rfl) ?_ (fun hHeld => ?_)
     · (try dsimp only)
       go_keep
     have hdr : Below V.heap.size V V.drew := Below.drew1
     generalize V.drew = ud1 at hdr hHeld ⊢
     replace hp := hp.below hdr; replace X1 := X1.below hdr
     replace hbW : Below w.heap.size w ud1 := hbW.trans (hdr.mono hbW.size)
     replace hbR : Below V.heap.size V ud1 := hbR.trans (hdr.mono hbR.size)
     clear hdr; clear p00 p01 p02; obtain ⟨p00, p01, p02, _⟩ := X1.cells; refine hT 0 hHeld ?_; refine hT 1 hHeld ?_; refine hT 2 hHeld ?_
     refine wpAnyH_ready (rs := [3, 5]) (by kernel_rfl) (by simp) (hCons (i := 3) rfl (by rfl) (fun K hK => ?_) (hCons (i := 5) rfl (by rfl) (fun K hK => ?_) AllReadyH.nil))
     · go_simp
       refine (hco _ hp).mono ?_
       rintro e u1 ⟨rfl, hb1⟩; replace hp := hp.below hb1; replace X1 := X1.below hb1
       replace hbW : Below w.heap.size w u1 := hbW.trans (hb1.mono hbW.size)
       replace hbR : Below V.heap.size V u1 := hbR.trans (hb1.mono hbR.size)
       clear hb1; clear p00 p01 p02; obtain ⟨p00, p01, p02, _⟩ := X1.cells
       go_wp2_with fail
       refine hK.out _ _ ?_ (fun hHeld => ?_)
       · (try dsimp only)
         exact ⟨p00, p01, p02⟩
       clear hK K
       try simp only [Act.put, pZ]
       refine wpAnyH_ready (rs := [4, 5]) (by kernel_rfl) (by simp) (hCons (i := 4) rfl (by rfl) (fun K hK => ?_) (hCons (i := 5) rfl (by rfl) (fun K hK => ?_) AllReadyH.nil))
       · go_simp
         refine (hpa _).mono ?_
         rintro e u2 ⟨v8, rfl, hF8, hb2⟩; replace hp := hp.below hb2; replace X1 := X1.below hb2
         replace hbW : Below w.heap.size w u2 := hbW.trans (hb2.mono hbW.size)
         replace hbR : Below V.heap.size V u2 := hbR.trans (hb2.mono hbR.size)
         clear hb2; obtain ⟨n8, x8, y8, ⟨a8, c8, b8, d8, rfl, hx8, hy8⟩, hF8⟩ := hF8; clear p00 p01 p02; obtain ⟨p00, p01, p02, _⟩ := X1.cells
         go_wp2_with fail
         refine hK.out _ _ ?_ (fun hHeld => ?_)
         · (try dsimp only)
           exact ⟨p00, p01, p02⟩
         clear hK K
         try simp only [Act.put, pZ]
         refine hCall (i := 5) rfl (by kernel_rfl) (by rfl) (fun K hK => ?_)
         go_simp
         obtain ⟨u63, hU, B8, hb9⟩ : ∃ U, U = u2.alloc (.cells #[.bool false, .slice none 0 0, .slice none 0 0] 125) ∧ Box 125 U u2.heap.size (.bool false) (.slice none 0 0) (.slice none 0 0) ∧ Below u2.heap.size u2 U := ⟨_, rfl, Box.new _ _ _ _ _, al1 _⟩
         rw [← hU]; clear hU
         have n81 := hbR.size
         have n82 := hbW.size
         replace hp := hp.below hb9; replace hx8 := hx8.below hb9; replace hy8 := hy8.below hb9; replace X1 := X1.below hb9
         replace hbW : Below w.heap.size w u63 := hbW.trans (hb9.mono hbW.size)
         replace hbR : Below V.heap.size V u63 := hbR.trans (hb9.mono hbR.size)
         clear hb9
         generalize u2.heap.size = g8 at B8 n81 n82 ⊢
         clear p00 p01 p02; obtain ⟨p00, p01, p02, _⟩ := X1.cells; obtain ⟨p10, p11, p12, _⟩ := B8.cells
         refine hK.out _ _ ?_ (fun hHeld => ?_)
         · (try dsimp only)
           exact ⟨p00, p01, p02⟩
         clear hK K
         try simp only [Act.put, pZ]
         refine hCall (i := 6) rfl (by kernel_rfl) (by rfl) (fun K hK => ?_)
         go_simp
         obtain ⟨u64, hU, A8, hbU, hK9, ho⟩ := set3_world B8 (.bool n8) (.slice a8 x8.length c8) (.slice b8 y8.length d8)
         rw [← hU]; clear hU
         replace hbW := hbU _ _ hbW (by omega)
         replace hbR := hbU _ _ hbR (by omega)
         replace hx8 := hK9 _ _ _ hx8
         replace hy8 := hK9 _ _ _ hy8
         clear hbU hK9 ho X1
         have X1 := HX1.out.below hbR
         clear p00 p01 p02 p10 p11 p12; obtain ⟨p00, p01, p02, _⟩ := X1.cells; obtain ⟨p10, p11, p12, _⟩ := A8.cells
         refine hK.out _ _ ?_ (fun hHeld => ?_)
         · (try dsimp only)
           exact ⟨p00, p01, p02⟩
         clear hK K
         try simp only [Act.put, pZ]
         refine wpAnyH_done (by kernel_rfl) ?_ _
         clear hHeld
         go_wp2_with fail
         go_meet
         exact ⟨g8, _, _, _, _, _, _, _, rfl, A8, ⟨_, _, _, ⟨_, _, _, _, rfl, hx8, hy8⟩, hF8⟩, n81, hbR⟩
       · go_simp
         obtain ⟨u62, hU, B8, hb9⟩ : ∃ U, U = u1.alloc (.cells #[.bool false, .slice none 0 0, .slice none 0 0] 125) ∧ Box 125 U u1.heap.size (.bool false) (.slice none 0 0) (.slice none 0 0) ∧ Below u1.heap.size u1 U := ⟨_, rfl, Box.new _ _ _ _ _, al1 _⟩
         rw [← hU]; clear hU
         have n81 := hbR.size
         have n82 := hbW.size
         replace hp := hp.below hb9; replace X1 := X1.below hb9
         replace hbW : Below w.heap.size w u62 := hbW.trans (hb9.mono hbW.size)
         replace hbR : Below V.heap.size V u62 := hbR.trans (hb9.mono hbR.size)
         clear hb9
         generalize u1.heap.size = g8 at B8 n81 n82 ⊢
         clear p00 p01 p02; obtain ⟨p00, p01, p02, _⟩ := X1.cells; obtain ⟨p10, p11, p12, _⟩ := B8.cells
         refine hK.out _ _ ?_ (fun hHeld => ?_)
         · (try dsimp only)
           exact ⟨p00, p01, p02⟩
         clear hK K
         try simp only [Act.put, pZ]
         refine hCall (i := 4) rfl (by kernel_rfl) (by rfl) (fun K hK => ?_)
         go_simp
         refine (hpa _).mono ?_
         rintro e u3 ⟨v8, rfl, hF8, hb3⟩; replace hp := hp.below hb3; replace X1 := X1.below hb3; replace B8 := B8.below hb3
         replace hbW : Below w.heap.size w u3 := hbW.trans (hb3.mono hbW.size)
         replace hbR : Below V.heap.size V u3 := hbR.trans (hb3.mono hbR.size)
         clear hb3; obtain ⟨n8, x8, y8, ⟨a8, c8, b8, d8, rfl, hx8, hy8⟩, hF8⟩ := hF8; clear p00 p01 p02 p10 p11 p12; obtain ⟨p00, p01, p02, _⟩ := X1.cells; obtain ⟨p10, p11, p12, _⟩ := B8.cells
         go_wp2_with fail
         refine hK.out _ _ ?_ (fun hHeld => ?_)
         · (try dsimp only)
           exact ⟨p00, p01, p02⟩
         clear hK K
         try simp only [Act.put, pZ]
         refine hCall (i := 6) rfl (by kernel_rfl) (by rfl) (fun K hK => ?_)
         go_simp
         obtain ⟨u64, hU, A8, hbU, hK9, ho⟩ := set3_world B8 (.bool n8) (.slice a8 x8.length c8) (.slice b8 y8.length d8)
         rw [← hU]; clear hU
         replace hbW := hbU _ _ hbW (by omega)
         replace hbR := hbU _ _ hbR (by omega)
         replace hx8 := hK9 _ _ _ hx8
         replace hy8 := hK9 _ _ _ hy8
         clear hbU hK9 ho X1
         have X1 := HX1.out.below hbR
         clear p00 p01 p02 p10 p11 p12; obtain ⟨p00, p01, p02, _⟩ := X1.cells; obtain ⟨p10, p11, p12, _⟩ := A8.cells
         refine hK.out _ _ ?_ (fun hHeld => ?_)
         · (try dsimp only)
           exact ⟨p00, p01, p02⟩
         clear hK K
         try simp only [Act.put, pZ]
         refine wpAnyH_done (by kernel_rfl) ?_ _
         clear hHeld
         go_wp2_with fail
         go_meet
         exact ⟨g8, _, _, _, _, _, _, _, rfl, A8, ⟨_, _, _, ⟨_, _, _, _, rfl, hx8, hy8⟩, hF8⟩, n81, hbR⟩
     · go_simp
       obtain ⟨u61, hU, B8, hb9⟩ : ∃ U, U = ud1.alloc (.cells #[.bool false, .slice none 0 0, .slice none 0 0] 125) ∧ Box 125 U ud1.heap.size (.bool false) (.slice none 0 0) (.slice none 0 0) ∧ Below ud1.heap.size ud1 U := ⟨_, rfl, Box.new _ _ _ _ _, al1 _⟩
       rw [← hU]; clear hU
       have n81 := hbR.size
       have n82 := hbW.size
       replace hp := hp.below hb9; replace X1 := X1.below hb9
       replace hbW : Below w.heap.size w u61 := hbW.trans (hb9.mono hbW.size)
       replace hbR : Below V.heap.size V u61 := hbR.trans (hb9.mono hbR.size)
       clear hb9
       generalize ud1.heap.size = g8 at B8 n81 n82 ⊢
       clear p00 p01 p02; obtain ⟨p00, p01, p02, _⟩ := X1.cells; obtain ⟨p10, p11, p12, _⟩ := B8.cells
       refine hK.out _ _ ?_ (fun hHeld => ?_)
       · (try dsimp only)
         exact ⟨p00, p01, p02⟩
       clear hK K
       try simp only [Act.put, pZ]
       refine hCall (i := 3) rfl (by kernel_rfl) (by rfl) (fun K hK => ?_)
       go_simp
       refine (hco _ hp).mono ?_
       rintro e u2 ⟨rfl, hb2⟩; replace hp := hp.below hb2; replace X1 := X1.below hb2; replace B8 := B8.below hb2
       replace hbW : Below w.heap.size w u2 := hbW.trans (hb2.mono hbW.size)
       replace hbR : Below V.heap.size V u2 := hbR.trans (hb2.mono hbR.size)
       clear hb2; clear p00 p01 p02 p10 p11 p12; obtain ⟨p00, p01, p02, _⟩ := X1.cells; obtain ⟨p10, p11, p12, _⟩ := B8.cells
       go_wp2_with fail
       refine hK.out _ _ ?_ (fun hHeld => ?_)
       · (try dsimp only)
         exact ⟨p00, p01, p02⟩
       clear hK K
       try simp only [Act.put, pZ]
       refine hCall (i := 4) rfl (by kernel_rfl) (by rfl) (fun K hK => ?_)
       go_simp
       refine (hpa _).mono ?_
       rintro e u3 ⟨v8, rfl, hF8, hb3⟩; replace hp := hp.below hb3; replace X1 := X1.below hb3; replace B8 := B8.below hb3
       replace hbW : Below w.heap.size w u3 := hbW.trans (hb3.mono hbW.size)
       replace hbR : Below V.heap.size V u3 := hbR.trans (hb3.mono hbR.size)
       clear hb3; obtain ⟨n8, x8, y8, ⟨a8, c8, b8, d8, rfl, hx8, hy8⟩, hF8⟩ := hF8; clear p00 p01 p02 p10 p11 p12; obtain ⟨p00, p01, p02, _⟩ := X1.cells; obtain ⟨p10, p11, p12, _⟩ := B8.cells
       go_wp2_with fail
       refine hK.out _ _ ?_ (fun hHeld => ?_)
       · (try dsimp only)
         exact ⟨p00, p01, p02⟩
       clear hK K
       try simp only [Act.put, pZ]
       refine hCall (i := 6) rfl (by kernel_rfl) (by rfl) (fun K hK => ?_)
       go_simp
       obtain ⟨u64, hU, A8, hbU, hK9, ho⟩ := set3_world B8 (.bool n8) (.slice a8 x8.length c8) (.slice b8 y8.length d8)
       rw [← hU]; clear hU
       replace hbW := hbU _ _ hbW (by omega)
       replace hbR := hbU _ _ hbR (by omega)
       replace hx8 := hK9 _ _ _ hx8
       replace hy8 := hK9 _ _ _ hy8
       clear hbU hK9 ho X1
       have X1 := HX1.out.below hbR
       clear p00 p01 p02 p10 p11 p12; obtain ⟨p00, p01, p02, _⟩ := X1.cells; obtain ⟨p10, p11, p12, _⟩ := A8.cells
       refine hK.out _ _ ?_ (fun hHeld => ?_)
       · (try dsimp only)
         exact ⟨p00, p01, p02⟩
       clear hK K
       try simp only [Act.put, pZ]
       refine wpAnyH_done (by kernel_rfl) ?_ _
       clear hHeld
       go_wp2_with fail
       go_meet
       exact ⟨g8, _, _, _, _, _, _, _, rfl, A8, ⟨_, _, _, ⟨_, _, _, _, rfl, hx8, hy8⟩, hF8⟩, n81, hbR⟩
    case rest =>
     clear hbW hp X1 hco hpa; obtain ⟨g8, n8, a8, x8, c8, b8, y8, d8, rfl, A8, hF8, n81, hbR⟩ := hcut
     have P5 := HP5.out.below hbR
     have hF5 := HF5.out.below hbR
     have B0 := HB0.out.below hbR
     have hbW := HBW.out.trans (hbR.mono HBW.out.size)
     have s1 := HP5.out.lt
     have s2 := HBW.out.size
     clear hbR; obtain ⟨p0, p1, p2, _⟩ := A8.cells
     go_wp2_with fail
     refine (qsign_any 2 q _ _ hF8.ct (by decide) (by decide)).mono ?_
     rintro e u7 ⟨rfl, hb7⟩; replace A8 := A8.below hb7; replace hF8 := hF8.below hb7; replace P5 := P5.below hb7; replace hF5 := hF5.below hb7; replace B0 := B0.below hb7
     replace hbW := hbW.trans (hb7.mono hbW.size)
     clear hb7 p0 p1 p2; obtain ⟨p0, p1, p2, _⟩ := A8.cells
     by_cases hq : q = 0
     · have HQ : Hid (alQ l cs = q) := HZ.out hq
       have e1 : sgnQ q = 0 := sgnQ_zero.2 hq
       rw [e1]; clear e1 hq; obtain ⟨q1, q2, q3, q4, q5, q6⟩ := B0.cells
       have hs := B0.lt
       go_wp2
       refine ret3 (v := .agg #[.bool n8, .slice a8 x8 c8, .slice b8 y8 d8]) B0 rfl (fun U hU => by obtain ⟨r1, r2, r3, _⟩ := hU.cells; simp [results, Tryz.results165, go_sem, r1, r2, r3]) (fun U hU hK => ⟨_, rfl, by rw [HQ.out]; exact (hF8.moved hK).le (by omega), hU _ _ hbW (by omega)⟩)
     · have e1 : ¬ sgnQ q = 0 := fun e => hq (sgnQ_zero.1 e)
       have g1 : (sgnQ q == 0) = false := by simp [e1]
       generalize sgnQ q = s at *
       clear e1 hq; obtain ⟨q1, q2, q3, _⟩ := P5.cells
       go_wp2_with fail
       refine (qmul_any (2 + 2 * k) 2 (alK l cs k) q _ _ _ hF5.ct hF8.ct (by omega) (by decide) (by omega) (by decide)).mono ?_
       rintro e u8 ⟨v9, rfl, hF9, hb8⟩; rw [← HK.out] at hF9; replace P5 := P5.below hb8; replace B0 := B0.below hb8
       replace hbW := hbW.trans (hb8.mono hbW.size)
       clear hb8 hF5 hF8 A8 p0 p1 p2 q1 q2 q3; obtain ⟨n9, x9, y9, ⟨a9, c9, b9, d9, rfl, hx9, hy9⟩, hF9⟩ := hF9; obtain ⟨q1, q2, q3, q4, q5, q6⟩ := P5.cells
       have hs := P5.lt
       go_wp2
       obtain ⟨U9, hU9, C5, hbU, hK9, ho⟩ := set3_world P5 (.bool n9) (.slice a9 x9.length c9) (.slice b9 y9.length d9)
       rw [← hU9]
       replace B0 := B0.other ho (by omega)
       replace hbW := hbU _ _ hbW (by omega)
       have hF9 : Fr U9 (.agg #[.bool n9, .slice a9 x9.length c9, .slice b9 y9.length d9]) (2 + 2 * (k + 1)) (alK l cs (k + 1)) := Fr.le (k := 2 + 2 * k + 2) ⟨_, _, _, ⟨_, _, _, _, rfl, hK9 _ _ _ hx9, hK9 _ _ _ hy9⟩, hF9⟩ (by omega)
       clear hU9 hbU hK9 ho hx9 hy9
       go_roundw
       case rel => exact ⟨k + 1, _, _, _, _, _, _, _, by omega, by go_num, C5, hF9, B0, hbW⟩
       case measure => simp [intOf]; omega
  · obtain rfl : k = l.length := by omega
    obtain ⟨p0, p1, p2, _⟩ := P5.cells; obtain ⟨q1, q2, q3, q4, q5, q6⟩ := B0.cells
    have hs := B0.lt
    go_wp2
    refine ret3 (v := .agg #[.bool n5, .slice a5 x5 c5, .slice b5 y5 d5]) B0 rfl (fun U hU => by obtain ⟨r1, r2, r3, _⟩ := hU.cells; simp [results, Tryz.results165, go_sem, r1, r2, r3]) (fun U hU hK => ⟨_, rfl, hF5.moved hK, hU _ _ hbW (by omega)⟩)
theorem R22.two {base : Nat} {w4 w5 w6 w7 : World} {vx vy : Value} {K : Nat} {X' Y' : List (List Rat)} {BX BY : Nat → Prop} (h3 : ∀ k, BX k → ¬ BY k) (h4 : ∀ k, BX k → base ≤ k ∧ k < w4.heap.size) (h5 : ∀ k, BY k → base ≤ k ∧ k < w4.heap.size) (hw : w4.heap.size ≤ w5.heap.size) (hx : Rr (fun k => BX k ∨ w5.heap.size ≤ k) w6 vx K X') (k1 : Kn BX w5 w6) (hy : Rr (fun k => BY k ∨ w6.heap.size ≤ k) w7 vy K Y') (k2 : Kn BY w6 w7) (hb : base ≤ w4.heap.size) : R22 base w7 vx vy K X' Y' := by
 have s1 := k1.size
 have s2 := k2.size
 refine ⟨fun k => (BX k ∨ w5.heap.size ≤ k) ∧ k < w6.heap.size, fun k => (BY k ∨ w6.heap.size ≤ k) ∧ k < w7.heap.size, (hx.mono (fun k h1 h2 => ⟨h1, h2⟩)).kn k2 (fun k hk hy => ?_), hy.mono (fun k h1 h2 => ⟨h1, h2⟩), fun k hk hy => ?_, fun k hk => ?_, fun k hk => ?_⟩
 · rcases hk.1 with h | h
   · exact h3 k h hy
   · have := (h5 k hy).2; omega
 · rcases hk.1 with h | h
   · rcases hy.1 with h' | h'
     · exact h3 k h h'
     · omega
   · rcases hy.1 with h' | h'
     · have := (h5 k h').2; omega
     · omega
 · rcases hk.1 with h | h
   · have := (h4 k h).1; omega
   · omega
 · rcases hk.1 with h | h
   · have := (h5 k h).1; omega
   · omega
def exA (f : Pn → Int) (g : Pa → Int) (tl : Tu → List Int) (o : Ol) (l : List Tu) (cs : List Int) : List Rat := if foT o l (cs.length : Int) = true then exL f g tl o l cs else []
def exE (o : Ol) (l : List Tu) (cs : List Int) : Int := if foT o l (cs.length : Int) = true then 0 else 1
theorem exA_no {f : Pn → Int} {g : Pa → Int} {tl : Tu → List Int} {o : Ol} {l : List Tu} {cs : List Int} (h : foT o l (cs.length : Int) = false) : exA f g tl o l cs = [] := by unfold exA; rw [h]; rfl
theorem exE_no {o : Ol} {l : List Tu} {cs : List Int} (h : foT o l (cs.length : Int) = false) : exE o l cs = 1 := by unfold exE; rw [h]; rfl
theorem exA_yes {f : Pn → Int} {g : Pa → Int} {tl : Tu → List Int} {o : Ol} {l : List Tu} {cs : List Int} (h : foT o l (cs.length : Int) = true) : exA f g tl o l cs = exL f g tl o l cs := if_pos h
theorem exE_yes {o : Ol} {l : List Tu} {cs : List Int} (h : foT o l (cs.length : Int) = true) : exE o l cs = 0 := if_pos h
theorem tu_spread {o : Ol} {t : Tu} {ax : Int} (hf : foB o = true) (h : tuB t (cntO o) ax = true) : spL Pn.x o (nmd t) t.dx t.dx t.dy = spQ Pn.x o (nmd t) t.dx ∧ spL Pn.y o (nmd t) t.dy t.dx t.dy = spQ Pn.y o (nmd t) t.dy ∧ spE o (nmd t) t.dx t.dy = 0 ∧ (spQ Pn.x o (nmd t) t.dx).length = cntO o ∧ (spQ Pn.y o (nmd t) t.dy).length = cntO o ∧ t.dx.length ≤ 86 ∧ t.rg.length ≤ 4 ∨ ¬ (0 ≤ ax ∧ ax ≤ 4) := by
 by_cases hax : 0 ≤ ax ∧ ax ≤ 4
 · left
   have hF := foB_iff.1 hf
   have hs := tu_fits hf h
   obtain ⟨h1, h2, h3, h4⟩ := tuB_iff.1 h
   have hx : ∀ z ∈ t.dx, -32768 ≤ z ∧ z ≤ 32767 := fun z hz => fdB_iff.1 (List.all_eq_true.1 h3 z hz)
   have hy : ∀ z ∈ t.dy, -32768 ≤ z ∧ z ≤ 32767 := fun z hz => fdB_iff.1 (List.all_eq_true.1 h4 z hz)
   have hc := cnt_le hf
   have hl := (nmd_len h2).1
   have hr := rise_le (nmd_ris h2)
   have hrl : (t.rg.length : Int) = ax := by unfold rgB at h1; rw [Bool.and_eq_true, decide_eq_true_iff] at h1; exact h1.2
   exact ⟨spL_yes hs, spL_yes hs, spE_yes hs, spQ_len hF (fun p hp => (hF.2.2.2.2.2.1 p hp).1) hx, spQ_len hF (fun p hp => (hF.2.2.2.2.2.1 p hp).2) hy, by omega, by omega⟩
 · exact .inr hax
theorem uexact_any (S : Nat → Prop) (a : Option Addr) (ca : Nat) (b : Option Addr) (cb : Nat) (o : Ol) (S2 : Nat → Prop) (la : Option Addr) (lc : Nat) (l : List Tu) (ga : Option Addr) (gc : Nat) (cs : List Int) (w : World) (hc : Gr PnE.row S w a ca o.cs) (hp : Gr PaE S w b cb o.ps) (hl : Gr TuE S2 w la lc l) (hg : Ri w ga gc cs) :
    Calls Tryz.prog 118 #[.agg #[.slice a o.cs.length ca, .slice b o.ps.length cb], .slice la l.length lc, .slice ga cs.length gc] w fun e w' => ∃ a1 c1 a2 c2, e = .returned (.tuple #[.slice a1 (exA Pn.x Pa.dx Tu.dx o l cs).length c1, .slice a2 (exA Pn.y Pa.dy Tu.dy o l cs).length c2, .int .i64 (exE o l cs)]) ∧ Rg w.heap.size w' a1 c1 900 (exA Pn.x Pa.dx Tu.dx o l cs) ∧ Rg w.heap.size w' a2 c2 900 (exA Pn.y Pa.dy Tu.dy o l cs) ∧ Below w.heap.size w w' := by
 have kl := hl.lenB
 have kg := hg.lenB
 obtain ⟨W, hW, X1, hbW⟩ : ∃ W, W = w.alloc (.cells #[.slice a o.cs.length ca, .slice b o.ps.length cb] 57) ∧ Bk 57 W w.heap.size [.slice a o.cs.length ca, .slice b o.ps.length cb] ∧ Below w.heap.size w W := ⟨_, rfl, Bk.new _ _ _, bl1 _⟩
 replace hc := hc.below hbW; replace hp := hp.below hbW; replace hl := hl.below hbW; replace hg := hg.below hbW; obtain ⟨p0, p1, _⟩ := X1.two
 have hf1 := cformU_any S a ca b cb o S2 la lc l (cs.length : Int) W hc hp hl (by unfold I64; omega)
 cases hfo : foT o l (cs.length : Int) with
 | false =>
  rw [hfo] at hf1; rw [exA_no hfo, exA_no hfo, exE_no hfo]; clear hfo
  go_enter Tryz.func118, Tryz.ntmps118
  go_upto_region 1 with fail
  rw [← hW]; clear hW
  go_wp2_with fail
  refine hf1.mono ?_
  rintro e m2 ⟨rfl, hb1⟩
  have hfin := hbW.trans (hb1.mono hbW.size)
  clear hb1 hf1; go_wp2
  exact bodyPost_ret (v := .tuple #[.slice none 0 0, .slice none 0 0, .int .i64 1]) (by simp [results, Tryz.results118, go_sem]) rfl ⟨none, 0, none, 0, rfl, Rg.nil _ _ _, Rg.nil _ _ _, hfin⟩
 | true =>
 rw [hfo] at hf1; rw [exA_yes hfo, exA_yes hfo, exE_yes hfo]
 obtain ⟨hF1, hF2, hF3, hF4⟩ := foT_iff.1 hfo
 have hFO := foB_iff.1 hF1
 have HOL : Hid (o.cs.flatten.length ≤ 80 ∧ o.ps.length ≤ 6 ∧ o.cs.length ≤ 10) := ⟨hFO.2.2.2.2.1, hFO.2.2.1, hFO.2.1⟩
 have HCN : Hid (cntO o ≤ 86) := cnt_le hF1
 have HSP : Hid (∀ k, k < l.length → _) := fun k hk => (tu_spread hF1 (hF4 k hk)).resolve_right (fun h => h hF2)
 clear hFO hF1 hF4 hfo
 go_enter Tryz.func118, Tryz.ntmps118
 go_upto_region 1 with fail
 rw [← hW]; clear hW
 go_wp2_with fail
 refine hf1.mono ?_
 rintro e m1 ⟨rfl, hb1⟩; replace hc := hc.below hb1; replace hp := hp.below hb1; replace hl := hl.below hb1; replace hg := hg.below hb1; replace X1 := X1.below hb1
 replace hbW := hbW.trans (hb1.mono hbW.size)
 clear hb1 hf1 p0 p1; obtain ⟨p0, p1, _⟩ := X1.two
 have hx1 := X1.lt
 go_wp2_with fail
 refine (ubases_any S a ca b cb o _ hc hp (by have := HOL.out; omega) (by have := HOL.out; omega)).mono ?_
 rintro e m2 ⟨vx, vy, rfl, hR0, hb1⟩
 have HC : Hid (Gr PnE.row S m1 a ca o.cs) := hc
 have HP : Hid (Gr PaE S m1 b cb o.ps) := hp
 have HL : Hid (Gr TuE S2 m1 la lc l) := hl
 have HG : Hid (Ri m1 ga gc cs) := hg
 have HX : Hid (Bk 57 m1 w.heap.size [.slice a o.cs.length ca, .slice b o.ps.length cb]) := X1
 have HBW : Hid (Below w.heap.size w m1) := hbW
 have HB1 : Hid (Below m1.heap.size m1 m2) := hb1
 have HR0 : Hid (R22 m1.heap.size m2 vx vy 20 (wz1 (baQ Pn.x Pa.dx o)) (wz1 (baQ Pn.y Pa.dy o))) := hR0
 clear hc hp hl hg X1 hbW hb1 hR0 p0 p1
 obtain ⟨exx, hexx⟩ : ∃ q, exL Pn.x Pa.dx Tu.dx o l cs = q := ⟨_, rfl⟩
 obtain ⟨exy, hexy⟩ : ∃ q, exL Pn.y Pa.dy Tu.dy o l cs = q := ⟨_, rfl⟩
 have HEX : Hid (exL Pn.x Pa.dx Tu.dx o l cs = exx) := hexx
 have HEY : Hid (exL Pn.y Pa.dy Tu.dy o l cs = exy) := hexy
 clear hexx hexy; go_wp2
 go_loopw [30] (fun i wr => ∃ (k : Nat) (X Y : List (List Rat)), k ≤ l.length ∧ i = .int .i64 k ∧ TmI Pn.x Pa.dx Tu.dx o l cs k X ∧ TmI Pn.y Pa.dy Tu.dy o l cs k Y ∧ R22 m1.heap.size wr vx vy 20 X Y ∧ Below m1.heap.size m1 wr) (fun i _ => l.length - (intOf i).toNat)
 case atStart => exact ⟨0, _, _, Nat.zero_le _, rfl, TmI.start _ _ _ _ _ _, TmI.start _ _ _ _ _ _, HR0.out, HB1.out⟩
 case round =>
  clear HR0 HB1; obtain ⟨k, X, Y, hk, rfl, hTX, hTY, hR, hB⟩ := hrel
  have HTX : Hid (TmI Pn.x Pa.dx Tu.dx o l cs k X) := hTX
  have HTY : Hid (TmI Pn.y Pa.dy Tu.dy o l cs k Y) := hTY
  clear hTX hTY
  by_cases hkn : k < l.length
  · obtain ⟨BX, BY, hx, hy, h3, h4, h5⟩ := hR
    have hBs := hB.size
    obtain ⟨b0, off, ra, rc, pa, pc, xa, xc, ya, yc, ea, hb, ht, d0, d1, d2, d3, d4⟩ := HL.out.tu hB k hkn
    subst ea
    obtain ⟨s1, s2, s3, s4, s5, s6, s7⟩ := HSP.out k hkn
    have HZX : Hid (alQ (l.getD k Tu.none).rg cs = 0 → TmI Pn.x Pa.dx Tu.dx o l cs (k + 1) X) := fun h0 => HTX.out.skip hkn h0
    have HZY : Hid (alQ (l.getD k Tu.none).rg cs = 0 → TmI Pn.y Pa.dy Tu.dy o l cs (k + 1) Y) := fun h0 => HTY.out.skip hkn h0
    have HNX : Hid (_) := HTX.out.step hkn s4
    have HNY : Hid (_) := HTY.out.step hkn s5
    obtain ⟨t, htt⟩ : ∃ t, l.getD k Tu.none = t := ⟨_, rfl⟩
    rw [htt] at ht d0 d1 d2 d3 d4 HZX HZY HNX HNY s1 s2 s3 s4 s5 s6 s7
    have HS4 : Hid ((spQ Pn.x o (nmd t) t.dx).length = cntO o) := s4
    have HS5 : Hid ((spQ Pn.y o (nmd t) t.dy).length = cntO o) := s5
    have HSS : Hid (_ ∧ _ ∧ _) := ⟨s1, s2, s3⟩
    clear htt s1 s2 s3 s4 s5
    have i1 : (0 : Int) ≤ (k : Int) := by omega
    have i2 : (k : Int) < (l.length : Int) := by omega
    obtain ⟨V, hV, X0, hb0⟩ : ∃ V, V = wr.alloc (.cells #[.slice ra t.rg.length rc, .bool t.al, .slice pa t.pts.length pc, .slice xa t.dx.length xc, .slice ya t.dy.length yc] 144) ∧ Bk 144 V wr.heap.size [.slice ra t.rg.length rc, .bool t.al, .slice pa t.pts.length pc, .slice xa t.dx.length xc, .slice ya t.dy.length yc] ∧ Below wr.heap.size wr V := ⟨_, rfl, Bk.new _ _ _, bl1 _⟩
    replace ht := ht.below hb0; replace hx := hx.below hb0; replace hy := hy.below hb0
    have hwc := hb0.size
    replace hB := hB.trans (hb0.mono hB.size)
    obtain ⟨q0, q1, q2, q3, q4, _⟩ := X0.five
    go_upto_region 7 with fail
    rw [← hV]; clear hV d0 d1 d2 d3 d4 hb0
    go_wp2_with fail
    refine (callT_any ra rc t.rg ga gc cs _ ht.tz (HG.out.below hB) (by omega)).mono ?_
    rintro e y1 ⟨v1, rfl, hFp, hb1⟩
    replace hFp := hFp.le (show 2 + 2 * t.rg.length ≤ 10 by omega)
    obtain ⟨z1, x1, x2, x3, x4, x5, x6, rfl⟩ := hFp.cells3'
    obtain ⟨V2, hV2, X2, hb2⟩ : ∃ V, V = y1.alloc (.cells #[.bool z1, .slice x1 x2 x3, .slice x4 x5 x6] 125) ∧ Bk 125 V y1.heap.size [.bool z1, .slice x1 x2 x3, .slice x4 x5 x6] ∧ Below y1.heap.size y1 V := ⟨_, rfl, Bk.new _ _ _, bl1 _⟩
    have hb3 := hb1.trans (hb2.mono hb1.size)
    replace ht := ht.below hb3; replace hx := hx.below hb3; replace hy := hy.below hb3
    replace hwc := Nat.le_trans hwc hb3.size
    have hy1 : wr.heap.size ≤ y1.heap.size := Nat.le_trans (X0.lt |> Nat.le_of_lt) hb1.size
    replace hB := hB.trans (hb3.mono hB.size)
    replace X0 := X0.below hb3; replace hFp := hFp.below hb2; clear q0 q1 q2 q3 q4 hb1 hb2 hb3; obtain ⟨q0, q1, q2, q3, q4, _⟩ := X0.five; obtain ⟨r0, r1, r2, _⟩ := X2.three
    obtain ⟨q, hq⟩ : ∃ q, alQ t.rg cs = q := ⟨_, rfl⟩
    rw [hq] at hFp HZX HZY HNX HNY; clear hq
    have hsi := qsign_any 10 q _ V2 hFp.ct (by decide) (by decide)
    go_upto_region 8 with fail
    rw [← hV2]; clear hV2
    by_cases hz0 : q = 0
    · have HZX2 : Hid (TmI Pn.x Pa.dx Tu.dx o l cs (k + 1) X) := HZX.out hz0
      have HZY2 : Hid (TmI Pn.y Pa.dy Tu.dy o l cs (k + 1) Y) := HZY.out hz0
      have hs0 : sgnQ q = 0 := by rw [hz0]; rfl
      rw [hs0] at hsi; clear HNX HNY HZX HZY hz0 hs0
      go_wp2_with fail
      refine hsi.mono ?_
      rintro e m3 ⟨rfl, hb1⟩
      have HR2 : Hid (R22 m1.heap.size m3 vx vy 20 X Y) := ⟨BX, BY, hx.below hb1, hy.below hb1, h3, (fun k hk => ⟨(h4 k hk).1, by have := (h4 k hk).2; have := hb1.size; omega⟩), (fun k hk => ⟨(h5 k hk).1, by have := (h5 k hk).2; have := hb1.size; omega⟩)⟩
      have HB2 : Hid (Below m1.heap.size m1 m3) := hB.trans (hb1.mono hB.size)
      clear hb1 hsi hx hy hB q0 q1 q2 q3 q4 r0 r1 r2; go_wp2
      go_roundw
      case rel => exact ⟨k + 1, X, Y, by omega, by go_num, HZX2.out, HZY2.out, HR2.out, HB2.out⟩
      case measure => simp [intOf]; omega
    · have hs0 : (sgnQ q == 0) = false := beq_eq_false_iff_ne.2 (fun e => hz0 (sgn_zero e))
      have hs1 : ¬ sgnQ q = 0 := fun e => hz0 (sgn_zero e)
      generalize sgnQ q = sg at *
      clear HZX HZY hz0
      go_wp2_with fail
      refine hsi.mono ?_
      rintro e m3 ⟨rfl, hb1⟩; replace ht := ht.below hb1; replace hx := hx.below hb1; replace hy := hy.below hb1
      replace hwc := Nat.le_trans hwc hb1.size
      replace hB := hB.trans (hb1.mono hB.size)
      replace X0 := X0.below hb1; replace X2 := X2.below hb1; replace hFp := hFp.below hb1; clear q0 q1 q2 q3 q4 r0 r1 r2 hb1 hsi
      have XO := HX.out.below hB
      obtain ⟨q0, q1, q2, q3, q4, _⟩ := X0.five; obtain ⟨t0, t1, _⟩ := XO.two
      go_upto_region 9 with fail
      refine wp_region_held_drew (S := fun w9 => w9.cell? ⟨w.heap.size, 0, none⟩ = some (.slice a o.cs.length ca) ∧ w9.cell? ⟨w.heap.size, 1, none⟩ = some (.slice b o.ps.length cb) ∧ w9.cell? ⟨wr.heap.size, 0, none⟩ = some (.slice ra t.rg.length rc) ∧ w9.cell? ⟨wr.heap.size, 1, none⟩ = some (.bool t.al) ∧ w9.cell? ⟨wr.heap.size, 2, none⟩ = some (.slice pa t.pts.length pc) ∧ w9.cell? ⟨wr.heap.size, 3, none⟩ = some (.slice xa t.dx.length xc) ∧ w9.cell? ⟨wr.heap.size, 4, none⟩ = some (.slice ya t.dy.length yc)) (by kernel_rfl) ?_ (fun hHeld => ?_)
      · (try dsimp only)
        go_keep
      have hdr : Below m3.heap.size m3 m3.drew := Below.drew1
      generalize m3.drew = ud at hdr hHeld ⊢
      replace ht := ht.below hdr; replace hx := hx.below hdr; replace hy := hy.below hdr
      replace hwc := Nat.le_trans hwc hdr.size
      replace hB := hB.trans (hdr.mono hB.size)
      replace X0 := X0.below hdr; replace X2 := X2.below hdr; replace XO := XO.below hdr; replace hFp := hFp.below hdr; clear hdr q0 q1 q2 q3 q4 t0 t1; refine hT 0 hHeld ?_; refine hT 1 hHeld ?_; refine hT 3 hHeld ?_; refine hT 4 hHeld ?_; refine hT 5 hHeld ?_; refine hT 6 hHeld ?_
      refine hCall (i := 2) rfl (by kernel_rfl) (by rfl) (fun K hK => ?_)
      go_simp
      refine (unamed_any S2 ra rc pa pc xa xc ya yc t _ ht (by omega)).mono ?_
      rintro e y3 ⟨na, nc, rfl, hN, hb1⟩; replace ht := ht.below hb1; replace hx := hx.below hb1; replace hy := hy.below hb1
      replace hwc := Nat.le_trans hwc hb1.size
      replace hB := hB.trans (hb1.mono hB.size)
      replace X0 := X0.below hb1; replace X2 := X2.below hb1; replace XO := XO.below hb1; replace hFp := hFp.below hb1; clear hb1; obtain ⟨q0, q1, q2, q3, q4, _⟩ := X0.five; obtain ⟨t0, t1, _⟩ := XO.two
      go_wp2_with fail
      refine hK.out _ _ ?_ (fun hHeld => ?_)
      · (try dsimp only)
        exact ⟨t0, t1, q0, q1, q2, q3, q4⟩
      clear hK K q0 q1 q2 q3 q4 t0 t1
      try simp only [Act.put, pZ]
      have hsp := cspreadL_any S a ca b cb o na nc (nmd t) xa xc t.dx ya yc t.dy y3 (HC.out.below hB) (HP.out.below hB) hN ht.dx ht.dy (by have := HOL.out; omega) (by have := HOL.out; omega) (by have := HOL.out; omega)
      rw [HSS.out.1, HSS.out.2.1, HSS.out.2.2] at hsp
      refine hCall (i := 7) rfl (by kernel_rfl) (by rfl) (fun K hK => ?_)
      go_simp
      refine hsp.mono ?_
      rintro e y4 ⟨u1, v1, u2, v2, rfl, hD1, hD2, hb1⟩
      have hwb := hwc
      replace hx := hx.below hb1; replace hy := hy.below hb1
      replace hwc := Nat.le_trans hwc hb1.size
      replace hB := hB.trans (hb1.mono hB.size)
      replace X0 := X0.below hb1; replace X2 := X2.below hb1; replace XO := XO.below hb1; replace hFp := hFp.below hb1; clear hb1 hsp; obtain ⟨q0, q1, q2, q3, q4, _⟩ := X0.five; obtain ⟨t0, t1, _⟩ := XO.two
      go_wp2_with fail
      refine hK.out _ _ ?_ (fun hHeld => ?_)
      · (try dsimp only)
        exact ⟨t0, t1, q0, q1, q2, q3, q4⟩
      clear hK K q0 q1 q2 q3 q4 t0 t1
      try simp only [Act.put, pZ]
      refine hT 8 hHeld ?_; refine hT 9 hHeld ?_; refine hT 10 hHeld ?_; refine hT 11 hHeld ?_; refine hT 12 hHeld ?_; refine hT 13 hHeld ?_; refine hT 14 hHeld ?_
      refine wpAnyH_done (by kernel_rfl) ?_ _
      clear hHeld
      have hXl : X.length = cntO o := HTX.out.1
      have hYl : Y.length = cntO o := HTY.out.1
      have HNX2 : Hid (TmI Pn.x Pa.dx Tu.dx o l cs (k + 1) (adK X (spQ Pn.x o (nmd t) t.dx) q (spQ Pn.x o (nmd t) t.dx).length)) := HNX.out
      have HNY2 : Hid (TmI Pn.y Pa.dy Tu.dy o l cs (k + 1) (adK Y (spQ Pn.y o (nmd t) t.dy) q (spQ Pn.y o (nmd t) t.dy).length)) := HNY.out
      have hx9 : ∀ i, i < X.length → (X.getD i []).length ≤ 1000 := fun i hi => by have := (HTX.out.2 i (by omega)).2.1; omega
      have hy9 : ∀ i, i < Y.length → (Y.getD i []).length ≤ 1000 := fun i hi => by have := (HTY.out.2 i (by omega)).2.1; omega
      have hcn := HCN.out
      have hea := uadd_any BX vx X u1 v1 _ q z1 x1 x2 x3 x4 x5 x6 y4 hx hD1.1 (fun b' o' e hb' => by have := hD1.2 b' o' e; have := (h4 b' hb').2; omega) hFp (by rw [HS4.out]; exact hXl.symm) (by omega) hx9 (fun k hk => by have := (h4 k hk).2; omega)
      generalize spQ Pn.x o (nmd t) t.dx = DX at *
      generalize spQ Pn.y o (nmd t) t.dy = DY at *
      clear HSS HS4
      have HD2B : Hid (∀ b' o', u2 = some ⟨b', o', none⟩ → y3.heap.size ≤ b') := hD2.2
      obtain ⟨r0, r1, r2, _⟩ := X2.three
      have HX9 : Hid (X.length = cntO o ∧ Y.length = cntO o ∧ DY.length = cntO o ∧ ∀ i, i < Y.length → (Y.getD i []).length ≤ 1000) := ⟨hXl, hYl, HS5.out, hy9⟩
      clear HNX HNY hx9 hy9 hXl hYl
      go_wp2_with fail
      refine hea.mono ?_
      rintro e y5 ⟨rfl, hx', k1⟩
      have hX2b : ¬ BX y1.heap.size := fun h => by have := (h4 _ h).2; omega
      replace X2 := X2.kn k1 hX2b
      replace hFp := hFp.kn k1
      replace hD2 := hD2.1.kn k1 (fun b' o' e hb' => by have := hD2.2 b' o' e; have := (h4 b' hb').2; omega)
      have hD2b : ∀ b' o', u2 = some ⟨b', o', none⟩ → ¬ BY b' := fun b' o' e hb' => by have := HD2B.out b' o' e; have := (h5 b' hb').2; omega
      replace hy := hy.kn k1 (fun k hk hk2 => h3 k hk2 hk)
      have hs45 := k1.size
      have heb := uadd_any BY vy Y u2 v2 _ q z1 x1 x2 x3 x4 x5 x6 y5 hy hD2 hD2b hFp (by rw [HX9.out.2.2.1]; exact HX9.out.2.1.symm) (by have := HX9.out.2.1; omega) HX9.out.2.2.2 (fun k hk => by have := (h5 k hk).2; omega)
      clear r0 r1 r2 hea hD1; obtain ⟨r0, r1, r2, _⟩ := X2.three
      go_wp2_with fail
      refine heb.mono ?_
      rintro e y6 ⟨rfl, hy', k2⟩
      have HR2 : Hid (R22 m1.heap.size y6 vx vy 20 (adK X DX q DX.length) (adK Y DY q DY.length)) := R22.two h3 h4 h5 hwc hx' k1 hy' k2 (by omega)
      have HB2 : Hid (Below m1.heap.size m1 y6) := (hB.trans (k1.below (by omega) (fun k hk => (h4 k hk).1))).trans (k2.below (by omega) (fun k hk => (h5 k hk).1))
      clear heb hx' hy' hx hy hB k1 k2 hD2 r0 r1 r2 HX9; go_wp2
      go_roundw
      case rel => exact ⟨k + 1, _, _, by omega, by go_num, HNX2.out, HNY2.out, HR2.out, HB2.out⟩
      case measure => simp [intOf]; omega
  · obtain rfl : k = l.length := by omega
    have g9 : ¬ (l.length : Int) < (l.length : Int) := by omega
    obtain ⟨BX, BY, hx, hy, h3, h4, h5⟩ := hR
    have hcn := HCN.out
    have hs1 := usums_any BX vx X wr hx (by rw [HTX.out.1]; omega) (fun i hi => by have := HTX.out.2 i (by rw [← HTX.out.1]; exact hi); omega)
    have hs2 := fun U (hb : Below wr.heap.size wr U) => usums_any BY vy Y U (hy.below hb) (by rw [HTY.out.1]; omega) (fun i hi => by have := HTY.out.2 i (by rw [← HTY.out.1]; exact hi); omega)
    rw [HTX.out.end, HEX.out] at hs1; rw [HTY.out.end, HEY.out] at hs2
    have hfin := HBW.out.trans (hB.mono HBW.out.size)
    clear hx hy h3 h4 h5
    go_wp2_with fail
    refine hs1.mono ?_
    rintro e y1 ⟨e1, f1, rfl, hZ1, hb1⟩
    replace hfin := hfin.trans (hb1.mono hfin.size)
    have hwl := HBW.out.size
    have hBs := hB.size
    go_wp2_with fail
    refine (hs2 _ hb1).mono ?_
    rintro e y2 ⟨e2, f2, rfl, hZ2, hb2⟩
    have HZ1 : Hid (Rg w.heap.size y2 e1 f1 900 exx) := (hZ1.below hb2).lower (by omega)
    have HZ2 : Hid (Rg w.heap.size y2 e2 f2 900 exy) := hZ2.lower (by have := hb1.size; omega)
    have HFI : Hid (Below w.heap.size w y2) := hfin.trans (hb2.mono hfin.size)
    clear hZ1 hZ2 hfin hb1 hb2 hs1 hs2 hB; rw [← HEX.out] at HZ1 ⊢; rw [← HEY.out] at HZ2 ⊢; go_wp2
    exact bodyPost_ret (v := .tuple #[.slice e1 (exL Pn.x Pa.dx Tu.dx o l cs).length f1, .slice e2 (exL Pn.y Pa.dy Tu.dy o l cs).length f2, .int .i64 0]) (by simp [results, Tryz.results118, go_sem]) rfl ⟨e1, f1, e2, f2, rfl, HZ1.out, HZ2.out, HFI.out⟩
theorem Gr.rwAt {α : Type} {E : El α} {S : Nat → Prop} {w : World} {a : Option Addr} {cap : Nat} {m : List (List α)} (h : Gr E.row S w a cap m) (k : Nat) (hk : k < m.length) :
    ∃ b off a' cap', a = some ⟨b, off, none⟩ ∧ b < w.heap.size ∧ (∀ wr, Below w.heap.size w wr → wr.cell? ⟨b, off + k, none⟩ = some (.slice a' (m.getD k []).length cap')) ∧ Gr E S w a' cap' (m.getD k []) := by
 obtain ⟨b, off, a', cap', e, hb, hc, hr, _⟩ := h.rw (Below.refl _ _) k hk
 exact ⟨b, off, a', cap', e, hb, fun wr hB => (hB.cell (p := ⟨b, off + k, none⟩) hb).trans hc, hr⟩
theorem ssameO_any (S S2 : Nat → Prop) (a : Option Addr) (ca : Nat) (b : Option Addr) (cb : Nat) (a' : Option Addr) (ca' : Nat) (b' : Option Addr) (cb' : Nat) (o : Ol) (w : World) (hg : Gr PnE.row S w a ca o.cs) (hm : Gr PaE S w b cb o.ps) (hg' : Gr PnE.row S2 w a' ca' o.cs) (hm' : Gr PaE S2 w b' cb' o.ps) :
    Calls Tryz.prog 40 #[.agg #[.slice a o.cs.length ca, .slice b o.ps.length cb], .agg #[.slice a' o.cs.length ca', .slice b' o.ps.length cb']] w fun e w' => e = .returned (.bool true) ∧ Below w.heap.size w w' := by
 have k1 := hg.lenB
 have k2 := hm.lenB
 have g1 : ((o.cs.length : Int) != (o.cs.length : Int)) = false := by simp
 have g2 : ((o.ps.length : Int) != (o.ps.length : Int)) = false := by simp
 obtain ⟨W, hW, X1, X2, hbW⟩ : ∃ W, W = (w.alloc (.cells #[.slice a o.cs.length ca, .slice b o.ps.length cb] 57)).alloc (.cells #[.slice a' o.cs.length ca', .slice b' o.ps.length cb'] 57) ∧
     Bk 57 W w.heap.size [.slice a o.cs.length ca, .slice b o.ps.length cb] ∧ Bk 57 W (w.heap.size + 1) [.slice a' o.cs.length ca', .slice b' o.ps.length cb'] ∧ Below w.heap.size w W := ⟨_, rfl, (Bk.new _ _ _).below (bl1 _), Bk.new1 _ _ _ _, bl2 _ _⟩
 have HA : Hid (Gr PnE.row S W a ca o.cs) := hg.below hbW
 have HB : Hid (Gr PnE.row S2 W a' ca' o.cs) := hg'.below hbW
 have HC : Hid (Gr PaE S W b cb o.ps) := hm.below hbW
 have HD : Hid (Gr PaE S2 W b' cb' o.ps) := hm'.below hbW
 have HX1 : Hid (Bk 57 W w.heap.size [.slice a o.cs.length ca, .slice b o.ps.length cb]) := X1
 have HX2 : Hid (Bk 57 W (w.heap.size + 1) [.slice a' o.cs.length ca', .slice b' o.ps.length cb']) := X2
 have HBW : Hid (Below w.heap.size w W) := hbW
 clear hg hm hg' hm' X1 X2 hbW
 go_enter Tryz.func40, Tryz.ntmps40
 go_wp2; rw [← hW]; clear hW g1 g2
 go_loopw [5] (fun i wr => ∃ k : Nat, k ≤ o.cs.length ∧ i = .int .i64 k ∧ Below W.heap.size W wr) (fun i _ => o.cs.length - (intOf i).toNat)
 case atStart => exact ⟨0, Nat.zero_le _, rfl, Below.refl _ _⟩
 case round =>
  obtain ⟨k, hk, rfl, hnx⟩ := hrel
  obtain ⟨x0, x1, _⟩ := (HX1.out.below hnx).two
  obtain ⟨y0, y1, _⟩ := (HX2.out.below hnx).two
  by_cases hkn : k < o.cs.length
  · obtain ⟨b1, o1, a1, c1, ea, l1, d1, p1⟩ := HA.out.rwAt k hkn
    obtain ⟨b2, o2, a2, c2, eb, l2, d2, p2⟩ := HB.out.rwAt k hkn
    obtain ⟨l, hl⟩ : ∃ l, o.cs.getD k [] = l := ⟨_, rfl⟩
    rw [hl] at d1 p1 d2 p2
    have e2 := p1.lenB
    have HD1 : Hid (∀ V, Below W.heap.size W V → V.cell? ⟨b1, o1 + k, none⟩ = some (.slice a1 l.length c1) ∧ V.cell? ⟨b2, o2 + k, none⟩ = some (.slice a2 l.length c2)) := fun V hV => ⟨d1 V hV, d2 V hV⟩
    have HP1 : Hid (Gr PnE S W a1 c1 l) := p1
    have HP2 : Hid (Gr PnE S2 W a2 c2 l) := p2
    have hll : ((l.length : Int) != (l.length : Int)) = false := by simp
    obtain ⟨q1, q2⟩ := HD1.out wr hnx
    have i1 : (0 : Int) ≤ (k : Int) := by omega
    have i2 : (k : Int) < (o.cs.length : Int) := by omega
    subst ea eb; clear hl d1 d2 p1 p2
    go_wp2_with fail
    go_quiet (fail)
    have HNX : Hid (Below W.heap.size W wr) := hnx
    clear q1 q2 hnx x0 x1 y0 y1; go_wp2
    go_loopw [6] (fun i wr2 => ∃ j : Nat, j ≤ l.length ∧ i = .int .i64 j ∧ Below W.heap.size W wr2) (fun i _ => l.length - (intOf i).toNat)
    case atStart => exact ⟨0, Nat.zero_le _, rfl, below_drewN HNX.out _⟩
    case round =>
     obtain ⟨j, hj, rfl, hny⟩ := hrel
     obtain ⟨q1, q2⟩ := HD1.out wr hny
     obtain ⟨x0, x1, _⟩ := (HX1.out.below hny).two
     obtain ⟨y0, y1, _⟩ := (HX2.out.below hny).two
     by_cases hjn : j < l.length
     · obtain ⟨b3, o3, ec, _, _, c0, c1', c2'⟩ := HP1.out.pn hny j hjn
       obtain ⟨b4, o4, ed, _, _, d0, d1, d2⟩ := HP2.out.pn hny j hjn
       generalize l.getD j Pn.none = t at *
       obtain ⟨x, y, z⟩ := t; dsimp only at c0 c1' c2' d0 d1 d2; subst ec ed
       have i3 : (0 : Int) ≤ (j : Int) := by omega
       have i4 : (j : Int) < (l.length : Int) := by omega
       go_wp2_with fail
       go_quiet (fail)
       go_wp2
       go_roundw
       case rel => exact ⟨j + 1, by omega, by go_num, below_drewN hny _⟩
       case measure => simp [intOf]; omega
     · have g1 : ¬ (j : Int) < (l.length : Int) := by omega
       go_wp2
       go_roundw
       case rel => exact ⟨k + 1, by omega, by go_num, hny⟩
       case measure => simp [intOf]; omega
  · have g1 : ¬ (k : Int) < (o.cs.length : Int) := by omega
    go_wp2; clear x0 x1 y0 y1 hkn hk g1
    go_loopw [7] (fun i wr => ∃ k : Nat, k ≤ o.ps.length ∧ i = .int .i64 k ∧ Below W.heap.size W wr) (fun i _ => o.ps.length - (intOf i).toNat)
    case atStart => exact ⟨0, Nat.zero_le _, rfl, hnx⟩
    case round =>
     clear hnx; obtain ⟨k, hk, rfl, hnx⟩ := hrel
     obtain ⟨x0, x1, _⟩ := (HX1.out.below hnx).two
     obtain ⟨y0, y1, _⟩ := (HX2.out.below hnx).two
     by_cases hkn : k < o.ps.length
     · obtain ⟨b3, o3, ec, _, _, c0, c1', c2'⟩ := HC.out.pa hnx k hkn
       obtain ⟨b4, o4, ed, _, _, d0, d1, d2⟩ := HD.out.pa hnx k hkn
       generalize o.ps.getD k Pa.none = t at *
       obtain ⟨x, y, z⟩ := t; dsimp only at c0 c1' c2' d0 d1 d2; subst ec ed
       have i3 : (0 : Int) ≤ (k : Int) := by omega
       have i4 : (k : Int) < (o.ps.length : Int) := by omega
       go_wp2_with fail
       go_quiet (fail)
       go_wp2
       go_roundw
       case rel => exact ⟨k + 1, by omega, by go_num, below_drewN hnx _⟩
       case measure => simp [intOf]; omega
     · have g1 : ¬ (k : Int) < (o.ps.length : Int) := by omega
       have hbW := HBW.out.trans (hnx.mono HBW.out.size)
       go_wp2
       go_ret
       exact ⟨rfl, hbW⟩
end Go.Proofs.YtkmcodofnckdmaaGreat
