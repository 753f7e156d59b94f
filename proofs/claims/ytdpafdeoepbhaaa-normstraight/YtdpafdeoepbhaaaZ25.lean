/-
  norm.Exact: the walk.
  norm.At: the walk.
  foundrylaw08.few, foundrylaw08.awake: the walks.
  What a law is told of a slice of bytes, or of int32, that came in.
  What a law is told of an axis, of a list of axes, of a list of ints that came in.
-/
import Derived.Test.YtdpafdeoepbhaaaZ18
import Derived.Test.YtdpafdeoepbhaaaZ23
import Derived.Test.YtdpafdeoepbhaaaZ24
import Derived.Test.YtdpafdeoepbhaaaZ19
import Derived.Test.YtdpafdeoepbhaaaZ9
import Derived.ProofKit
import Derived.Test.YtdpafdeoepbhaaaZ14
import Derived.Test.YtdpafdeoepbhaaaZ15
import Derived.Deep.Slices
import Derived.Lib.SmallJoins
import Derived.ChangeSame
namespace Go.Proofs.Ytdpafdeoepbhaaa
open Go.RowKit Go.Maps
set_option linter.unusedSimpArgs false
set_option linter.unusedVariables false

theorem Fr.cells3 {w : World} {v : Value} {k : Nat} {q : Rat} (h : Fr w v k q) : ∃ x y z, v = .agg #[x, y, z] := by
  obtain ⟨n, xs, ys, ⟨a, c, a', c', rfl, h1, h2⟩, h3⟩ := h
  exact ⟨_, _, _, rfl⟩

set_option maxHeartbeats 4000000 in
set_option maxRecDepth 100000 in
theorem cexact_any (a : Option Addr) (cap : Nat) (l : List Ax) (b : Option Addr) (bc : Nat) (m : List (List Pr)) (pa : Option Addr) (pc : Nat) (ps : List Int) (w : World) (h : As w a cap l) (hm : Pzz w b bc m) (hp : Ri w pa pc ps) (hlp : ps.length ≤ 1000) :
    Calls Try.prog 13 #[.slice a l.length cap, .slice b m.length bc, .slice pa ps.length pc] w fun e w' => ∃ a' cap', e = .returned (.tuple #[.slice a' (exL l m ps).length cap', .int .i64 (exE l m)]) ∧ Rz w' a' cap' 10 (exL l m ps) ∧ Below w.heap.size w w' := by
  have hfi := cfit_any a cap l b bc m w h hm
  cases hf : fiB l m with
  | false =>
    rw [hf] at hfi
    rw [exL_no hf, exE_no hf]
    clear hf h hm hp
    go_enter Try.func13, Try.ntmps13
    go_wp2_with fail
    refine hfi.mono ?_
    rintro e u1 ⟨rfl, hb1⟩
    have hz := Rz.nil u1 none 0 10 (Nat.zero_le _)
    clear hfi
    go_wp2
    go_ret2
    exact ⟨none, 0, rfl, hz, hb1⟩
  | true =>
    have hl4 := (fiB_len hf).1
    have HL2 : Hid (m.length = 0 ∨ m.length = l.length) := (fiB_iff.1 hf).2.1
    rw [hf] at hfi
    rw [exL_yes hf, exE_yes hf]
    have k2 := hm.lenB
    have HH : Hid (As w a cap l) := h
    have HM : Hid (Pzz w b bc m) := hm
    have HP : Hid (Ri w pa pc ps) := hp
    clear hf h hm hp
    go_enter Try.func13, Try.ntmps13
    go_wp2_with fail
    refine hfi.mono ?_
    rintro e u1 ⟨rfl, hb1⟩
    have hcl := cclampA_any a cap l pa pc ps u1 (HH.out.below hb1) (HP.out.below hb1) (by omega) hlp
    clear hfi
    go_wp2_with fail
    refine hcl.mono ?_
    rintro e u2 ⟨va, vc, rfl, hV, hb2⟩
    have hbW : Below w.heap.size w u2 := hb1.trans (hb2.mono hb1.size)
    have hcg : ∀ j, j < l.length → (clK l ps l.length).getD j 0 = clV l ps j := fun j hj => by simp [clK, List.getD, hj]
    have HCG : Hid (∀ j, j < l.length → (clK l ps l.length).getD j 0 = clV l ps j) := hcg
    have HCL : Hid ((clK l ps l.length).length = l.length) := clK_len _ _ _
    have HV : Hid (Ri u2 va vc (clK l ps l.length)) := hV
    rw [HCL.out]
    clear hb1 hb2 hcl hcg hV
    obtain ⟨i0, hi0, hz0, hz1, hz2⟩ := info_parts info_rt
    have hmk := run_make (P := Try.prog) u2 38 44 i0 rtZ Try.underlying38 hi0 hz0 .i64 .i64 0 (l.length : Int) (by omega) (by omega) (by rw [hz2]; omega) (by omega)
    rw [hz1] at hmk
    simp only [Int.toNat_zero, Int.toNat_natCast] at hmk
    obtain ⟨w1, hw1⟩ : ∃ w1, u2.alloc (.cells (madeCells rtZ.cells (l.length * 3)) 44) = w1 := ⟨_, rfl⟩
    have hI0 : Ro 44 u2.heap.size w1 (.slice (some ⟨u2.heap.size, 0, none⟩) 0 l.length) 10 (exK l m ps 0) := by
      refine ⟨[], ?_, fun g hg => ?_, fun i hi => by simp [exK] at hi⟩
      · rw [← hw1]
        have := World.ownsRow_made (base := u2.heap.size) (e := 44) (size := 3) u2 (madeCells rtZ.cells (l.length * 3)) l.length (Nat.le_refl _) (by unfold maxLen; omega) (size_madeCells _ _)
        simpa [exK] using this
      · simp [Value.ownBlock] at hg
        subst hg
        rw [← hw1]
        exact NoI.of (heap_alloc_new u2 _) (rtZ_made _)
    have hB1u : Below u2.heap.size u2 w1 := by rw [← hw1]; exact bl1 _
    rw [hw1] at hmk
    clear hw1 hi0 hz0 hz1 hz2
    go_wp2
    go_loopw [9, 24] (fun v i wr => ∃ k : Nat, k ≤ l.length ∧ i = .int .i64 k ∧ Ro 44 u2.heap.size wr v 10 (exK l m ps k) ∧ Below u2.heap.size u2 wr) (fun _ i _ => l.length - (intOf i).toNat)
    case atStart => exact ⟨0, Nat.zero_le _, rfl, hI0, hB1u⟩
    case round =>
      obtain ⟨k, hk, rfl, hT, hBu⟩ := hrel
      have hB : Below w.heap.size w wr := hbW.trans (hBu.mono hbW.size)
      obtain ⟨a2, c2, rfl, hts⟩ := hT.slice
      have hlen := exK_len l m ps k
      rw [hlen] at hT ⊢
      have hll : (exK l m ps k).length + 1 ≤ 1000000 := by omega
      have HT : Hid (Ro 44 u2.heap.size wr (.slice a2 k c2) 10 (exK l m ps k)) := hT
      clear hT hlen hmk hI0 hB1u
      by_cases hkn : k < l.length
      · clear hts
        obtain ⟨b0, off, ea, hb, d0, d1, d2, d3⟩ := HH.out.at hB k hkn
        subst ea
        have hw := HH.out.w hkn
        obtain ⟨pb, poff, ep, hpb, dz⟩ := HV.out.at hBu k (by rw [HCL.out]; exact hkn)
        subst ep
        have hzi := HV.out.i64 (k := k) (by rw [HCL.out]; exact hkn)
        rw [HCG.out k hkn] at dz hzi
        have HX : Hid (exQ l m ps k = beQ (m.getD k []) (plQ (l.getD k Ax.none) (clV l ps k))) := rfl
        have HS : Hid (exK l m ps (k + 1) = exK l m ps k ++ [exQ l m ps k]) := exK_succ _ _ _ _
        generalize clV l ps k = z at *
        have hbo := fun W hW => bendOf_any b bc m k l.length W hW hkn HL2.out
        generalize l.getD k Ax.none = s at *
        have hpl := fun W => cplain_any s z W hw hzi
        obtain ⟨tx, lo, us, hi⟩ := s
        simp only [axC] at hpl
        dsimp only at *
        have hwz := hB.size
        obtain ⟨W, hW, X1, hbR⟩ : ∃ W, W = wr.alloc (.cells #[.string tx, .int .i64 lo, .int .i64 us, .int .i64 hi] 33) ∧ BxA W wr.heap.size (.string tx) (.int .i64 lo) (.int .i64 us) (.int .i64 hi) ∧ Below wr.heap.size wr W := ⟨_, rfl, BxA.new wr _ _ _ _, bl1 _⟩
        obtain ⟨p0, p1, p2, p3, _⟩ := X1.cells
        go_wp2_with fail
        rw [← hW]
        clear hW
        have hpw : pb < wr.heap.size := Nat.lt_of_lt_of_le hpb hBu.size
        have pz := (hbR.cell (p := ⟨pb, poff + k, none⟩) hpw).trans dz
        refine wp_region_held_drew (S := (fun u => u.cell? ⟨wr.heap.size, 0, none⟩ = some (.string tx) ∧ u.cell? ⟨wr.heap.size, 1, none⟩ = some (.int .i64 lo) ∧ u.cell? ⟨wr.heap.size, 2, none⟩ = some (.int .i64 us) ∧ u.cell? ⟨wr.heap.size, 3, none⟩ = some (.int .i64 hi) ∧ u.cell? ⟨pb, poff + k, none⟩ = some (.int .i64 z))) (by kernel_rfl) ?_ (fun hHeld => ?_)
        · (try dsimp only)
          go_keep
        have hdr : Below W.heap.size W W.drew := Below.drew1
        generalize W.drew = U0 at hdr hHeld ⊢
        have hc0 : Below wr.heap.size wr U0 := hbR.trans (hdr.mono hbR.size)
        replace X1 := X1.below hdr
        clear hdr hbR p0 p1 p2 p3 pz d0 d1 d2 d3
        refine hT 0 hHeld ?_
        refine hT 1 hHeld ?_
        refine hT 2 hHeld ?_
        refine hT 4 hHeld ?_
        refine hT 5 hHeld ?_
        refine hT 6 hHeld ?_
        refine hT 7 hHeld ?_
        refine hT 8 hHeld ?_
        refine hCall (i := 3) rfl (by kernel_rfl) (by rfl) (fun K hK => ?_)
        go_simp
        refine (hbo U0 ((HM.out.below hB).below hc0)).mono ?_
        rintro e U1 ⟨ba, bcap, rfl, hPz, hb1⟩
        have hc1 : Below wr.heap.size wr U1 := hc0.trans (hb1.mono hc0.size)
        replace X1 := X1.below hb1
        obtain ⟨y, hy⟩ : ∃ y, m.getD k [] = y := ⟨_, rfl⟩
        rw [hy] at hPz HX ⊢
        clear hy hb1 hc0 hbo
        obtain ⟨p0, p1, p2, p3, _⟩ := X1.cells
        have pz := (hc1.cell (p := ⟨pb, poff + k, none⟩) hpw).trans dz
        go_wp2_with fail
        refine hK.out _ _ ?_ (fun hHeld => ?_)
        · (try dsimp only)
          exact ⟨p0, p1, p2, p3, pz⟩
        clear hK K p0 p1 p2 p3 pz
        try simp only [Act.put, List.setIfInBounds_toArray, List.set_cons_zero, List.set_cons_succ]
        refine hCall (i := 9) rfl (by kernel_rfl) (by rfl) (fun K hK => ?_)
        go_simp
        refine (hpl U1).mono ?_
        rintro e U2 ⟨v2, rfl, hF2, hb2⟩
        have hc2 : Below wr.heap.size wr U2 := hc1.trans (hb2.mono hc1.size)
        replace X1 := X1.below hb2
        replace hPz := hPz.below hb2
        generalize plQ ⟨tx, lo, us, hi⟩ z = q at *
        clear hb2 hc1 hpl
        obtain ⟨p0, p1, p2, p3, _⟩ := X1.cells
        have pz := (hc2.cell (p := ⟨pb, poff + k, none⟩) hpw).trans dz
        go_wp2_with fail
        refine hK.out _ _ ?_ (fun hHeld => ?_)
        · (try dsimp only)
          exact ⟨p0, p1, p2, p3, pz⟩
        clear hK K p0 p1 p2 p3 pz
        try simp only [Act.put, List.setIfInBounds_toArray, List.set_cons_zero, List.set_cons_succ]
        refine hCall (i := 10) rfl (by kernel_rfl) (by rfl) (fun K hK => ?_)
        go_simp
        refine (cbend_any 2 q v2 ba bcap y U2 hPz hF2.ct (by decide) (by decide)).mono ?_
        rintro e U3 ⟨v3, rfl, hF3, hb3⟩
        have hc3 : Below wr.heap.size wr U3 := hc2.trans (hb3.mono hc2.size)
        replace X1 := X1.below hb3
        rw [← HX.out] at hF3
        obtain ⟨n1, xs, ys, ⟨ax, cx, ay, cy, rfl, hx, hy⟩, hF4⟩ := hF3
        have hF3 : Fr U3 (.agg #[.bool n1, .slice ax xs.length cx, .slice ay ys.length cy]) 10 (exQ l m ps k) := ⟨n1, xs, ys, ⟨ax, cx, ay, cy, rfl, hx, hy⟩, hF4⟩
        clear hb3 hc2 hPz hF2 hx hy hF4
        obtain ⟨p0, p1, p2, p3, _⟩ := X1.cells
        have pz := (hc3.cell (p := ⟨pb, poff + k, none⟩) hpw).trans dz
        go_wp2_with fail
        refine hK.out _ _ ?_ (fun hHeld => ?_)
        · (try dsimp only)
          exact ⟨p0, p1, p2, p3, pz⟩
        clear hK K p0 p1 p2 p3 pz
        try simp only [Act.put, List.setIfInBounds_toArray, List.set_cons_zero, List.set_cons_succ]
        refine hCall (i := 11) rfl (by kernel_rfl) (by rfl) (fun K hK => ?_)
        go_simp
        obtain ⟨U4, hU4, B4, hb4⟩ : ∃ U4, U4 = U3.alloc (.cells #[.bool n1, .slice ax xs.length cx, .slice ay ys.length cy] 44) ∧ Box 44 U4 U3.heap.size (.bool n1) (.slice ax xs.length cx) (.slice ay ys.length cy) ∧ Below U3.heap.size U3 U4 := ⟨_, rfl, Box.new _ _ _ _ _, bl1 _⟩
        rw [← hU4]
        clear hU4
        have hc4 : Below wr.heap.size wr U4 := hc3.trans (hb4.mono hc3.size)
        replace X1 := X1.below hb4
        replace hF3 := hF3.below hb4
        clear hc3
        obtain ⟨p0, p1, p2, p3, _⟩ := X1.cells
        have pz := (hc4.cell (p := ⟨pb, poff + k, none⟩) hpw).trans dz
        refine hK.out _ _ ?_ (fun hHeld => ?_)
        · (try dsimp only)
          exact ⟨p0, p1, p2, p3, pz⟩
        clear hK K
        try simp only [Act.put, List.setIfInBounds_toArray, List.set_cons_zero, List.set_cons_succ]
        refine hCall (i := 12) rfl (by kernel_rfl) (by rfl) (fun K hK => ?_)
        obtain ⟨r0, r1, r2, _⟩ := B4.cells
        have hT4 := HT.out.below hc4
        have hbs : u2.heap.size ≤ U4.heap.size := Nat.le_trans hBu.size hc4.size
        refine wp_append_rt _ _ rfl u2.heap.size _ 10 (exK l m ps k) (exQ l m ps k) rfl hT4 U3.heap.size _ _ _ rfl r0 r1 r2 hF3 hll hbs ?_
        intro v' w9 hT9 hgrow
        have hBu4 : Below u2.heap.size u2 U4 := hBu.trans (hc4.mono hBu.size)
        have hB9 : Below u2.heap.size u2 w9 := hBu4.grown hgrow hbs (fun k hk => (HT.out.lo hk).1)
        have hne : some wr.heap.size ≠ Value.ownBlock (.slice a2 k c2) := fun e => absurd (HT.out.lo e.symm).2 (Nat.lt_irrefl _)
        have hnp : some pb ≠ Value.ownBlock (.slice a2 k c2) := fun e => absurd (HT.out.lo e.symm).1 (Nat.not_le.2 hpb)
        rw [← HS.out] at hT9
        refine hK.out _ _ ?_ (fun hHeld => ?_)
        · (try dsimp only)
          exact ⟨hgrow.cell p0 hne, hgrow.cell p1 hne, hgrow.cell p2 hne, hgrow.cell p3 hne, hgrow.cell pz hnp⟩
        clear hK K p0 p1 p2 p3 pz hgrow hT4 r0 r1 r2 hF3 hne hnp X1 B4
        try simp only [Act.put, List.setIfInBounds_toArray, List.set_cons_zero, List.set_cons_succ]
        refine hT 13 hHeld ?_
        refine wpAnyH_done (by kernel_rfl) ?_ _
        go_wp2
        go_roundw
        case rel => exact ⟨k + 1, by omega, by go_num, hT9, hB9⟩
        case measure => simp [intOf]; omega
      · obtain rfl : k = l.length := by omega
        go_wp2
        go_ret2
        exact ⟨a2, c2, by rw [exK_len]; rfl, hts, hB⟩

end Go.Proofs.Ytdpafdeoepbhaaa

namespace Go.Proofs.Ytdpafdeoepbhaaa
open Go.RowKit Go.Maps
set_option linter.unusedSimpArgs false
set_option linter.unusedVariables false

theorem atL_no {l : List Ax} {m : List (List Pr)} (h : fiB l m = false) (ps : List Int) : atL l m ps = [] := by rw [atL, exL_no h]; rfl

set_option maxHeartbeats 2000000 in
set_option maxRecDepth 100000 in
theorem cat_any (a : Option Addr) (cap : Nat) (l : List Ax) (b : Option Addr) (bc : Nat) (m : List (List Pr)) (pa : Option Addr) (pc : Nat) (ps : List Int) (w : World) (h : As w a cap l) (hm : Pzz w b bc m) (hp : Ri w pa pc ps) (hlp : ps.length ≤ 1000) :
    Calls Try.prog 10 #[.slice a l.length cap, .slice b m.length bc, .slice pa ps.length pc] w fun e w' => ∃ a' cap', e = .returned (.tuple #[.slice a' (atL l m ps).length cap', .int .i64 (exE l m)]) ∧ Ri w' a' cap' (atL l m ps) ∧ Below w.heap.size w w' := by
  have hex := cexact_any a cap l b bc m pa pc ps w h hm hp hlp
  have hq4 := exL_len4 l m ps
  clear h hm hp
  cases hf : fiB l m with
  | false =>
    rw [exL_no hf, exE_no hf] at hex
    rw [atL_no hf, exE_no hf]
    clear hf
    go_enter Try.func10, Try.ntmps10
    go_wp2_with fail
    refine hex.mono ?_
    rintro e u1 ⟨a1, c1, rfl, _, hb1⟩
    have hz := Ri.nil u1 none 0 (Nat.zero_le _)
    clear hex
    go_wp2
    go_ret2
    exact ⟨none, 0, rfl, hz, hb1⟩
  | true =>
    rw [exE_yes hf] at hex ⊢
    have HA : Hid (atL l m ps = rnK (exL l m ps) (exL l m ps).length) := rfl
    rw [HA.out]
    clear HA hf
    generalize exL l m ps = qs at *
    go_enter Try.func10, Try.ntmps10
    go_wp2_with fail
    refine hex.mono ?_
    rintro e u1 ⟨a1, c1, rfl, hQ, hb1⟩
    have HQ : Hid (Rz u1 a1 c1 10 qs) := hQ
    clear hex hQ
    obtain ⟨i0, hi0, hz0, hz1, hz2⟩ := info_parts infoA_i64
    obtain ⟨w1, hmk, hown, hgrow⟩ := run_makeSlice_owned u1 u1.heap.size 27 3 i0 _ 1 Try.underlying27 hi0 hz0 hz1 .i64 .i64 qs.length (by omega) (by rw [hz2]; omega) (by unfold maxLen; omega) (Nat.le_refl _)
    have hI0 : Io u1.heap.size w1 (.slice (some ⟨u1.heap.size, 0, none⟩) 0 qs.length) (rnK qs 0) := ⟨fun t ht => (by simp [rnK] at ht), by simpa [rnK] using hown⟩
    have hB1u : Below u1.heap.size u1 w1 := (Below.refl _ _).grown hgrow (Nat.le_refl _) (fun k hk => by cases hk)
    clear hown hgrow hi0 hz0 hz1 hz2
    go_wp2
    go_loopw [10, 28] (fun v i wr => ∃ k : Nat, k ≤ qs.length ∧ i = .int .i64 k ∧ Io u1.heap.size wr v (rnK qs k) ∧ Below u1.heap.size u1 wr) (fun _ i _ => qs.length - (intOf i).toNat)
    case atStart => exact ⟨0, Nat.zero_le _, rfl, hI0, hB1u⟩
    case round =>
      obtain ⟨k, hk, rfl, hT, hBu⟩ := hrel
      obtain ⟨a2, c2, rfl, hts⟩ := hT.slice
      have hlen := rnK_len hk
      rw [hlen] at hT ⊢
      have hll : (rnK qs k).length + 1 ≤ 1000000 := by omega
      have HT : Hid (Io u1.heap.size wr (.slice a2 k c2) (rnK qs k)) := hT
      clear hT hlen hmk hI0 hB1u
      by_cases hkn : k < qs.length
      · clear hts
        obtain ⟨b0, off, x, y, z, ea, hb, d0, d1, d2, hF⟩ := HQ.out.at hBu k hkn
        subst ea
        have HS : Hid (rnK qs (k + 1) = rnK qs k ++ [to14 (qs.getD k 0)]) := rnK_succ hkn
        generalize qs.getD k 0 = q at *
        have HI : Hid (I64 (to14 q)) := t14_i64 q
        obtain ⟨n1, xs, ys, ⟨ax, cx, ay, cy, e3, hx, hy⟩, hF3⟩ := hF
        have hF : Fr wr (.agg #[x, y, z]) 10 q := ⟨n1, xs, ys, ⟨ax, cx, ay, cy, e3, hx, hy⟩, hF3⟩
        simp at e3
        obtain ⟨rfl, rfl, rfl⟩ := e3
        clear hx hy hF3
        obtain ⟨W, hW, X1, hbR⟩ : ∃ W, W = wr.alloc (.cells #[.bool n1, .slice ax xs.length cx, .slice ay ys.length cy] 44) ∧ Box 44 W wr.heap.size (.bool n1) (.slice ax xs.length cx) (.slice ay ys.length cy) ∧ Below wr.heap.size wr W := ⟨_, rfl, Box.new _ _ _ _ _, bl1 _⟩
        obtain ⟨p0, p1, p2, _⟩ := X1.cells
        have hto := to14_any 10 q _ W (hF.below hbR).ct (by decide) (by decide)
        obtain ⟨c, hc⟩ : ∃ c, to14 q = c := ⟨_, rfl⟩
        rw [hc] at hto HI HS
        clear hc
        go_wp2_with fail
        rw [← hW]
        clear hW
        go_wp2_with fail
        refine hto.mono ?_
        rintro e u2 ⟨rfl, hb2⟩
        have hT2 := (HT.out.below hbR).below hb2
        have hB2u : Below u1.heap.size u1 u2 := (hBu.trans (hbR.mono hBu.size)).trans (hb2.mono (hBu.trans (hbR.mono hBu.size)).size)
        clear hto
        have hT5 := hT2.below (bl1 (.cells #[.int .i64 c] 3))
        have hN := heap_alloc_new u2 (.cells #[.int .i64 c] 3)
        have n0 := cell_of_row _ u2.heap.size 0 _ _ (0, 0) hN
        have hbsu : u1.heap.size ≤ (u2.alloc (.cells #[.int .i64 c] 3)).heap.size := by have := hB2u.size; simp at this ⊢; omega
        clear hN
        go_wp2_with (at_builtin; refine wpList_append_int rfl _ _ rfl u1.heap.size _ (rnK qs k) rfl hT5 u2.heap.size c rfl n0 HI.out hll hbsu ?_)
        intro v' w9 hT9 hgrow
        have hB9u : Below u1.heap.size u1 w9 := (hB2u.alloc hB2u.size _).grown hgrow hbsu (fun k hk => HT.out.lo hk)
        rw [← HS.out] at hT9
        clear hgrow hT5 n0 hbsu
        go_wp2
        go_roundw
        case rel => exact ⟨k + 1, by omega, by go_num, hT9, hB9u⟩
        case measure => simp [intOf]; omega
      · obtain rfl : k = qs.length := by omega
        go_wp2
        go_ret2
        exact ⟨a2, c2, by rw [rnK_len (Nat.le_refl _)]; rfl, hts, hb1.trans (hBu.mono hb1.size)⟩

end Go.Proofs.Ytdpafdeoepbhaaa

namespace Go.Proofs.Ytdpafdeoepbhaaa
open Go.RowKit Go.Maps
set_option linter.unusedSimpArgs false
set_option linter.unusedVariables false

set_option maxHeartbeats 1000000 in
set_option maxRecDepth 100000 in
theorem few8_any (a : Option Addr) (cap n : Nat) (b : Option Addr) (bc : Nat) (m : List (List Pr)) (pa : Option Addr) (pc k : Nat) (w : World) (hm : Pzz w b bc m) (hn : n ≤ 9223372036854775807) (hk : k ≤ 9223372036854775807) :
    Calls Try.prog 8 #[.slice a n cap, .slice b m.length bc, .slice pa k pc] w fun e w' => ∃ q : Bool, e = .returned (.bool q) ∧ (q = true → n ≤ 30 ∧ k ≤ 100) ∧ Below w.heap.size w w' := by
  have k2 := hm.lenB
  have HP : Hid (Pzz w b bc m) := hm
  clear hm
  go_enter Try.func8, Try.ntmps8
  go_wp2
  go_loopw [7, 8] (fun n i wr => ∃ (k : Nat) (z : Int), k ≤ m.length ∧ i = .int .i64 k ∧ n = .int .i64 z ∧ -9223372036854775808 ≤ z ∧ z ≤ 9223372036854775807 ∧ wr = w) (fun _ i _ => m.length - (intOf i).toNat)
  case atStart => exact ⟨0, 0, Nat.zero_le _, rfl, rfl, by decide, by decide, rfl⟩
  case round =>
    obtain ⟨j, z, hj, rfl, rfl, hz1, hz2, rfl⟩ := hrel
    by_cases hgo : j < m.length ∧ z ≤ 200
    · obtain ⟨hkn, hz3⟩ := hgo
      obtain ⟨b1, off, a1, c1, ea, _, d0, hp⟩ := HP.out.at (Below.refl _ _) j hkn
      subst ea
      have e1 := hp.lenB
      generalize (m.getD j []).length = y at d0 e1
      clear hp
      have g2 : decide (z ≤ 200) = true := decide_eq_true hz3
      go_wp2
      go_roundw
      case rel => exact ⟨j + 1, _, by omega, by go_num, rfl, by unfold wrap64; omega, by unfold wrap64; omega, trivial⟩
      case measure => simp [intOf]; omega
    · by_cases z0 : z ≤ 200
      · have g0 : decide (z ≤ 200) = true := decide_eq_true z0
        have hjn : ¬ j < m.length := fun h1 => hgo ⟨h1, z0⟩
        clear hgo
        by_cases l0 : n ≤ 30
        · have g1 : decide ((n : Int) ≤ 30) = true := decide_eq_true (by omega)
          go_wp2
          go_ret
          exact ⟨_, rfl, fun hq => ⟨l0, by have := of_decide_eq_true hq; omega⟩, Below.refl _ _⟩
        · have g1 : decide ((n : Int) ≤ 30) = false := decide_eq_false (by omega)
          go_wp2
          go_ret
          exact ⟨_, rfl, (fun hq => by cases hq), Below.refl _ _⟩
      · have g0 : decide (z ≤ 200) = false := decide_eq_false z0
        clear hgo
        by_cases hjn : j < m.length
        · go_wp2
          go_ret
          exact .inl ⟨rfl, Below.refl _ _⟩
        · go_wp2
          go_ret
          exact .inl ⟨rfl, Below.refl _ _⟩

/-- What 'awake' is about. -/
def wght8 : Ax := ⟨⟨#[119, 103, 104, 116]⟩, 100, 400, 900⟩
theorem wght8_w : Axw wght8 := ⟨by simp [wght8, maxLen, ByteArray.size], ⟨by decide, by decide⟩, ⟨by decide, by decide⟩, ⟨by decide, by decide⟩⟩
theorem wght8_fi : fiB [wght8] [] = true := by decide +kernel
theorem wght8_at : atL [wght8] [] [650] = [8192] := by decide +kernel

/-- One axis, one number in a block. -/
theorem as_one8 (w : World) (t : Ax) (h : Axw t) : As (w.alloc (.cells #[.string t.tx, .int .i64 t.lo, .int .i64 t.us, .int .i64 t.hi] 33)) (some ⟨w.heap.size, 0, none⟩) 1 [t] := by
  refine ⟨Nat.le_refl _, by simp [maxLen], fun s hs => ?_, fun i hi => ?_⟩
  · simp at hs
    subst hs
    exact h
  · have : i = 0 := by simp at hi; omega
    subst this
    obtain ⟨c0, c1, c2, c3, _⟩ := (BxA.new w (.string t.tx) (.int .i64 t.lo) (.int .i64 t.us) (.int .i64 t.hi)).cells
    exact ⟨w.heap.size, 0, rfl, by simp, c0, c1, c2, c3⟩
theorem ri_one8 (w : World) (z : Int) (h : I64 z) (t : TypeId) : Ri (w.alloc (.cells #[.int .i64 z] t)) (some ⟨w.heap.size, 0, none⟩) 1 [z] := by
  refine ⟨fun x hx => ?_, Nat.le_refl _, by simp [maxLen], .inr ⟨w.heap.size, 0, rfl, by simp, fun i hi => ?_⟩⟩
  · simp at hx
    subst hx
    exact h
  · have : i = 0 := by simp at hi; omega
    subst this
    exact cell_of_row _ _ 0 _ _ (0, 0) (heap_alloc_new w (.cells #[.int .i64 z] t))

set_option maxHeartbeats 1000000 in
set_option maxRecDepth 100000 in
theorem awake8_any (w : World) :
    Calls Try.prog 7 #[] w fun e w' => e = .returned (.bool true) ∧ Below w.heap.size w w' := by
  have hA := (as_one8 w wght8 wght8_w).below (bl1 (.cells #[.int .i64 650] 3))
  have hP := ri_one8 (w.alloc (.cells #[.string wght8.tx, .int .i64 wght8.lo, .int .i64 wght8.us, .int .i64 wght8.hi] 33)) 650 ⟨by decide, by decide⟩ 3
  have hbW : Below w.heap.size w ((w.alloc (.cells #[.string wght8.tx, .int .i64 wght8.lo, .int .i64 wght8.us, .int .i64 wght8.hi] 33)).alloc (.cells #[.int .i64 650] 3)) := al2 _ _
  have hat := cat_any _ _ _ none 0 [] _ _ _ _ hA (Pzz.nil _ _ _ (Nat.zero_le _)) hP (by decide)
  rw [wght8_at, exE_yes wght8_fi] at hat
  simp only [wght8, List.length_cons, List.length_nil] at hat hbW
  rw [show (w.alloc (.cells #[.string ⟨#[119, 103, 104, 116]⟩, .int .i64 100, .int .i64 400, .int .i64 900] 33)).heap.size = w.heap.size + 1 by simp] at hat
  clear hA hP
  go_enter Try.func7, Try.ntmps7
  go_wp2_with fail
  refine hat.mono ?_
  rintro e u1 ⟨a1, c1, rfl, hR, hb1⟩
  obtain ⟨b, off, ea, hb, d0⟩ := hR.at (Below.refl _ _) 0 (by decide)
  subst ea
  replace hbW := hbW.trans (hb1.mono hbW.size)
  have k1 := hR.2.1
  clear hat hb1 hR
  simp at d0
  go_wp2
  go_ret
  exact ⟨rfl, hbW⟩

end Go.Proofs.Ytdpafdeoepbhaaa

namespace Go.Proofs.Ytdpafdeoepbhaaa
open Go.RowKit
set_option linter.unusedSimpArgs false
set_option linter.unusedVariables false

/-- A slice of integers that came in: it is nil; or it leads to a row of 'cap' cells, the numbers 'zs' (the first 'len' are its elements), each fitting its kind. -/
def IsRowK (k : IntKind) (w : World) (a : Option Addr) (len cap : Nat) (zs : List Int) : Prop :=
  (a = none ∧ len = 0 ∧ cap = 0 ∧ zs = []) ∨
  ∃ x, a = some x ∧ len ≤ cap ∧ cap ≤ maxLen ∧ zs.length = cap ∧ (∀ i, i < zs.length → w.cell? (x.add i) = some (.int k (zs.getD i 0))) ∧ ∀ n ∈ zs, (Lit.int k n).wf = true

theorem wfo_u8_bounds {n : Int} (h : (Lit.int .u8 n).wf = true) : 0 ≤ n ∧ n < 256 := by
  simp [Lit.wf, IntKind.min, IntKind.max, IntKind.bits, IntKind.signed] at h
  omega
theorem wfo_i32_bounds {n : Int} (h : (Lit.int .i32 n).wf = true) : -2147483648 ≤ n ∧ n ≤ 2147483647 := by
  simp [Lit.wf, IntKind.min, IntKind.max, IntKind.bits, IntKind.signed] at h
  omega
theorem wfo_i64_bounds {n : Int} (h : (Lit.int .i64 n).wf = true) : -9223372036854775808 ≤ n ∧ n ≤ 9223372036854775807 := by
  simp [Lit.wf, IntKind.min, IntKind.max, IntKind.bits, IntKind.signed] at h
  omega

theorem IsRowK.cells {k : IntKind} {w : World} {a : Option Addr} {len cap : Nat} {zs : List Int} (h : IsRowK k w a len cap zs) :
    ∃ ys : List Int, len = ys.length ∧ (∀ y ∈ ys, (Lit.int k y).wf = true) ∧ ys.length ≤ cap ∧ cap ≤ maxLen ∧ (a = none → cap = 0) ∧
      (ys = [] ∨ ∃ b off, a = some ⟨b, off, none⟩ ∧ b < w.heap.size ∧ ∀ i, i < ys.length → w.cell? ⟨b, off + i, none⟩ = some (.int k (ys.getD i 0))) := by
  rcases h with ⟨rfl, rfl, rfl, rfl⟩ | ⟨x, rfl, h1, h2, h3, hc, hw⟩
  · exact ⟨[], rfl, (fun y hy => by cases hy), Nat.le_refl _, Nat.zero_le _, fun _ => rfl, .inl rfl⟩
  · refine ⟨zs.take len, by simp; omega, fun y hy => hw y (List.mem_of_mem_take hy), by simp; omega, h2, (by simp), ?_⟩
    by_cases h0 : len = 0
    · exact .inl (by simp [h0])
    · obtain ⟨b, off, spot⟩ := x
      have c0 := hc 0 (by omega)
      have hspot : spot = none := by simpa [Addr.add] using World.cell?_spot c0
      subst hspot
      refine .inr ⟨b, off, rfl, ?_, fun i hi => ?_⟩
      · have := World.block_lt_of_cell? w _ c0
        simpa [Addr.add] using this
      · simp at hi
        have hadd : (⟨b, off, none⟩ : Addr).add i = ⟨b, off + i, none⟩ := by unfold Addr.add; split <;> simp_all
        have hci := hc i (by omega)
        rw [hadd] at hci
        rw [hci]
        simp [List.getD, show i < len by omega]

theorem IsRowK.rb {w : World} {a : Option Addr} {len cap : Nat} {zs : List Int} (h : IsRowK .u8 w a len cap zs) : ∃ xs : List Nat, len = xs.length ∧ Rb w a cap xs := by
  obtain ⟨ys, h1, h2, h3, h4, h5, h6⟩ := h.cells
  have hb : ∀ y ∈ ys, 0 ≤ y ∧ y < 256 := fun y hy => wfo_u8_bounds (h2 y hy)
  refine ⟨ys.map Int.toNat, by simp [h1], ?_, by simpa using h3, h4, h5, ?_⟩
  · intro x hx
    obtain ⟨y, hy, rfl⟩ := List.mem_map.1 hx
    have := hb y hy
    omega
  · rcases h6 with rfl | ⟨b, off, e, hlt, hc⟩
    · exact .inl rfl
    · refine .inr ⟨b, off, e, hlt, fun i hi => ?_⟩
      simp at hi
      rw [hc i hi]
      have h0 : ys.getD i 0 = ys[i] := by simp [List.getD, hi]
      have hy := hb ys[i] (List.getElem_mem hi)
      rw [h0]
      simp [List.getD, hi]
      omega

end Go.Proofs.Ytdpafdeoepbhaaa

namespace Go.Proofs.Ytdpafdeoepbhaaa
open Go.RowKit
open Go.ChangeShapes Go.WideShapes Go.Joins Go.Deep
set_option linter.unusedSimpArgs false
set_option linter.unusedVariables false

theorem list_of_ltA {α : Type} {d : α} {p : Nat → α → Prop} : ∀ n, (∀ i, i < n → ∃ o, p i o) → ∃ os : List α, os.length = n ∧ ∀ i, i < n → p i (os.getD i d) := by
  intro n
  induction n with
  | zero => exact fun _ => ⟨[], rfl, fun i hi => by omega⟩
  | succ n ih =>
    intro h
    obtain ⟨os, hl, ho⟩ := ih (fun i hi => h i (by omega))
    obtain ⟨o, h1⟩ := h n (by omega)
    refine ⟨os ++ [o], by simp [hl], fun i hi => ?_⟩
    by_cases hi' : i < n
    · have e : (os ++ [o]).getD i d = os.getD i d := by simp [List.getD, List.getElem?_append_left (show i < os.length by omega)]
      rw [e]
      exact ho i hi'
    · have e : i = n := by omega
      subst e
      have e : (os ++ [o]).getD i d = o := by simp [List.getD, ← hl]
      rw [e]
      exact h1
theorem add0A (y : Addr) : y.add 0 = y := by
  obtain ⟨b, off, spot⟩ := y
  cases spot <;> simp [Addr.add]

theorem cellsAx : Try.prog.cellsOf 33 = 4 := by kernel_rfl
theorem cellsAi : Try.prog.cellsOf 3 = 1 := by kernel_rfl
theorem cellsAs : Try.prog.cellsOf 9 = 1 := by kernel_rfl

set_option maxRecDepth 100000 in
/-- An axis by value. -/
theorem open_axis {H : Type} {enc : TypeId × Value → H} {W : World} {sp : Nat → Bool} {held : Bool} {r : Reach} {b0 : Nat} {v : Value} {d : DataW H} {p : List MemPlace}
    (hv : Value.okWide Try.prog W r b0 33 v) (h : DataW.Trod enc Try.prog W 0 sp held 33 v d p) :
    ∃ t : Ax, v = .agg (axC t) ∧ Axw t := by
  obtain ⟨v0, v1, v2, v3, y0, y1, y2, y3, n, rfl, _, _, t0, t1, t2, t3⟩ := open_agg4 Try.underlying33 (by kernel_rfl) cellsAx hv h
  obtain ⟨tx, e0, _, w0⟩ := DataW.trod_string Try.underlying9 t0
  obtain ⟨z1, e1, _, w1⟩ := DataW.trod_int Try.underlying3 t1
  obtain ⟨z2, e2, _, w2⟩ := DataW.trod_int Try.underlying3 t2
  obtain ⟨z3, e3, _, w3⟩ := DataW.trod_int Try.underlying3 t3
  simp at e0 e1 e2 e3
  subst e0 e1 e2 e3
  exact ⟨⟨tx, z1, z2, z3⟩, rfl, w0, wfo_i64_bounds w1, wfo_i64_bounds w2, wfo_i64_bounds w3⟩

set_option maxRecDepth 100000 in
/-- A list of axes. -/
theorem open_axes {H : Type} {enc : TypeId × Value → H} {W : World} {sp : Nat → Bool} {held : Bool} {d : DataW H} {p : List MemPlace} {a : Option Addr} {len cap : Nat} (h : DataW.Trod enc Try.prog W 0 sp held 22 (.slice a len cap) d p) :
    ∃ l : List Ax, len = l.length ∧ As W a cap l := by
  obtain ⟨fuel, hf⟩ := h
  rcases open_slice Try.underlying22 hf with ⟨hcs, _⟩ | ⟨x, l, c, m, n, D, Pl, hcs, _, hl, hm, hmm, _, hel⟩
  · simp [Value.cells] at hcs
    obtain ⟨rfl, rfl, rfl⟩ := hcs
    exact ⟨[], rfl, As.nil _ _ _ (Nat.zero_le _)⟩
  · simp [Value.cells] at hcs
    obtain ⟨rfl, rfl, rfl⟩ := hcs
    have hle : len ≤ m := by rw [hmm]; split <;> omega
    have hone : ∀ i, i < len → ∃ o : Ax, Axw o ∧ W.cell? (x.add (i * 4)) = some (.string o.tx) ∧ W.cell? ((x.add (i * 4)).add 1) = some (.int .i64 o.lo) ∧ W.cell? ((x.add (i * 4)).add 2) = some (.int .i64 o.us) ∧ W.cell? ((x.add (i * 4)).add 3) = some (.int .i64 o.hi) := by
      intro i hi
      obtain ⟨cs', hc, ht⟩ := hel i (by omega)
      rw [cellsAx] at hc
      obtain ⟨y0, y1, y2, y3, n', hx, hlen, t0, t1, t2, t3⟩ := trod_struct4 Try.underlying33 ht
      rw [cellsAx] at hlen
      match cs', hlen with
      | [v0, v1, v2, v3], _ =>
        dsimp only at t0 t1 t2 t3
        rw [cellsAi] at t1 t2 t3
        rw [cellsAs] at t0
        obtain ⟨tx, e0, _, w0⟩ := DataW.trod_string Try.underlying9 t0
        obtain ⟨z1, e1, _, w1⟩ := DataW.trod_int Try.underlying3 t1
        obtain ⟨z2, e2, _, w2⟩ := DataW.trod_int Try.underlying3 t2
        obtain ⟨z3, e3, _, w3⟩ := DataW.trod_int Try.underlying3 t3
        simp at e0 e1 e2 e3
        subst e0 e1 e2 e3
        obtain ⟨_, _, hcell⟩ := World.cells?_some hc
        refine ⟨⟨tx, z1, z2, z3⟩, ⟨w0, wfo_i64_bounds w1, wfo_i64_bounds w2, wfo_i64_bounds w3⟩, ?_, hcell 1 (by omega), hcell 2 (by omega), hcell 3 (by omega)⟩
        have := hcell 0 (by omega)
        rw [add0A] at this
        exact this
    obtain ⟨os, hol, ho⟩ := list_of_ltA (d := Ax.none) len hone
    refine ⟨os, hol.symm, by omega, hm, fun o hm => ?_, fun i hi => ?_⟩
    · obtain ⟨i, hi, e⟩ := List.getElem_of_mem hm
      have := (ho i (by omega)).1
      rw [List.getD_eq_getElem?_getD, List.getElem?_eq_getElem hi] at this
      rw [← e]
      exact this
    · obtain ⟨_, c1, c2, c3, c4⟩ := ho i (by omega)
      obtain ⟨b, off, spot⟩ := x
      have hspot : spot = none := by
        have := World.cell?_spot (ho 0 (by omega)).2.1
        simpa [Addr.add] using this
      subst hspot
      have hadd : ∀ i, (⟨b, off, none⟩ : Addr).add i = ⟨b, off + i, none⟩ := by intro i; unfold Addr.add; split <;> simp_all
      have hadd2 : ∀ i j, ((⟨b, off, none⟩ : Addr).add i).add j = ⟨b, off + i + j, none⟩ := by intro i j; rw [hadd]; unfold Addr.add; split <;> simp_all
      have hlt := World.block_lt_of_cell? W _ c1
      rw [hadd] at c1 hlt
      rw [hadd2] at c2 c3 c4
      exact ⟨b, off, rfl, hlt, c1, c2, c3, c4⟩

theorem IsRowK.ri {w : World} {a : Option Addr} {len cap : Nat} {zs : List Int} (h : IsRowK .i64 w a len cap zs) : ∃ xs : List Int, len = xs.length ∧ Ri w a cap xs := by
  obtain ⟨ys, h1, h2, h3, h4, h5, h6⟩ := h.cells
  exact ⟨ys, h1, fun y hy => wfo_i64_bounds (h2 y hy), h3, h4, h6⟩

end Go.Proofs.Ytdpafdeoepbhaaa
