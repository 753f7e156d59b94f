/-
  store.Change: the walk.
  store.Value, store.Rounded: the walks.
  foundrylaw10.little, foundrylaw10.awake, foundryref10.Few: the walks.
-/
import Derived.Test.YtchdoakoelfenaaGreatZX15
import Derived.Test.YtchdoakoelfenaaGreatZX16
import Derived.Test.YtchdoakoelfenaaGreatZX17
import Derived.Test.YtchdoakoelfenaaGreatZX5
import Derived.Deep.CutRange
import Derived.Deep.CutBlock
namespace Go.Proofs.YtchdoakoelfenaaGreat
open Go.RowKit Go.Maps
set_option linter.unusedSimpArgs false
set_option linter.unusedVariables false

theorem Box.new1S (t : TypeId) (w : World) (o : Obj) (x y z : Value) : Box t ((w.alloc o).alloc (.cells #[x, y, z] t)) (w.heap.size + 1) x y z := by
  have h := Box.new t (w.alloc o) x y z
  simpa using h
theorem rwB_no {s : Sr} {i : Int} (h : hrB s i = false) : rwB s i = false := by
  rw [Bool.eq_false_iff]
  intro e
  have := rwB_iff.1 e
  rw [hrB, decide_eq_true this.1, decide_eq_true this.2.1] at h
  cases h

set_option maxHeartbeats 8000000 in
set_option maxRecDepth 100000 in
theorem cchange_any (a : Option Addr) (ca : Nat) (b : Option Addr) (cb : Nat) (s : Sr) (i : Int) (pa : Option Addr) (pc : Nat) (cs : List Int) (w : World) (hg : Tzz w a ca s.rg) (hm : Rii w b cb s.rw) (hp : Ri w pa pc cs) (hl : s.rg.length ≤ 40) (h8 : ∀ l ∈ s.rg, l.length ≤ 8) :
    Calls Tryz.prog 74 #[.agg #[.slice a s.rg.length ca, .slice b s.rw.length cb], .int .i64 i, .slice pa cs.length pc] w fun e w' => ∃ v', e = .returned v' ∧ Fr w' v' 1000 (chQ s i cs) ∧ Below w.heap.size w w' := by
  have k1 := hg.lenB
  have k2 := hm.lenB
  have k3 := hp.lenB
  have HG : Hid (Tzz w a ca s.rg) := hg
  have HM : Hid (Rii w b cb s.rw) := hm
  have HP : Hid (Ri w pa pc cs) := hp
  have HL8 : Hid (∀ l ∈ s.rg, l.length ≤ 8) := h8
  clear hg hm hp h8
  obtain ⟨W, hW, X1, B0, hbW⟩ : ∃ W, W = (w.alloc (.cells #[.slice a s.rg.length ca, .slice b s.rw.length cb] 29)).alloc (.cells #[.bool false, .slice none 0 0, .slice none 0 0] 109) ∧ BxS W w.heap.size (.slice a s.rg.length ca) (.slice b s.rw.length cb) ∧ Box 109 W (w.heap.size + 1) (.bool false) (.slice none 0 0) (.slice none 0 0) ∧ Below w.heap.size w W := ⟨_, rfl, (BxS.new _ _ _).below (bl1 _), Box.new1S _ _ _ _ _ _, bl2 _ _⟩
  have hhr := fun U => chasRow_any (.slice a s.rg.length ca) b cb s i U k2 rfl
  cases hh : hrB s i with
  | false =>
    have HQ : Hid (((0 : Int) : Rat) = chQ s i cs) := by show _ = _; rw [chQ_no (rwB_no hh)]; rfl
    simp only [hh] at hhr
    clear hh
    go_enter Tryz.func74, Tryz.ntmps74
    go_upto_region 1 with fail
    rw [← hW]
    clear hW
    obtain ⟨p00, p01, _⟩ := X1.cells
    refine wp_region_held_drew (S := (fun u => u.cell? ⟨w.heap.size, 0, none⟩ = some (.slice a s.rg.length ca) ∧ u.cell? ⟨w.heap.size, 1, none⟩ = some (.slice b s.rw.length cb))) (by kernel_rfl) ?_ (fun hHeld => ?_)
    · (try dsimp only)
      go_keep
    have hdr : Below W.heap.size W W.drew := Below.drew1
    generalize W.drew = ud1 at hdr hHeld ⊢
    replace B0 := B0.below hdr
    replace X1 := X1.below hdr
    replace hbW : Below w.heap.size w ud1 := hbW.trans (hdr.mono hbW.size)
    clear hdr
    clear p00 p01
    obtain ⟨p00, p01, _⟩ := X1.cells
    refine hT 0 hHeld ?_
    refine hT 1 hHeld ?_
    refine hCall (i := 2) rfl (by kernel_rfl) (by rfl) (fun K hK => ?_)
    go_simp
    refine (hhr _).mono ?_
    rintro e u1 ⟨rfl, hb1⟩
    replace B0 := B0.below hb1
    replace X1 := X1.below hb1
    replace hbW : Below w.heap.size w u1 := hbW.trans (hb1.mono hbW.size)
    clear hb1
    clear p00 p01
    obtain ⟨p00, p01, _⟩ := X1.cells
    go_wp2_with fail
    refine hK.out _ _ ?_ (fun hHeld => ?_)
    · (try dsimp only)
      exact ⟨p00, p01⟩
    clear hK K
    try simp only [Act.put, List.setIfInBounds_toArray, List.set_cons_zero, List.set_cons_succ]
    refine hT 3 hHeld ?_
    refine hT 4 hHeld ?_
    refine hN 5 hHeld ?_
    refine hN 6 hHeld ?_
    refine hN 7 hHeld ?_
    refine hN 8 hHeld ?_
    refine hN 9 hHeld ?_
    refine hN 10 hHeld ?_
    refine hN 11 hHeld ?_
    refine hN 12 hHeld ?_
    refine hN 13 hHeld ?_
    refine hN 14 hHeld ?_
    refine hT 15 hHeld ?_
    refine wpAnyH_done (by kernel_rfl) ?_ _
    clear hHeld
    go_wp2_with fail
    refine (whole_any 0 _ (by decide) (by decide)).mono ?_
    rintro e u8 ⟨v9, rfl, hF9, hb8⟩
    replace B0 := B0.below hb8
    replace hbW := hbW.trans (hb8.mono hbW.size)
    clear hb8
    rw [HQ.out] at hF9
    obtain ⟨n9, x9, y9, ⟨a9, c9, b9, d9, rfl, hx9, hy9⟩, hF9⟩ := hF9
    obtain ⟨q1, q2, q3, q4, q5, q6⟩ := B0.cells
    have hs := B0.lt
    go_wp2
    refine ret3 (v := .agg #[.bool n9, .slice a9 x9.length c9, .slice b9 y9.length d9]) B0 rfl (fun U hU => by obtain ⟨r1, r2, r3, _⟩ := hU.cells; simp [results, Tryz.results74, go_sem, r1, r2, r3]) (fun U hU hK => ⟨_, rfl, Fr.le (k := 2) ⟨_, _, _, ⟨_, _, _, _, rfl, hK _ _ _ hx9, hK _ _ _ hy9⟩, hF9⟩ (by decide), hU _ _ hbW (by omega)⟩)
  | true =>
    simp only [hh] at hhr
    have hij : 0 ≤ i ∧ i < (s.rw.length : Int) := by
      rw [hrB, Bool.and_eq_true, decide_eq_true_iff, decide_eq_true_iff] at hh
      exact hh
    clear hh
    obtain ⟨j, rfl⟩ : ∃ j : Nat, i = (j : Int) := ⟨i.toNat, (Int.toNat_of_nonneg hij.1).symm⟩
    have hj : j < s.rw.length := by omega
    obtain ⟨b1, o1, a1, c1, ea, hb1, d0, hr⟩ := HM.out.2.2 j hj
    have HRQ : Hid (rwB s (j : Int) = decide ((s.rw.getD j []).length = s.rg.length)) := by
      show _ = _
      rw [rwB, Int.toNat_natCast]
      exact decide_eq_decide.2 ⟨fun h => h.2.2, fun h => ⟨hij.1, hij.2, h⟩⟩
    have HCQ : Hid (rwB s (j : Int) = true → chQ s (j : Int) cs = chK s.rg (s.rw.getD j []) cs s.rg.length) := fun h => by rw [chQ_yes h, Int.toNat_natCast]
    obtain ⟨r, hrr⟩ : ∃ r, s.rw.getD j [] = r := ⟨_, rfl⟩
    rw [hrr] at d0 hr HRQ HCQ
    have HR : Hid (Ri w a1 c1 r) := hr
    have k4 := hr.lenB
    subst ea
    have A0 : Cl W b1 (o1 + j) (.slice a1 r.length c1) := ⟨Nat.lt_of_lt_of_le hb1 hbW.size, (hbW.cell (p := ⟨b1, o1 + j, none⟩) hb1).trans d0⟩
    clear hrr hr
    have i1 : (0 : Int) ≤ (j : Int) := by omega
    have i2 : (j : Int) < (s.rw.length : Int) := by omega
    clear d0
    by_cases hlen : r.length = s.rg.length
    · have HQ : Hid (chK s.rg r cs r.length = chQ s (j : Int) cs) := by show _ = _; rw [HCQ.out (by rw [HRQ.out]; exact decide_eq_true hlen), hlen]
      have g5 : ((r.length : Int) != (s.rg.length : Int)) = false := by simp [hlen]
      have HLN : Hid (r.length = s.rg.length) := hlen
      have q0 := A0.2
      clear HRQ HCQ hlen
      go_enter Tryz.func74, Tryz.ntmps74
      go_upto_region 1 with fail
      rw [← hW]
      clear hW
      obtain ⟨p00, p01, _⟩ := X1.cells
      refine wp_region_held_drew (S := (fun u => u.cell? ⟨w.heap.size, 0, none⟩ = some (.slice a s.rg.length ca) ∧ u.cell? ⟨w.heap.size, 1, none⟩ = some (.slice (some ⟨b1, o1, none⟩) s.rw.length cb) ∧ u.cell? ⟨b1, o1 + j, none⟩ = some (.slice a1 r.length c1))) (by kernel_rfl) ?_ (fun hHeld => ?_)
      · (try dsimp only)
        go_keep
      have hdr : Below W.heap.size W W.drew := Below.drew1
      generalize W.drew = ud2 at hdr hHeld ⊢
      replace A0 := A0.below hdr
      replace B0 := B0.below hdr
      replace X1 := X1.below hdr
      replace hbW : Below w.heap.size w ud2 := hbW.trans (hdr.mono hbW.size)
      clear hdr
      clear p00 p01
      obtain ⟨p00, p01, _⟩ := X1.cells
      refine hT 0 hHeld ?_
      refine hT 1 hHeld ?_
      refine hCall (i := 2) rfl (by kernel_rfl) (by rfl) (fun K hK => ?_)
      go_simp
      refine (hhr _).mono ?_
      rintro e u1 ⟨rfl, hb1⟩
      replace A0 := A0.below hb1
      replace B0 := B0.below hb1
      replace X1 := X1.below hb1
      replace hbW : Below w.heap.size w u1 := hbW.trans (hb1.mono hbW.size)
      clear hb1
      clear p00 p01
      obtain ⟨p00, p01, _⟩ := X1.cells
      go_wp2_with fail
      refine hK.out _ _ ?_ (fun hHeld => ?_)
      · (try dsimp only)
        exact ⟨p00, p01, A0.2⟩
      clear hK K
      try simp only [Act.put, List.setIfInBounds_toArray, List.set_cons_zero, List.set_cons_succ]
      refine hT 3 hHeld ?_
      refine hT 4 hHeld ?_
      refine hT 5 hHeld ?_
      refine hT 6 hHeld ?_
      refine hT 7 hHeld ?_
      refine hT 8 hHeld ?_
      refine hT 9 hHeld ?_
      refine hT 10 hHeld ?_
      refine hT 11 hHeld ?_
      refine hT 12 hHeld ?_
      refine hT 13 hHeld ?_
      refine hT 14 hHeld ?_
      refine hT 15 hHeld ?_
      refine wpAnyH_done (by kernel_rfl) ?_ _
      clear hHeld hhr
      have q0 := A0.2
      go_wp2
      have HX : Hid (BxS u1 w.heap.size (.slice a s.rg.length ca) (.slice (some ⟨b1, o1, none⟩) s.rw.length cb)) := X1
      have HB0 : Hid (Box 109 u1 (w.heap.size + 1) (.bool false) (.slice none 0 0) (.slice none 0 0)) := B0
      have HBW : Hid (Below w.heap.size w u1) := hbW
      clear X1 B0 hbW A0 q0 p00 p01 g5
      go_loopw [7, 34] (fun v i wr => ∃ (k : Nat) (qs : List Rat), k ≤ r.length ∧ i = .int .i64 (k : Int) ∧ qs.length ≤ k ∧ suQ qs = chK s.rg r cs k ∧ Ro 109 u1.heap.size wr v 20 qs ∧ Below u1.heap.size u1 wr) (fun _ i _ => r.length - (intOf i).toNat)
      case atStart => exact ⟨0, [], Nat.zero_le _, rfl, Nat.le_refl _, rfl, Ro.nil _ _ _ _, Below.refl _ _⟩
      case round =>
        obtain ⟨k, qs, hk, rfl, hql, hsum, hT, hBV⟩ := hrel
        obtain ⟨a2, c2, rfl, hts⟩ := hT.slice
        have HT : Hid (Ro 109 u1.heap.size wr (.slice a2 qs.length c2) 20 qs) := hT
        have HSU : Hid (suQ qs = chK s.rg r cs k) := hsum
        clear hT hsum
        have hbW := HBW.out.trans (hBV.mono HBW.out.size)
        by_cases hkn : k < r.length
        · clear hts
          have hkg : k < s.rg.length := by rw [← HLN.out]; exact hkn
          obtain ⟨rb, ro, er, hrb, dz⟩ := HR.out.at hbW k hkn
          subst er
          have hzi := HR.out.i64 hkn
          obtain ⟨z, hz⟩ : ∃ z, r.getD k 0 = z := ⟨_, rfl⟩
          have HZ : Hid (r.getD k 0 = z) := hz
          rw [hz] at dz hzi
          clear hz
          by_cases hz0 : z = 0
          · have g6 : (z == 0) = true := by simp [hz0]
            have HS2 : Hid (suQ qs = chK s.rg r cs (k + 1)) := chK_skip HSU.out (.inl (by rw [HZ.out, hz0]))
            clear hz0 HZ HSU
            go_wp2
            go_roundw
            case rel => exact ⟨k + 1, qs, by omega, by go_num, by omega, HS2.out, HT.out, hBV⟩
            case measure => simp [intOf]; omega
          have g6 : (z == 0) = false := by simp [hz0]
          obtain ⟨b3, o3, a3, c3, e3, hb3, d3, hl3⟩ := HG.out.at hbW k hkg
          have hl8 := HL8.out _ (getL_mem hkg)
          obtain ⟨l, hl⟩ : ∃ l, s.rg.getD k [] = l := ⟨_, rfl⟩
          have HL : Hid (s.rg.getD k [] = l) := hl
          rw [hl] at d3 hl3 hl8
          subst e3
          clear hl hz0
          have X1 := HX.out.below hBV
          obtain ⟨q1, q2, _⟩ := X1.cells
          have hp := HP.out.below hbW
          have hca := callT_any a3 c3 l pa pc cs wr hl3 hp (by omega)
          obtain ⟨q, hq⟩ : ∃ q, alQ l cs = q := ⟨_, rfl⟩
          have HQL : Hid (alQ l cs = q) := hq
          rw [hq] at hca
          clear hq hp hl3
          go_wp2_with fail
          refine hca.mono ?_
          rintro e t1 ⟨v8, rfl, hF8, hb1⟩
          obtain ⟨n8, x8, y8, ⟨a8, c8, b8, d8, rfl, hx8, hy8⟩, hF8⟩ := hF8
          obtain ⟨U, hU, P8, hb9⟩ : ∃ U, U = t1.alloc (.cells #[.bool n8, .slice a8 x8.length c8, .slice b8 y8.length d8] 109) ∧ Box 109 U t1.heap.size (.bool n8) (.slice a8 x8.length c8) (.slice b8 y8.length d8) ∧ Below t1.heap.size t1 U := ⟨_, rfl, Box.new _ _ _ _ _, al1 _⟩
          have hF8 : Fr U (.agg #[.bool n8, .slice a8 x8.length c8, .slice b8 y8.length d8]) (2 + 2 * l.length) q := Fr.below ⟨_, _, _, ⟨_, _, _, _, rfl, hx8, hy8⟩, hF8⟩ hb9
          have hbR : Below wr.heap.size wr U := hb1.trans (hb9.mono hb1.size)
          have hg8 : wr.heap.size ≤ t1.heap.size := hb1.size
          clear hca hx8 hy8 X1 q1 q2 d3 dz
          go_wp2_with fail
          rw [← hU]
          clear hU hb9 hb1
          generalize t1.heap.size = g8 at *
          refine (qsign_any (2 + 2 * l.length) q _ _ hF8.ct (by omega) (by omega)).mono ?_
          rintro e t2 ⟨rfl, hb2⟩
          replace P8 := P8.below hb2
          replace hF8 := hF8.below hb2
          replace hbR := hbR.trans (hb2.mono hbR.size)
          replace hbW := hbW.trans (hbR.mono hbW.size)
          clear hb2
          by_cases hq : q = 0
          · have e1 : sgnQ q = 0 := sgnQ_zero.2 hq
            have HS2 : Hid (suQ qs = chK s.rg r cs (k + 1)) := chK_skip HSU.out (.inr (by rw [HL.out, HQL.out, hq]))
            have hT2 := HT.out.below hbR
            have hBV2 := hBV.trans (hbR.mono hBV.size)
            rw [e1]
            clear e1 hq HZ HSU hF8 P8 hbR hbW
            go_wp2
            go_roundw
            case rel => exact ⟨k + 1, qs, by omega, by go_num, by omega, HS2.out, hT2, hBV2⟩
            case measure => simp [intOf]; omega
          have HS2 : Hid (suQ (qs ++ [((z : Int) : Rat) * q]) = chK s.rg r cs (k + 1)) := by
            have := chK_sum (k := k) HSU.out
            rw [HZ.out, HL.out, HQL.out] at this
            exact this
          have e1 : ¬ sgnQ q = 0 := fun e => hq (sgnQ_zero.1 e)
          have g1 : (sgnQ q != 0) = true := by simp [e1]
          generalize sgnQ q = sg at *
          clear e1 hq HZ HSU HL HQL
          have hll : qs.length + 1 ≤ 1000000 := by have := HLN.out; omega
          go_upto_region 10 with fail
          obtain ⟨p00, p01, p02, _⟩ := P8.cells
          refine wp_region_held_drew (S := (fun u => u.cell? ⟨g8, 0, none⟩ = some (.bool n8) ∧ u.cell? ⟨g8, 1, none⟩ = some (.slice a8 x8.length c8) ∧ u.cell? ⟨g8, 2, none⟩ = some (.slice b8 y8.length d8))) (by kernel_rfl) ?_ (fun hHeld => ?_)
          · (try dsimp only)
            go_keep
          have hdr : Below t2.heap.size t2 t2.drew := Below.drew1
          generalize t2.drew = ud3 at hdr hHeld ⊢
          replace hF8 := hF8.below hdr
          replace P8 := P8.below hdr
          replace hbW : Below w.heap.size w ud3 := hbW.trans (hdr.mono hbW.size)
          replace hbR : Below wr.heap.size wr ud3 := hbR.trans (hdr.mono hbR.size)
          clear hdr
          clear p00 p01 p02
          obtain ⟨p00, p01, p02, _⟩ := P8.cells
          refine hT 0 hHeld ?_
          refine hT 1 hHeld ?_
          refine hT 3 hHeld ?_
          refine hCall (i := 2) rfl (by kernel_rfl) (by rfl) (fun K hK => ?_)
          go_simp
          refine (whole_any z _ hzi.1 (by have := hzi.2; omega)).mono ?_
          rintro e u3 ⟨v6, rfl, hF6, hb3⟩
          replace hF8 := hF8.below hb3
          replace P8 := P8.below hb3
          replace hbW : Below w.heap.size w u3 := hbW.trans (hb3.mono hbW.size)
          replace hbR : Below wr.heap.size wr u3 := hbR.trans (hb3.mono hbR.size)
          clear hb3
          clear p00 p01 p02
          obtain ⟨p00, p01, p02, _⟩ := P8.cells
          go_wp2_with fail
          refine hK.out _ _ ?_ (fun hHeld => ?_)
          · (try dsimp only)
            exact ⟨p00, p01, p02⟩
          clear hK K
          try simp only [Act.put, List.setIfInBounds_toArray, List.set_cons_zero, List.set_cons_succ]
          refine hCall (i := 4) rfl (by kernel_rfl) (by rfl) (fun K hK => ?_)
          go_simp
          refine (qmul_any 2 (2 + 2 * l.length) _ _ _ _ _ hF6.ct hF8.ct (by decide) (by omega) (by decide) (by omega)).mono ?_
          rintro e u4 ⟨v9, rfl, hF9, hb4⟩
          replace hF8 := hF8.below hb4
          replace hF6 := hF6.below hb4
          replace P8 := P8.below hb4
          replace hbW : Below w.heap.size w u4 := hbW.trans (hb4.mono hbW.size)
          replace hbR : Below wr.heap.size wr u4 := hbR.trans (hb4.mono hbR.size)
          clear hb4
          obtain ⟨n9, x9, y9, ⟨a9, c9, b9, d9, rfl, hx9, hy9⟩, hF9⟩ := hF9
          have hF9 : Fr u4 (.agg #[.bool n9, .slice a9 x9.length c9, .slice b9 y9.length d9]) 20 (((z : Int) : Rat) * q) := Fr.le (k := 2 + (2 + 2 * l.length)) ⟨_, _, _, ⟨_, _, _, _, rfl, hx9, hy9⟩, hF9⟩ (by omega)
          clear hx9 hy9
          clear p00 p01 p02
          obtain ⟨p00, p01, p02, _⟩ := P8.cells
          go_wp2_with fail
          refine hK.out _ _ ?_ (fun hHeld => ?_)
          · (try dsimp only)
            exact ⟨p00, p01, p02⟩
          clear hK K
          try simp only [Act.put, List.setIfInBounds_toArray, List.set_cons_zero, List.set_cons_succ]
          refine hCall (i := 5) rfl (by kernel_rfl) (by rfl) (fun K hK => ?_)
          go_simp
          obtain ⟨u65, hU4, B4, hb4⟩ : ∃ U4, U4 = u4.alloc (.cells #[.bool n9, .slice a9 x9.length c9, .slice b9 y9.length d9] 109) ∧ Box 109 U4 u4.heap.size (.bool n9) (.slice a9 x9.length c9) (.slice b9 y9.length d9) ∧ Below u4.heap.size u4 U4 := ⟨_, rfl, Box.new _ _ _ _ _, bl1 _⟩
          rw [← hU4]
          clear hU4
          replace hF8 := hF8.below hb4
          replace hF9 := hF9.below hb4
          replace P8 := P8.below hb4
          replace hbW : Below w.heap.size w u65 := hbW.trans (hb4.mono hbW.size)
          replace hbR : Below wr.heap.size wr u65 := hbR.trans (hb4.mono hbR.size)
          clear p00 p01 p02
          obtain ⟨p00, p01, p02, _⟩ := P8.cells
          refine hK.out _ _ ?_ (fun hHeld => ?_)
          · (try dsimp only)
            exact ⟨p00, p01, p02⟩
          clear hK K
          try simp only [Act.put, List.setIfInBounds_toArray, List.set_cons_zero, List.set_cons_succ]
          refine hCall (i := 6) rfl (by kernel_rfl) (by rfl) (fun K hK => ?_)
          obtain ⟨r0, r1, r2, _⟩ := B4.cells
          have hT4 := HT.out.below hbR
          have hbs : u1.heap.size ≤ u65.heap.size := Nat.le_trans hBV.size hbR.size
          refine wp_append_rt _ _ rfl u1.heap.size _ 20 qs (((z : Int) : Rat) * q) rfl hT4 u4.heap.size _ _ _ rfl r0 r1 r2 hF9 hll hbs ?_
          intro v' w9 hT9 hgrow
          have hB9 : Below u1.heap.size u1 w9 := (hBV.trans (hbR.mono hBV.size)).grown hgrow hbs (fun k hk => (HT.out.lo hk).1)
          have hne : some g8 ≠ Value.ownBlock (.slice a2 qs.length c2) := fun e => absurd (HT.out.lo e.symm).2 (Nat.not_lt.2 hg8)
          replace p00 := hgrow.cell p00 hne
          replace p01 := hgrow.cell p01 hne
          replace p02 := hgrow.cell p02 hne
          refine hK.out _ _ ?_ (fun hHeld => ?_)
          · (try dsimp only)
            exact ⟨p00, p01, p02⟩
          clear hK K
          try simp only [Act.put, List.setIfInBounds_toArray, List.set_cons_zero, List.set_cons_succ]
          refine hT 7 hHeld ?_
          refine wpAnyH_done (by kernel_rfl) ?_ _
          clear hHeld
          go_wp2
          go_roundw
          case rel => exact ⟨k + 1, qs ++ [((z : Int) : Rat) * q], by omega, by go_num, by simp; omega, HS2.out, hT9, hB9⟩
          case measure => simp [intOf]; omega
        · obtain rfl : k = r.length := by omega
          have hsu := csum_any qs.length a2 c2 qs wr rfl (by have := HLN.out; omega) hts
          rw [HSU.out, HQ.out] at hsu
          have B0 := HB0.out.below hBV
          clear hts HSU
          go_wp2_with fail
          refine hsu.mono ?_
          rintro e u8 ⟨v9, rfl, hF9, hb8⟩
          replace B0 := B0.below hb8
          replace hbW := hbW.trans (hb8.mono hbW.size)
          clear hb8 hsu
          have HLM : Hid (lmbS qs.length ≤ 1000) := by show _ ≤ _; have := HLN.out; unfold lmbS; split <;> omega
          generalize lmbS qs.length = km at *
          obtain ⟨n9, x9, y9, ⟨a9, c9, b9, d9, rfl, hx9, hy9⟩, hF9⟩ := hF9
          obtain ⟨q1, q2, q3, q4, q5, q6⟩ := B0.cells
          have hs := B0.lt
          go_wp2
          refine ret3 (v := .agg #[.bool n9, .slice a9 x9.length c9, .slice b9 y9.length d9]) B0 rfl (fun U hU => by obtain ⟨r1, r2, r3, _⟩ := hU.cells; simp [results, Tryz.results74, go_sem, r1, r2, r3]) (fun U hU hK => ⟨_, rfl, Fr.le (k := km) ⟨_, _, _, ⟨_, _, _, _, rfl, hK _ _ _ hx9, hK _ _ _ hy9⟩, hF9⟩ HLM.out, hU _ _ hbW (by omega)⟩)
    · have HQ : Hid (((0 : Int) : Rat) = chQ s (j : Int) cs) := by show _ = _; rw [chQ_no (by rw [HRQ.out]; exact decide_eq_false hlen)]; rfl
      have g5 : ((r.length : Int) != (s.rg.length : Int)) = true := bne_iff_ne.2 (by omega)
      have q0 := A0.2
      clear HRQ HCQ hlen
      go_enter Tryz.func74, Tryz.ntmps74
      go_upto_region 1 with fail
      rw [← hW]
      clear hW
      obtain ⟨p00, p01, _⟩ := X1.cells
      refine wp_region_held_drew (S := (fun u => u.cell? ⟨w.heap.size, 0, none⟩ = some (.slice a s.rg.length ca) ∧ u.cell? ⟨w.heap.size, 1, none⟩ = some (.slice (some ⟨b1, o1, none⟩) s.rw.length cb) ∧ u.cell? ⟨b1, o1 + j, none⟩ = some (.slice a1 r.length c1))) (by kernel_rfl) ?_ (fun hHeld => ?_)
      · (try dsimp only)
        go_keep
      have hdr : Below W.heap.size W W.drew := Below.drew1
      generalize W.drew = ud4 at hdr hHeld ⊢
      replace A0 := A0.below hdr
      replace B0 := B0.below hdr
      replace X1 := X1.below hdr
      replace hbW : Below w.heap.size w ud4 := hbW.trans (hdr.mono hbW.size)
      clear hdr
      clear p00 p01
      obtain ⟨p00, p01, _⟩ := X1.cells
      refine hT 0 hHeld ?_
      refine hT 1 hHeld ?_
      refine hCall (i := 2) rfl (by kernel_rfl) (by rfl) (fun K hK => ?_)
      go_simp
      refine (hhr _).mono ?_
      rintro e u1 ⟨rfl, hb1⟩
      replace A0 := A0.below hb1
      replace B0 := B0.below hb1
      replace X1 := X1.below hb1
      replace hbW : Below w.heap.size w u1 := hbW.trans (hb1.mono hbW.size)
      clear hb1
      clear p00 p01
      obtain ⟨p00, p01, _⟩ := X1.cells
      go_wp2_with fail
      refine hK.out _ _ ?_ (fun hHeld => ?_)
      · (try dsimp only)
        exact ⟨p00, p01, A0.2⟩
      clear hK K
      try simp only [Act.put, List.setIfInBounds_toArray, List.set_cons_zero, List.set_cons_succ]
      refine hT 3 hHeld ?_
      refine hT 4 hHeld ?_
      refine hT 5 hHeld ?_
      refine hT 6 hHeld ?_
      refine hT 7 hHeld ?_
      refine hT 8 hHeld ?_
      refine hT 9 hHeld ?_
      refine hT 10 hHeld ?_
      refine hT 11 hHeld ?_
      refine hT 12 hHeld ?_
      refine hT 13 hHeld ?_
      refine hT 14 hHeld ?_
      refine hT 15 hHeld ?_
      refine wpAnyH_done (by kernel_rfl) ?_ _
      clear hHeld
      go_wp2_with fail
      refine (whole_any 0 _ (by decide) (by decide)).mono ?_
      rintro e u8 ⟨v9, rfl, hF9, hb8⟩
      replace B0 := B0.below hb8
      replace hbW := hbW.trans (hb8.mono hbW.size)
      clear hb8
      rw [HQ.out] at hF9
      obtain ⟨n9, x9, y9, ⟨a9, c9, b9, d9, rfl, hx9, hy9⟩, hF9⟩ := hF9
      obtain ⟨q1, q2, q3, q4, q5, q6⟩ := B0.cells
      have hs := B0.lt
      go_wp2
      refine ret3 (v := .agg #[.bool n9, .slice a9 x9.length c9, .slice b9 y9.length d9]) B0 rfl (fun U hU => by obtain ⟨r1, r2, r3, _⟩ := hU.cells; simp [results, Tryz.results74, go_sem, r1, r2, r3]) (fun U hU hK => ⟨_, rfl, Fr.le (k := 2) ⟨_, _, _, ⟨_, _, _, _, rfl, hK _ _ _ hx9, hK _ _ _ hy9⟩, hF9⟩ (by decide), hU _ _ hbW (by omega)⟩)

end Go.Proofs.YtchdoakoelfenaaGreat

namespace Go.Proofs.YtchdoakoelfenaaGreat
open Go.RowKit Go.Maps
set_option linter.unusedSimpArgs false
set_option linter.unusedVariables false

theorem Box.new2S (t : TypeId) (w : World) (o o' : Obj) (x y z : Value) : Box t (((w.alloc o).alloc o').alloc (.cells #[x, y, z] t)) (w.heap.size + 2) x y z := by
  have h := Box.new t ((w.alloc o).alloc o') x y z
  simpa using h
/-- What a slot is rounded to. -/
def roN (s : Sr) (x r : Int) (cs : List Int) : Int := if fiS s x r then fldN (vaQ s x r cs + 1 / 2).floor else 0
def roE (s : Sr) (x r : Int) (cs : List Int) : Int := if fiS s x r then fldE (vaQ s x r cs + 1 / 2).floor else 1

set_option maxHeartbeats 4000000 in
set_option maxRecDepth 100000 in
theorem cvalue_any (a : Option Addr) (ca : Nat) (b : Option Addr) (cb : Nat) (s : Sr) (x r : Int) (pa : Option Addr) (pc : Nat) (cs : List Int) (w : World) (hg : Tzz w a ca s.rg) (hm : Rii w b cb s.rw) (hp : Ri w pa pc cs) (hx : I64 x) (hr : I64 r) (hl : s.rg.length ≤ 40) (h8 : ∀ l ∈ s.rg, l.length ≤ 8) :
    Calls Tryz.prog 58 #[.agg #[.slice a s.rg.length ca, .slice b s.rw.length cb], .agg #[.int .i64 x, .int .i64 r], .slice pa cs.length pc] w fun e w' => ∃ v', e = .returned v' ∧ Fr w' v' 1003 (vaQ s x r cs) ∧ Below w.heap.size w w' := by
  have k3 := hp.lenB
  have HV : Hid (((x : Int) : Rat) + chQ s r cs = vaQ s x r cs) := rfl
  have hch := fun U h1 h2 h3 => cchange_any a ca b cb s r pa pc cs U h1 h2 h3 hl h8
  obtain ⟨W, hW, X1, X2, B0, hbW⟩ : ∃ W, W = ((w.alloc (.cells #[.slice a s.rg.length ca, .slice b s.rw.length cb] 29)).alloc (.cells #[.int .i64 x, .int .i64 r] 45)).alloc (.cells #[.bool false, .slice none 0 0, .slice none 0 0] 109) ∧ BxS W w.heap.size (.slice a s.rg.length ca) (.slice b s.rw.length cb) ∧ BxL W (w.heap.size + 1) (.int .i64 x) (.int .i64 r) ∧ Box 109 W (w.heap.size + 2) (.bool false) (.slice none 0 0) (.slice none 0 0) ∧ Below w.heap.size w W := ⟨_, rfl, ((BxS.new _ _ _).below (bl1 _)).below (bl1 _), (BxL.new1 _ _ _ _).below (bl1 _), Box.new2S _ _ _ _ _ _ _, (bl2 _ _).trans ((bl1 _).mono (by simp; omega))⟩
  replace hg := hg.below hbW
  replace hm := hm.below hbW
  replace hp := hp.below hbW
  generalize chQ s r cs = qc at *
  clear h8
  go_enter Tryz.func58, Tryz.ntmps58
  go_upto_region 1 with fail
  rw [← hW]
  clear hW
  obtain ⟨p00, p01, _⟩ := X1.cells
  obtain ⟨p10, p11, _⟩ := X2.cells
  refine wp_region_held_drew (S := (fun u => u.cell? ⟨w.heap.size, 0, none⟩ = some (.slice a s.rg.length ca) ∧ u.cell? ⟨w.heap.size, 1, none⟩ = some (.slice b s.rw.length cb) ∧ u.cell? ⟨w.heap.size + 1, 0, none⟩ = some (.int .i64 x) ∧ u.cell? ⟨w.heap.size + 1, 1, none⟩ = some (.int .i64 r))) (by kernel_rfl) ?_ (fun hHeld => ?_)
  · (try dsimp only)
    go_keep
  have hdr : Below W.heap.size W W.drew := Below.drew1
  generalize W.drew = ud1 at hdr hHeld ⊢
  replace hg := hg.below hdr
  replace hm := hm.below hdr
  replace hp := hp.below hdr
  replace B0 := B0.below hdr
  replace X1 := X1.below hdr
  replace X2 := X2.below hdr
  replace hbW : Below w.heap.size w ud1 := hbW.trans (hdr.mono hbW.size)
  clear hdr
  clear p00 p01 p10 p11
  obtain ⟨p00, p01, _⟩ := X1.cells
  obtain ⟨p10, p11, _⟩ := X2.cells
  refine hT 0 hHeld ?_
  refine hT 1 hHeld ?_
  refine hT 3 hHeld ?_
  refine hT 4 hHeld ?_
  refine hT 5 hHeld ?_
  refine hT 6 hHeld ?_
  refine hCall (i := 2) rfl (by kernel_rfl) (by rfl) (fun K hK => ?_)
  go_simp
  refine (whole_any x _ hx.1 (by have := hx.2; omega)).mono ?_
  rintro e u1 ⟨v5, rfl, hF5, hb1⟩
  replace hg := hg.below hb1
  replace hm := hm.below hb1
  replace hp := hp.below hb1
  replace B0 := B0.below hb1
  replace X1 := X1.below hb1
  replace X2 := X2.below hb1
  replace hbW : Below w.heap.size w u1 := hbW.trans (hb1.mono hbW.size)
  clear hb1
  clear p00 p01 p10 p11
  obtain ⟨p00, p01, _⟩ := X1.cells
  obtain ⟨p10, p11, _⟩ := X2.cells
  go_wp2_with fail
  refine hK.out _ _ ?_ (fun hHeld => ?_)
  · (try dsimp only)
    exact ⟨p00, p01, p10, p11⟩
  clear hK K
  try simp only [Act.put, List.setIfInBounds_toArray, List.set_cons_zero, List.set_cons_succ]
  refine hCall (i := 7) rfl (by kernel_rfl) (by rfl) (fun K hK => ?_)
  go_simp
  refine (hch _ hg hm hp).mono ?_
  rintro e u2 ⟨v6, rfl, hF6, hb2⟩
  replace hg := hg.below hb2
  replace hm := hm.below hb2
  replace hp := hp.below hb2
  replace B0 := B0.below hb2
  replace hF5 := hF5.below hb2
  replace X1 := X1.below hb2
  replace X2 := X2.below hb2
  replace hbW : Below w.heap.size w u2 := hbW.trans (hb2.mono hbW.size)
  clear hb2
  clear p00 p01 p10 p11
  obtain ⟨p00, p01, _⟩ := X1.cells
  obtain ⟨p10, p11, _⟩ := X2.cells
  go_wp2_with fail
  refine hK.out _ _ ?_ (fun hHeld => ?_)
  · (try dsimp only)
    exact ⟨p00, p01, p10, p11⟩
  clear hK K
  try simp only [Act.put, List.setIfInBounds_toArray, List.set_cons_zero, List.set_cons_succ]
  refine hCall (i := 8) rfl (by kernel_rfl) (by rfl) (fun K hK => ?_)
  go_simp
  refine (qadd_any 2 1000 _ _ _ _ _ hF5.ct hF6.ct (by decide) (by decide) (by decide) (by decide)).mono ?_
  rintro e u3 ⟨v9, rfl, hF9, hb3⟩
  replace hg := hg.below hb3
  replace hm := hm.below hb3
  replace hp := hp.below hb3
  replace B0 := B0.below hb3
  replace hF5 := hF5.below hb3
  replace hF6 := hF6.below hb3
  replace X1 := X1.below hb3
  replace X2 := X2.below hb3
  replace hbW : Below w.heap.size w u3 := hbW.trans (hb3.mono hbW.size)
  clear hb3
  rw [HV.out] at hF9
  obtain ⟨n9, x9, y9, ⟨a9, c9, b9, d9, rfl, hx9, hy9⟩, hF9⟩ := hF9
  clear p00 p01 p10 p11
  obtain ⟨p00, p01, _⟩ := X1.cells
  obtain ⟨p10, p11, _⟩ := X2.cells
  go_wp2_with fail
  refine hK.out _ _ ?_ (fun hHeld => ?_)
  · (try dsimp only)
    exact ⟨p00, p01, p10, p11⟩
  clear hK K
  try simp only [Act.put, List.setIfInBounds_toArray, List.set_cons_zero, List.set_cons_succ]
  refine hCall (i := 9) rfl (by kernel_rfl) (by rfl) (fun K hK => ?_)
  go_simp
  have hs := B0.lt
  obtain ⟨f1, f2, f3, f4, f5, f6⟩ := B0.cells
  try go_simp
  obtain ⟨u64, hU, C9, hbU, hK9, ho⟩ := set3_world B0 (.bool n9) (.slice a9 x9.length c9) (.slice b9 y9.length d9)
  rw [← hU]
  clear hU f1 f2 f3 f4 f5 f6
  replace hbW := hbU _ _ hbW (by omega)
  replace hx9 := hK9 _ _ _ hx9
  replace hy9 := hK9 _ _ _ hy9
  replace X1 : BxS u64 w.heap.size (.slice a s.rg.length ca) (.slice b s.rw.length cb) := (ho _ (by omega)).trans X1
  replace X2 : BxL u64 (w.heap.size + 1) (.int .i64 x) (.int .i64 r) := (ho _ (by omega)).trans X2
  clear hbU hK9 ho
  clear p00 p01 p10 p11
  obtain ⟨p00, p01, _⟩ := X1.cells
  obtain ⟨p10, p11, _⟩ := X2.cells
  refine hK.out _ _ ?_ (fun hHeld => ?_)
  · (try dsimp only)
    exact ⟨p00, p01, p10, p11⟩
  clear hK K
  try simp only [Act.put, List.setIfInBounds_toArray, List.set_cons_zero, List.set_cons_succ]
  refine wpAnyH_done (by kernel_rfl) ?_ _
  clear hHeld
  go_wp2
  refine bodyPost_ret (by obtain ⟨r1, r2, r3, _⟩ := C9.cells; simp [results, Tryz.results58, go_sem, r1, r2, r3]) rfl ⟨_, rfl, ⟨_, _, _, ⟨_, _, _, _, rfl, hx9, hy9⟩, hF9⟩, hbW⟩

set_option maxHeartbeats 2000000 in
set_option maxRecDepth 100000 in
theorem crounded_any (a : Option Addr) (ca : Nat) (b : Option Addr) (cb : Nat) (s : Sr) (x r : Int) (pa : Option Addr) (pc : Nat) (cs : List Int) (w : World) (hg : Tzz w a ca s.rg) (hm : Rii w b cb s.rw) (hp : Ri w pa pc cs) (hx : I64 x) (hr : I64 r) (hl : s.rg.length ≤ 40) (h8 : ∀ l ∈ s.rg, l.length ≤ 8) :
    Calls Tryz.prog 45 #[.agg #[.slice a s.rg.length ca, .slice b s.rw.length cb], .agg #[.int .i64 x, .int .i64 r], .slice pa cs.length pc] w fun e w' => e = .returned (.tuple #[.int .i64 (roN s x r cs), .int .i64 (roE s x r cs)]) ∧ Below w.heap.size w w' := by
  have k2 := hm.lenB
  have k3 := hp.lenB
  have hfi := fun U => cfits_any a ca b cb s x r U k2 hx hr
  have hva := fun U h1 h2 h3 => cvalue_any a ca b cb s x r pa pc cs U h1 h2 h3 hx hr hl h8
  obtain ⟨W, hW, X1, X2, hbW⟩ : ∃ W, W = (w.alloc (.cells #[.slice a s.rg.length ca, .slice b s.rw.length cb] 29)).alloc (.cells #[.int .i64 x, .int .i64 r] 45) ∧ BxS W w.heap.size (.slice a s.rg.length ca) (.slice b s.rw.length cb) ∧ BxL W (w.heap.size + 1) (.int .i64 x) (.int .i64 r) ∧ Below w.heap.size w W := ⟨_, rfl, (BxS.new _ _ _).below (bl1 _), BxL.new1 _ _ _ _, bl2 _ _⟩
  replace hg := hg.below hbW
  replace hm := hm.below hbW
  replace hp := hp.below hbW
  clear h8 hx hr
  cases hf : fiS s x r with
  | false =>
    have HE : Hid (roN s x r cs = 0 ∧ roE s x r cs = 1) := by
      show _ ∧ _
      constructor
      · rw [roN, hf]; rfl
      · rw [roE, hf]; rfl
    simp only [hf] at hfi
    clear hf hg hm hp hva
    go_enter Tryz.func45, Tryz.ntmps45
    go_wp2_with fail
    rw [← hW]
    clear hW
    refine (hfi _).mono ?_
    rintro e u1 ⟨rfl, hb1⟩
    replace hbW := hbW.trans (hb1.mono hbW.size)
    clear hb1 hfi
    go_wp2
    go_ret2
    exact ⟨by rw [HE.out.1, HE.out.2]; rfl, hbW⟩
  | true =>
    have HE : Hid (roN s x r cs = fldN (vaQ s x r cs + 1 / 2).floor ∧ roE s x r cs = fldE (vaQ s x r cs + 1 / 2).floor) := by
      show _ ∧ _
      constructor
      · rw [roN, hf]; rfl
      · rw [roE, hf]; rfl
    simp only [hf] at hfi
    clear hf
    go_enter Tryz.func45, Tryz.ntmps45
    go_wp2_with fail
    rw [← hW]
    clear hW
    refine (hfi _).mono ?_
    rintro e u1 ⟨rfl, hb1⟩
    replace hg := hg.below hb1
    replace hm := hm.below hb1
    replace hp := hp.below hb1
    replace X1 := X1.below hb1
    replace X2 := X2.below hb1
    replace hbW := hbW.trans (hb1.mono hbW.size)
    clear hb1 hfi
    obtain ⟨p0, p1, _⟩ := X1.cells
    obtain ⟨p2, p3, _⟩ := X2.cells
    go_wp2_with fail
    refine (hva _ hg hm hp).mono ?_
    rintro e u2 ⟨v2, rfl, hF2, hb2⟩
    replace hbW := hbW.trans (hb2.mono hbW.size)
    clear hb2 hva hg hm hp X1 X2 p0 p1 p2 p3
    generalize vaQ s x r cs = q at *
    go_wp2_with fail
    refine (field_any 1003 q _ _ hF2.ct (by decide) (by decide)).mono ?_
    rintro e u3 ⟨rfl, hb3⟩
    replace hbW := hbW.trans (hb3.mono hbW.size)
    rw [← HE.out.1, ← HE.out.2]
    clear hb3 hF2
    go_wp2
    go_ret2
    exact ⟨rfl, hbW⟩

end Go.Proofs.YtchdoakoelfenaaGreat

namespace Go.Proofs.YtchdoakoelfenaaGreat
open Go.RowKit Go.Maps
set_option linter.unusedSimpArgs false
set_option linter.unusedVariables false

theorem alloc_old {w : World} {g : Nat} {x : Obj} (h : w.heap[g]? = some x) (o : Obj) : (w.alloc o).heap[g]? = some x := ((bl1 o).block g (Array.getElem?_eq_some_iff.1 h).1).trans h
theorem alloc_new {w : World} {n : Nat} (hn : w.heap.size = n) (o : Obj) : (w.alloc o).heap[n]? = some o := by rw [← hn]; exact heap_alloc_new w o
theorem Ri.one {w : World} {g : Nat} {z : Int} {t : TypeId} (h : w.heap[g]? = some (.cells #[.int .i64 z] t (0, 0))) (hz : I64 z) : Ri w (some ⟨g, 0, none⟩) 1 [z] := by
  refine ⟨fun y hy => by rw [List.mem_singleton.1 hy]; exact hz, Nat.le_refl _, by unfold maxLen; omega, .inr ⟨g, 0, rfl, (Array.getElem?_eq_some_iff.1 h).1, fun i hi => ?_⟩⟩
  obtain rfl : i = 0 := by simpa using hi
  exact cell_of_row w g 0 _ _ (0, 0) h
theorem Tz.one {w : World} {g : Nat} {t : Te} {ty : TypeId} (h : w.heap[g]? = some (.cells #[.int .i64 t.st, .int .i64 t.pk, .int .i64 t.en] ty (0, 0))) (ht : Tw t) : Tz w (some ⟨g, 0, none⟩) 1 [t] := by
  refine ⟨Nat.le_refl _, by unfold maxLen; omega, fun y hy => by rw [List.mem_singleton.1 hy]; exact ht, (fun e => by cases e), fun i hi => ?_⟩
  obtain rfl : i = 0 := by simpa using hi
  exact ⟨g, 0, rfl, (Array.getElem?_eq_some_iff.1 h).1, cell_of_row w g 0 _ _ (0, 0) h, cell_of_row w g 1 _ _ (0, 0) h, cell_of_row w g 2 _ _ (0, 0) h⟩
theorem Tzz.one {w : World} {g : Nat} {a : Option Addr} {c : Nat} {l : List Te} {ty : TypeId} (h : w.heap[g]? = some (.cells #[.slice a l.length c] ty (0, 0))) (hl : Tz w a c l) : Tzz w (some ⟨g, 0, none⟩) 1 [l] := by
  refine ⟨Nat.le_refl _, by unfold maxLen; omega, fun i hi => ?_⟩
  obtain rfl : i = 0 := by simpa using hi
  exact ⟨g, 0, a, c, rfl, (Array.getElem?_eq_some_iff.1 h).1, cell_of_row w g 0 _ _ (0, 0) h, hl⟩
theorem Rii.one {w : World} {g : Nat} {a : Option Addr} {c : Nat} {l : List Int} {ty : TypeId} (h : w.heap[g]? = some (.cells #[.slice a l.length c] ty (0, 0))) (hl : Ri w a c l) : Rii w (some ⟨g, 0, none⟩) 1 [l] := by
  refine ⟨Nat.le_refl _, by unfold maxLen; omega, fun i hi => ?_⟩
  obtain rfl : i = 0 := by simpa using hi
  exact ⟨g, 0, a, c, rfl, (Array.getElem?_eq_some_iff.1 h).1, cell_of_row w g 0 _ _ (0, 0) h, hl⟩

/-- The little store. -/
def litS (n : Int) : Sr := ⟨[[⟨0, 16384, 16384⟩]], [[n]]⟩
theorem aw_ro : roN (litS 10) 5 0 [4096] = 8 ∧ roE (litS 10) 5 0 [4096] = 0 := by decide +kernel
theorem aw_st : stB (litS 10) 1 = true := by decide +kernel
theorem aw_8 : ∀ l ∈ (litS 10).rg, l.length ≤ 8 := by
  intro l hl
  simp [litS] at hl
  subst hl
  decide
theorem i64_wrap64 (z : Int) : I64 (wrap64 z) := by
  unfold I64 wrap64
  omega
set_option maxHeartbeats 4000000 in
set_option maxRecDepth 100000 in
theorem few10_any (a : Option Addr) (ca : Nat) (b : Option Addr) (cb : Nat) (s : Sr) (w : World) (hg : Tzz w a ca s.rg) (hm : Rii w b cb s.rw) :
    Calls Tryz.prog 14 #[.agg #[.slice a s.rg.length ca, .slice b s.rw.length cb]] w fun e w' => ∃ q : Bool, e = .returned (.bool q) ∧ (q = true → s.rg.length ≤ 20 ∧ ∀ l ∈ s.rg, l.length ≤ 8) ∧ Below w.heap.size w w' := by
  have k1 := hg.lenB
  have k2 := hm.lenB
  have HG : Hid (Tzz w a ca s.rg) := hg
  have HM : Hid (Rii w b cb s.rw) := hm
  clear hg hm
  obtain ⟨W, hW, X1, hbW⟩ : ∃ W, W = w.alloc (.cells #[.slice a s.rg.length ca, .slice b s.rw.length cb] 29) ∧ BxS W w.heap.size (.slice a s.rg.length ca) (.slice b s.rw.length cb) ∧ Below w.heap.size w W := ⟨_, rfl, BxS.new _ _ _, bl1 _⟩
  go_enter Tryz.func14, Tryz.ntmps14
  go_upto_block 0 with fail
  rw [← hW]
  clear hW
  go_cut [3] from 4 to 26 (fun v wr => ∃ z : Int, v = .int .i64 z ∧ I64 z ∧ BxS wr w.heap.size (.slice a s.rg.length ca) (.slice b s.rw.length cb) ∧ Below w.heap.size w wr)
  case first =>
    go_wp2_with fail
    go_loopw [3, 4] (fun v i wr => ∃ (k : Nat) (z : Int), k ≤ s.rg.length ∧ v = .int .i64 z ∧ I64 z ∧ i = .int .i64 k ∧ BxS wr w.heap.size (.slice a s.rg.length ca) (.slice b s.rw.length cb) ∧ Below w.heap.size w wr) (fun _ i _ => s.rg.length - (intOf i).toNat)
    case atStart => exact ⟨0, 0, Nat.zero_le _, rfl, ⟨by decide, by decide⟩, rfl, X1, hbW⟩
    case round =>
      clear X1 hbW
      obtain ⟨k, z, hk, rfl, hz, rfl, X1, hbW⟩ := hrel
      obtain ⟨p0, p1, _⟩ := X1.cells
      by_cases hkn : k < s.rg.length
      · have g1 : decide ((k : Int) < (s.rg.length : Int)) = true := decide_eq_true (by omega)
        by_cases hz2 : z ≤ 2000
        · have g2 : decide (z ≤ 2000) = true := decide_eq_true hz2
          obtain ⟨b1, o1, a1, c1, ea, _, d0, hp⟩ := HG.out.at hbW k hkn
          have hpl := hp.lenB
          generalize (s.rg.getD k []).length = n1 at *
          subst ea
          clear hp hkn
          have i1 : (0 : Int) ≤ (k : Int) := by omega
          have i2 : (k : Int) < (s.rg.length : Int) := of_decide_eq_true g1
          have HZ : Hid (∀ y : Int, I64 (wrap64 y)) := i64_wrap64
          go_wp2_with fail
          go_roundw
          case rel => exact ⟨k + 1, _, by omega, rfl, HZ.out _, by go_num, X1, hbW⟩
          case measure => simp [intOf]; omega
        · have g2 : decide (z ≤ 2000) = false := decide_eq_false hz2
          have i2 : (k : Int) < (s.rg.length : Int) := by omega
          clear hkn
          go_wp2_with fail
          go_meet
          exact ⟨z, rfl, hz, X1, hbW⟩
      · have g1 : decide ((k : Int) < (s.rg.length : Int)) = false := decide_eq_false (by omega)
        have i2 : ¬ (k : Int) < (s.rg.length : Int) := by omega
        clear hkn
        go_wp2_with fail
        go_meet
        exact ⟨z, rfl, hz, X1, hbW⟩
  case rest =>
    clear X1 hbW
    obtain ⟨z0, rfl, hzz0, X1, hbW⟩ := hcut
    go_upto_block 2 with fail
    go_cut [3] from 4 to 46 (fun v wr => ∃ z : Int, v = .int .i64 z ∧ I64 z ∧ BxS wr w.heap.size (.slice a s.rg.length ca) (.slice b s.rw.length cb) ∧ Below w.heap.size w wr)
    case first =>
      go_wp2_with fail
      go_loopw [3, 5] (fun v i wr => ∃ (k : Nat) (z : Int), k ≤ s.rw.length ∧ v = .int .i64 z ∧ I64 z ∧ i = .int .i64 k ∧ BxS wr w.heap.size (.slice a s.rg.length ca) (.slice b s.rw.length cb) ∧ Below w.heap.size w wr) (fun _ i _ => s.rw.length - (intOf i).toNat)
      case atStart => exact ⟨0, z0, Nat.zero_le _, rfl, hzz0, rfl, X1, hbW⟩
      case round =>
        clear X1 hbW
        obtain ⟨k, z, hk, rfl, hz, rfl, X1, hbW⟩ := hrel
        obtain ⟨p0, p1, _⟩ := X1.cells
        by_cases hkn : k < s.rw.length
        · have g1 : decide ((k : Int) < (s.rw.length : Int)) = true := decide_eq_true (by omega)
          by_cases hz2 : z ≤ 2000
          · have g2 : decide (z ≤ 2000) = true := decide_eq_true hz2
            obtain ⟨b1, o1, a1, c1, ea, _, d0, hp⟩ := HM.out.at hbW k hkn
            have hpl := hp.lenB
            generalize (s.rw.getD k []).length = n1 at *
            subst ea
            clear hp hkn
            have i1 : (0 : Int) ≤ (k : Int) := by omega
            have i2 : (k : Int) < (s.rw.length : Int) := of_decide_eq_true g1
            have HZ : Hid (∀ y : Int, I64 (wrap64 y)) := i64_wrap64
            go_wp2_with fail
            go_roundw
            case rel => exact ⟨k + 1, _, by omega, rfl, HZ.out _, by go_num, X1, hbW⟩
            case measure => simp [intOf]; omega
          · have g2 : decide (z ≤ 2000) = false := decide_eq_false hz2
            have i2 : (k : Int) < (s.rw.length : Int) := by omega
            clear hkn
            go_wp2_with fail
            go_meet
            exact ⟨z, rfl, hz, X1, hbW⟩
        · have g1 : decide ((k : Int) < (s.rw.length : Int)) = false := decide_eq_false (by omega)
          have i2 : ¬ (k : Int) < (s.rw.length : Int) := by omega
          clear hkn
          go_wp2_with fail
          go_meet
          exact ⟨z, rfl, hz, X1, hbW⟩
    case rest =>
      clear X1 hbW hzz0
      obtain ⟨z1, rfl, hzz1, X1, hbW⟩ := hcut
      go_wp2_with fail
      go_loopw [6] (fun i wr => ∃ k : Nat, k ≤ s.rg.length ∧ i = .int .i64 k ∧ (∀ j, j < k → (s.rg.getD j []).length ≤ 8) ∧ BxS wr w.heap.size (.slice a s.rg.length ca) (.slice b s.rw.length cb) ∧ Below w.heap.size w wr) (fun i _ => s.rg.length - (intOf i).toNat)
      case atStart => exact ⟨0, Nat.zero_le _, rfl, (fun j hj => by omega), X1, hbW⟩
      case round =>
        clear X1 hbW
        obtain ⟨k, hk, rfl, hok, X1, hbW⟩ := hrel
        have HOK : Hid (∀ j, j < k → (s.rg.getD j []).length ≤ 8) := hok
        clear hok
        obtain ⟨p0, p1, _⟩ := X1.cells
        by_cases hkn : k < s.rg.length
        · obtain ⟨b1, o1, a1, c1, ea, _, d0, hp⟩ := HG.out.at hbW k hkn
          have hpl := hp.lenB
          obtain ⟨n1, hn1⟩ : ∃ n1, (s.rg.getD k []).length = n1 := ⟨_, rfl⟩
          have HN : Hid ((s.rg.getD k []).length = n1) := hn1
          rw [hn1] at d0 hpl
          subst ea
          clear hp hn1
          by_cases h8 : 8 < n1
          · have g3 : (8 : Int) < (n1 : Int) := by omega
            go_wp2
            go_ret
            exact ⟨false, rfl, (fun h => by cases h), hbW⟩
          · have g3 : ¬ (8 : Int) < (n1 : Int) := by omega
            have HOK2 : Hid (∀ j, j < k + 1 → (s.rg.getD j []).length ≤ 8) := fun j hj => by
              rcases Nat.lt_or_ge j k with h1 | h1
              · exact HOK.out j h1
              · rw [show j = k by omega, HN.out]; omega
            go_wp2
            go_roundw
            case rel => exact ⟨k + 1, by omega, by go_num, HOK2.out, X1, hbW⟩
            case measure => simp [intOf]; omega
        · obtain rfl : k = s.rg.length := by omega
          have HA : Hid (∀ l ∈ s.rg, l.length ≤ 8) := fun l hl => by
            obtain ⟨i, hi, e⟩ := List.getElem_of_mem hl
            have := HOK.out i hi
            rw [getL hi, e] at this
            exact this
          by_cases hz2 : z1 ≤ 2000
          · have g2 : decide (z1 ≤ 2000) = true := decide_eq_true hz2
            go_wp2
            go_ret
            exact ⟨_, rfl, (fun h => ⟨by have := of_decide_eq_true h; omega, HA.out⟩), hbW⟩
          · have g2 : decide (z1 ≤ 2000) = false := decide_eq_false hz2
            go_wp2
            exact bodyPost_ret (v := .bool false) (by simp [results, Tryz.results14, go_sem]) rfl (by first | exact ⟨false, rfl, (fun h => by cases h), hbW⟩ | exact .inl ⟨rfl, hbW⟩)

end Go.Proofs.YtchdoakoelfenaaGreat
