/-
  store.Write: the walk.
  Rows of tents, of regions and of rows of ints of the call's own (To, Tq, Rq), and how they grow.
  Appends of tents, of regions and of rows as operations of a region that draws.
-/
import Derived.Test.YtjefaccpmoignaaZ20
import Derived.Test.YtjefaccpmoignaaZ11
import Derived.Test.YtjefaccpmoignaaZ10
namespace Go.Proofs.Ytjefaccpmoignaa
open Go.RowKit Go.Maps
set_option linter.unusedSimpArgs false
set_option linter.unusedVariables false

set_option maxHeartbeats 8000000 in
set_option maxRecDepth 100000 in
theorem cwriteS_any (a : Option Addr) (ca : Nat) (b : Option Addr) (cb : Nat) (s : Sr) (n : Int) (w : World) (hg : Tzz w a ca s.rg) (hm : Rii w b cb s.rw) (hn0 : I64 n) :
    Calls Try.prog 10 #[.agg #[.slice a s.rg.length ca, .slice b s.rw.length cb], .int .i64 n] w fun e w' => ∃ a' cap', e = .returned (.tuple #[.slice a' (wrSB s n).length cap', .int .i64 (wrSE s n)]) ∧ Rb w' a' cap' (wrSB s n) ∧ Below w.heap.size w w' := by
  have hn : I64 n := hn0
  have hfo := fun U h1 h2 => cformS_any a ca b cb s n U h1 h2
  obtain ⟨W, hW, X1, hbW⟩ : ∃ W, W = w.alloc (.cells #[.slice a s.rg.length ca, .slice b s.rw.length cb] 25) ∧ BxS W w.heap.size (.slice a s.rg.length ca) (.slice b s.rw.length cb) ∧ Below w.heap.size w W := ⟨_, rfl, BxS.new _ _ _, bl1 _⟩
  have k1 := hg.lenB
  have k2 := hm.lenB
  replace hg := hg.below hbW
  replace hm := hm.below hbW
  by_cases hst : stB s n = true
  rotate_left
  · have hst : stB s n = false := by simpa using hst
    have HE : Hid (wrSE s n = 1 ∧ wrSB s n = []) := ⟨by simp [wrSE, hst], by simp [wrSB, hst]⟩
    simp only [hst] at hfo
    clear hst
    go_enter Try.func10, Try.ntmps10
    go_wp2_with fail
    rw [← hW]
    clear hW
    refine (hfo _ hg hm).mono ?_
    rintro e u ⟨rfl, hb⟩
    replace hbW := hbW.trans (hb.mono hbW.size)
    clear hb hfo
    go_wp2
    go_ret2
    exact ⟨none, 0, by rw [HE.out.1, HE.out.2]; rfl, by rw [HE.out.2]; exact Rb.nil _ _ _ (Nat.zero_le _) (fun _ => rfl), hbW⟩
  have HE : Hid (wrSE s n = 0 ∧ wrSB s n = stE s n) := ⟨by simp [wrSE, hst], by simp [wrSB, hst]⟩
  obtain ⟨⟨hn1, hn2⟩, hl1, hl2, hr1, hr2, hrg, hrw⟩ := stB_parts hst
  have HRG : Hid (∀ k, k < s.rg.length → ((s.rg.getD k []).length : Int) = n ∧ ∀ j, j < (s.rg.getD k []).length → tfB ((s.rg.getD k []).getD j Te.none) = true) := hrg
  have HRW : Hid (∀ k, k < s.rw.length → (s.rw.getD k []).length = s.rg.length ∧ ∀ j, j < (s.rw.getD k []).length → -32768 ≤ (s.rw.getD k []).getD j 0 ∧ (s.rw.getD k []).getD j 0 ≤ 32767) := hrw
  have HT1 : Hid (∀ k, (rgsE (s.rg.take k)).length ≤ 960) := fun k => Nat.le_trans (rgsE_take_le _ _) hr1
  have HT2 : Hid (∀ k, (rowsE (s.rw.take k)).length ≤ 32000) := fun k => Nat.le_trans (rowsE_take_le _ _) hr2
  simp only [hst] at hfo
  clear hst hrg hrw hr1 hr2
  go_enter Try.func10, Try.ntmps10
  go_wp2_with fail
  rw [← hW]
  clear hW
  refine (hfo _ hg hm).mono ?_
  rintro e u ⟨rfl, hb⟩
  have HG : Hid (Tzz u a ca s.rg) := hg.below hb
  have HM : Hid (Rii u b cb s.rw) := hm.below hb
  have HX1 : Hid (BxS u w.heap.size (.slice a s.rg.length ca) (.slice b s.rw.length cb)) := X1.below hb
  have HBW : Hid (Below w.heap.size w u) := hbW.trans (hb.mono hbW.size)
  have hP0 := pc_newA u (· < u.heap.size) (fun _ h => h)
  have hB0 := bl1 (w := u) (.cells #[.slice none 0 0, .int .i64 0, .map none, .bool false] 70)
  clear hg hm hfo hb X1 hbW
  go_wp2_with fail
  refine (put16_any u.heap.size _ _ n _ hP0 ⟨by omega, by omega⟩ (by decide)).mono ?_
  rintro e u1 ⟨rfl, hP1, hK1⟩
  rw [show St.zero = ⟨[], [], false⟩ from rfl, put16A (by omega) (by omega), List.nil_append] at hP1
  have hB1 : Below u.heap.size u u1 := hB0.trans (hK1.below (fun k hk => hk))
  clear hP0 hK1 hB0
  obtain ⟨p0, p1, _⟩ := (HX1.out.below hB1).cells
  go_wp2_with fail
  refine (put16_any u.heap.size _ _ (s.rg.length : Int) _ hP1 ⟨by omega, by omega⟩ (by simp [be2])).mono ?_
  rintro e u2 ⟨rfl, hP2, hK2⟩
  rw [put16A (by omega) (by omega)] at hP2
  have hB2 : Below u.heap.size u u2 := hB1.trans (hK2.below (fun k hk => hk))
  clear hP1 hK2 hB1 p0 p1
  obtain ⟨Q, hQ⟩ : ∃ Q, be2 n ++ be2 ((s.rg.length : Nat) : Int) = Q := ⟨_, rfl⟩
  have HQL : Hid (Q.length = 4) := by show _ = _; rw [← hQ]; rfl
  rw [hQ] at hP2
  have HSTE : Hid (stE s n = Q ++ rgsE s.rg ++ be2 ((s.rw.length : Nat) : Int) ++ rowsE s.rw) := by show _ = _; rw [stE_eq, hQ]
  have hI : Pc u2 u.heap.size (· < u.heap.size) ⟨Q ++ rgsE (s.rg.take 0), [], false⟩ := by
    simpa [rgsE] using hP2
  clear hP2 hQ
  generalize hBB : u.heap.size = B at *
  have HBB : Hid (u.heap.size = B) := hBB
  clear hBB
  obtain ⟨p0, p1, _⟩ := (HX1.out.below (by rw [HBB.out]; exact hB2)).cells
  go_wp2
  clear p0 p1
  go_loopw [32] (fun i wr => ∃ k : Nat, k ≤ s.rg.length ∧ i = .int .i64 k ∧ Pc wr B (· < B) ⟨Q ++ rgsE (s.rg.take k), [], false⟩ ∧ Below B u wr) (fun i _ => s.rg.length - (intOf i).toNat)
  case atStart => exact ⟨0, Nat.zero_le _, rfl, hI, hB2⟩
  case round =>
    obtain ⟨k, hk, rfl, hP, hB⟩ := hrel
    clear hI hB2
    obtain ⟨p0, p1, _⟩ := (HX1.out.below (by rw [HBB.out]; exact hB)).cells
    by_cases hkn : k < s.rg.length
    · obtain ⟨b1, o1, a1, c1, ea, hb1, d0, hp⟩ := HG.out.2.2 k hkn
      have hfl := HRG.out k hkn
      obtain ⟨l, hl⟩ : ∃ l, s.rg.getD k [] = l := ⟨_, rfl⟩
      rw [hl] at d0 hp hfl
      rw [HBB.out] at hb1
      have HPZ : Hid (Tz u a1 c1 l) := hp
      have e1 := hp.lenB
      have e3 := hfl.1
      have HTF : Hid (∀ j, j < l.length → tfB (l.getD j Te.none) = true) := hfl.2
      obtain ⟨b0, hb0⟩ : ∃ b0, Q ++ rgsE (s.rg.take k) = b0 := ⟨_, rfl⟩
      have HLN : Hid (b0.length ≤ 964) := by show b0.length ≤ _; rw [← hb0, List.length_append, HQL.out]; have := HT1.out k; omega
      have HSU : Hid (Q ++ rgsE (s.rg.take (k + 1)) = b0 ++ tesE l) := by show _ = _; rw [rgs_succ hkn hl, hb0]
      rw [hb0] at hP
      have HD0 : Hid (∀ V, Below B u V → V.cell? ⟨b1, o1 + k, none⟩ = some (.slice a1 l.length c1)) := fun V hV => (hV.cell (p := ⟨b1, o1 + k, none⟩) hb1).trans d0
      have HXA : Hid (∀ V, Below B u V → BxS V w.heap.size (.slice a s.rg.length ca) (.slice b s.rw.length cb)) := fun V hV => HX1.out.below (by rw [HBB.out]; exact hV)
      have d0' := HD0.out wr hB
      subst ea
      have hI2 : Pc wr B (· < B) ⟨b0 ++ tesE (l.take 0), [], false⟩ := by simpa [tesE] using hP
      clear hl hp hfl hb0 d0 hP
      go_wp2
      clear d0' p0 p1
      go_loopw [38] (fun i wr2 => ∃ j : Nat, j ≤ l.length ∧ i = .int .i64 j ∧ Pc wr2 B (· < B) ⟨b0 ++ tesE (l.take j), [], false⟩ ∧ Below B u wr2) (fun i _ => l.length - (intOf i).toNat)
      case atStart => exact ⟨0, Nat.zero_le _, rfl, hI2, hB⟩
      case round =>
        clear hI2 hB
        obtain ⟨j, hj, rfl, hP, hB⟩ := hrel
        by_cases hjn : j < l.length
        · obtain ⟨b9, o9, ea, hb9, d0, d1, d2⟩ := HPZ.out.2.2.2.2 j hjn
          have htf := tf_in (HTF.out j hjn)
          obtain ⟨t, ht⟩ : ∃ t, l.getD j Te.none = t := ⟨_, rfl⟩
          rw [ht] at d0 d1 d2 htf
          rw [HBB.out] at hb9
          have HSJ : Hid (b0 ++ tesE (l.take (j + 1)) = b0 ++ tesE (l.take j) ++ be2 t.st ++ be2 t.pk ++ be2 t.en) := tes_succ hjn ht b0
          have HLJ : Hid ((b0 ++ tesE (l.take j)).length ≤ 1000) := by show _ ≤ _; rw [List.length_append]; have := HLN.out; have := tes_take_len l j; omega
          obtain ⟨b2, hb2⟩ : ∃ b2, b0 ++ tesE (l.take j) = b2 := ⟨_, rfl⟩
          rw [hb2] at hP HSJ HLJ
          obtain ⟨tst, tpk, ten⟩ := t
          dsimp only at d0 d1 d2 htf HSJ
          have HAT : Hid (∀ V, Below B u V → V.cell? ⟨b9, o9 + j * 3, none⟩ = some (.int .i64 tst) ∧ V.cell? ⟨b9, o9 + j * 3 + 1, none⟩ = some (.int .i64 tpk) ∧ V.cell? ⟨b9, o9 + j * 3 + 2, none⟩ = some (.int .i64 ten)) := fun V hV => ⟨(hV.cell (p := ⟨b9, o9 + j * 3, none⟩) hb9).trans d0, (hV.cell (p := ⟨b9, o9 + j * 3 + 1, none⟩) hb9).trans d1, (hV.cell (p := ⟨b9, o9 + j * 3 + 2, none⟩) hb9).trans d2⟩
          subst ea
          clear ht hb2 d0 d1 d2
          obtain ⟨d0, d1, d2⟩ := HAT.out wr hB
          have hwz : B ≤ wr.heap.size := by have := hB.size; rw [HBB.out] at this; exact this
          have hP1 := hP.moreA (.cells #[.int .i64 tst, .int .i64 tpk, .int .i64 ten] 73)
          have hX1 := Box.new 73 wr (.int .i64 tst) (.int .i64 tpk) (.int .i64 ten)
          have hBa := hB.alloc hwz (.cells #[.int .i64 tst, .int .i64 tpk, .int .i64 ten] 73)
          clear hP hB
          go_wp2_with fail
          generalize wr.alloc (.cells #[.int .i64 tst, .int .i64 tpk, .int .i64 ten] 73) = v1 at *
          clear d0 d1 d2
          generalize wr.heap.size = g at *
          refine (put16_any B _ _ tst _ hP1 ⟨by omega, by omega⟩ (by have := HLJ.out; show b2.length + 4 ≤ _; omega)).mono ?_
          rintro e v2 ⟨rfl, hP2, hK2⟩
          rw [put16A (by omega) (by omega)] at hP2
          have hB2 := hBa.trans (hK2.below (fun k hk => .inl hk))
          have hX2 := hX1.keptG hK2 (.inr rfl)
          obtain ⟨d0, d1, d2, _⟩ := hX2.cells
          clear hP1 hK2 hX1 hBa
          go_wp2_with fail
          refine (put16_any B _ _ tpk _ hP2 ⟨by omega, by omega⟩ (by have := HLJ.out; simp [be2]; omega)).mono ?_
          rintro e v3 ⟨rfl, hP3, hK3⟩
          rw [put16A (by omega) (by omega)] at hP3
          have hB3 := hB2.trans (hK3.below (fun k hk => .inl hk))
          have hX3 := hX2.keptG hK3 (.inr rfl)
          clear hP2 hK3 hX2 hB2 d0 d1 d2
          obtain ⟨d0, d1, d2, _⟩ := hX3.cells
          go_wp2_with fail
          refine (put16_any B _ _ ten _ hP3 ⟨by omega, by omega⟩ (by have := HLJ.out; simp [be2]; omega)).mono ?_
          rintro e v4 ⟨rfl, hP4, hK4⟩
          rw [put16A (by omega) (by omega), ← HSJ.out] at hP4
          have hB4 := hB3.trans (hK4.below (fun k hk => .inl hk))
          have hP6 : Pc v4 B (· < B) ⟨b0 ++ tesE (l.take (j + 1)), [], false⟩ := hP4.guard (fun k hk => ⟨hP4.1 k (.inl hk), .inl hk⟩)
          clear hP3 hK4 hX3 hB3 hP4 d0 d1 d2
          go_wp2
          go_roundw
          case rel => exact ⟨j + 1, by omega, by go_num, hP6, hB4⟩
          case measure => simp [intOf]; omega
        · have hje : j = l.length := by omega
          have hP6 : Pc wr B (· < B) ⟨Q ++ rgsE (s.rg.take (k + 1)), [], false⟩ := by rw [HSU.out]; rw [hje, List.take_length] at hP; exact hP
          have g3 : ¬ (j : Int) < (l.length : Int) := by omega
          clear hje hP
          go_wp2
          go_roundw
          case rel => exact ⟨k + 1, by omega, by go_num, hP6, hB⟩
          case measure => simp [intOf]; omega
    · obtain rfl : k = s.rg.length := by omega
      rw [List.take_length] at hP
      have HLQ : Hid ((Q ++ rgsE s.rg).length ≤ 964) := by show _ ≤ _; rw [List.length_append, HQL.out]; have := HT1.out s.rg.length; rw [List.take_length] at this; omega
      obtain ⟨Q2, hQ2⟩ : ∃ Q2, Q ++ rgsE s.rg = Q2 := ⟨_, rfl⟩
      rw [hQ2] at hP HSTE HLQ
      clear hQ2
      go_wp2_with fail
      refine (put16_any B _ _ (s.rw.length : Int) _ hP ⟨by omega, by omega⟩ (by have := HLQ.out; show Q2.length + 4 ≤ _; omega)).mono ?_
      rintro e u3 ⟨rfl, hP3, hK3⟩
      rw [put16A (by omega) (by omega)] at hP3
      have hB3 : Below B u u3 := hB.trans (hK3.below (fun k hk => hk))
      clear hP hK3 hB p0 p1
      obtain ⟨Q3, hQ3⟩ : ∃ Q3, Q2 ++ be2 ((s.rw.length : Nat) : Int) = Q3 := ⟨_, rfl⟩
      rw [hQ3] at hP3 HSTE
      have HLQ3 : Hid (Q3.length ≤ 966) := by show _ ≤ _; rw [← hQ3, List.length_append, be2L]; have := HLQ.out; omega
      have hI : Pc u3 B (· < B) ⟨Q3 ++ rowsE (s.rw.take 0), [], false⟩ := by simpa [rowsE] using hP3
      clear hP3 hQ3
      obtain ⟨p0, p1, _⟩ := (HX1.out.below (by rw [HBB.out]; exact hB3)).cells
      go_wp2
      clear p0 p1
      go_loopw [64] (fun i wr => ∃ k : Nat, k ≤ s.rw.length ∧ i = .int .i64 k ∧ Pc wr B (· < B) ⟨Q3 ++ rowsE (s.rw.take k), [], false⟩ ∧ Below B u wr) (fun i _ => s.rw.length - (intOf i).toNat)
      case atStart => exact ⟨0, Nat.zero_le _, rfl, hI, hB3⟩
      case round =>
        clear hI hB3 hk hkn
        obtain ⟨k, hk, rfl, hP, hB⟩ := hrel
        obtain ⟨p0, p1, _⟩ := (HX1.out.below (by rw [HBB.out]; exact hB)).cells
        by_cases hkn : k < s.rw.length
        · obtain ⟨b1, o1, a1, c1, ea, hb1, d0, hp⟩ := HM.out.2.2 k hkn
          have hfl := HRW.out k hkn
          obtain ⟨r, hr⟩ : ∃ r, s.rw.getD k [] = r := ⟨_, rfl⟩
          rw [hr] at d0 hp hfl
          rw [HBB.out] at hb1
          have HPZ : Hid (Ri u a1 c1 r) := hp
          have e1 := hp.lenB
          have e3 := hfl.1
          have HTF : Hid (∀ j, j < r.length → -32768 ≤ r.getD j 0 ∧ r.getD j 0 ≤ 32767) := hfl.2
          obtain ⟨b0, hb0⟩ : ∃ b0, Q3 ++ rowsE (s.rw.take k) = b0 := ⟨_, rfl⟩
          have HLN : Hid (b0.length ≤ 33000) := by show b0.length ≤ _; rw [← hb0, List.length_append]; have := HLQ3.out; have := HT2.out k; omega
          have HSU : Hid (Q3 ++ rowsE (s.rw.take (k + 1)) = b0 ++ numE r) := by show _ = _; rw [rows_succ hkn hr, hb0]
          rw [hb0] at hP
          have HD0 : Hid (∀ V, Below B u V → V.cell? ⟨b1, o1 + k, none⟩ = some (.slice a1 r.length c1)) := fun V hV => (hV.cell (p := ⟨b1, o1 + k, none⟩) hb1).trans d0
          have HXA : Hid (∀ V, Below B u V → BxS V w.heap.size (.slice a s.rg.length ca) (.slice b s.rw.length cb)) := fun V hV => HX1.out.below (by rw [HBB.out]; exact hV)
          have d0' := HD0.out wr hB
          subst ea
          have hI2 : Pc wr B (· < B) ⟨b0 ++ numE (r.take 0), [], false⟩ := by simpa [numE] using hP
          clear hr hp hfl hb0 d0 hP
          go_wp2
          clear d0' p0 p1
          go_loopw [70] (fun i wr2 => ∃ j : Nat, j ≤ r.length ∧ i = .int .i64 j ∧ Pc wr2 B (· < B) ⟨b0 ++ numE (r.take j), [], false⟩ ∧ Below B u wr2) (fun i _ => r.length - (intOf i).toNat)
          case atStart => exact ⟨0, Nat.zero_le _, rfl, hI2, hB⟩
          case round =>
            clear hI2 hB
            obtain ⟨j, hj, rfl, hP, hB⟩ := hrel
            obtain ⟨p0, p1, _⟩ := (HXA.out wr hB).cells
            have q0 := HD0.out wr hB
            by_cases hjn : j < r.length
            · obtain ⟨b9, o9, ea, hb9, d0⟩ := HPZ.out.at (by rw [HBB.out]; exact hB) j hjn
              have htf := HTF.out j hjn
              obtain ⟨z, hz⟩ : ∃ z, r.getD j 0 = z := ⟨_, rfl⟩
              rw [hz] at d0 htf
              have HSJ : Hid (b0 ++ numE (r.take (j + 1)) = b0 ++ numE (r.take j) ++ be2 z) := num_succ hjn hz b0
              have HLJ : Hid ((b0 ++ numE (r.take j)).length ≤ 34000) := by show _ ≤ _; rw [List.length_append]; have := HLN.out; have := num_take_len r j; omega
              obtain ⟨b2, hb2⟩ : ∃ b2, b0 ++ numE (r.take j) = b2 := ⟨_, rfl⟩
              rw [hb2] at hP HSJ HLJ
              subst ea
              have i1 : (0 : Int) ≤ (k : Int) := by omega
              have i2 : (k : Int) < (s.rw.length : Int) := by omega
              have hlt2 : (j : Int) < (s.rg.length : Int) := by omega
              clear hz hb2
              go_wp2_with fail
              refine (put16_any B _ _ z _ hP ⟨by omega, by omega⟩ (by have := HLJ.out; show b2.length + 4 ≤ _; omega)).mono ?_
              rintro e v2 ⟨rfl, hP2, hK2⟩
              rw [put16A (by omega) (by omega), ← HSJ.out] at hP2
              have hB2 := hB.trans (hK2.below (fun k hk => hk))
              clear hP hK2 hB d0 p0 p1 q0
              go_wp2
              go_roundw
              case rel => exact ⟨j + 1, by omega, by go_num, hP2, hB2⟩
              case measure => simp [intOf]; omega
            · have hje : j = r.length := by omega
              have hP6 : Pc wr B (· < B) ⟨Q3 ++ rowsE (s.rw.take (k + 1)), [], false⟩ := by rw [HSU.out]; rw [hje, List.take_length] at hP; exact hP
              have g3 : ¬ (j : Int) < (r.length : Int) := by omega
              clear hje hP
              go_wp2
              go_roundw
              case rel => exact ⟨k + 1, by omega, by go_num, hP6, hB⟩
              case measure => simp [intOf]; omega
        · obtain rfl : k = s.rw.length := by omega
          rw [List.take_length, ← HSTE.out] at hP
          have hl := HT2.out s.rw.length
          rw [List.take_length] at hl
          have HLE : Hid ((stE s n).length ≤ 33000) := by show _ ≤ _; rw [HSTE.out, List.length_append]; have := HLQ3.out; omega
          have hall := all_any B _ _ _ hP (Nat.le_trans HLE.out (by decide))
          have ea : allB ⟨stE s n, [], false⟩ = stE s n := by simp [allB]
          have eb : allE ⟨stE s n, [], false⟩ = 0 := rfl
          rw [ea, eb] at hall
          have hbw := HBW.out.size
          rw [HBB.out] at hbw
          have hBw : Below w.heap.size w wr := HBW.out.trans (hB.mono hbw)
          clear hP ea eb hl
          generalize stE s n = fl at *
          go_wp2_with fail
          refine hall.mono ?_
          rintro e u9 ⟨a9, c9, rfl, hr9, hb9⟩
          have hB9 := hBw.trans (hb9.mono hBw.size)
          clear hall
          go_wp2
          go_ret2
          exact ⟨a9, c9, by rw [HE.out.1, HE.out.2]; rfl, by rw [HE.out.2]; exact hr9.rd, hB9⟩

end Go.Proofs.Ytjefaccpmoignaa

namespace Go.Proofs.Ytjefaccpmoignaa
open Go.RowKit Go.Maps
set_option linter.unusedSimpArgs false
set_option linter.unusedVariables false

theorem info_tes : (Try.prog.info? 42).map (fun i => (i.zero, i.size, i.bytes)) = some (some (.slice none 0 0), 1, 24) := by kernel_rfl
theorem info_is : (Try.prog.info? 54).map (fun i => (i.zero, i.size, i.bytes)) = some (some (.slice none 0 0), 1, 24) := by kernel_rfl

theorem Ri.keep {w w' : World} {a : Option Addr} {cap : Nat} {l : List Int} (h : Ri w a cap l) (hs : w.heap.size ≤ w'.heap.size)
    (hb : ∀ b, b < w.heap.size → (∃ o, a = some ⟨b, o, none⟩) → l ≠ [] → w'.heap[b]? = w.heap[b]?) : Ri w' a cap l := by
  obtain ⟨h1, h2, h3, h4⟩ := h
  refine ⟨h1, h2, h3, ?_⟩
  rcases h4 with h4 | ⟨b, off, e, h5, h6⟩
  · exact .inl h4
  · refine .inr ⟨b, off, e, Nat.lt_of_lt_of_le h5 hs, fun i hi => ?_⟩
    have e2 := hb b h5 ⟨off, e⟩ (fun e => by rw [e] at hi; simp at hi)
    exact (World.cell?_of_block (w := w) (a := ⟨b, off + i, none⟩) e2).trans (h6 i hi)
theorem Ri.blk {w : World} {a : Option Addr} {cap : Nat} {l : List Int} (h : Ri w a cap l) (hl : l ≠ []) {b o : Nat} (e : a = some ⟨b, o, none⟩) : b < w.heap.size := by
  rcases h.2.2.2 with h0 | ⟨b2, o2, e2, hb, _⟩
  · exact absurd h0 hl
  · rw [e] at e2; cases e2; exact hb
theorem Tz.blk {w : World} {a : Option Addr} {cap : Nat} {l : List Te} (h : Tz w a cap l) (hl : l ≠ []) {b o : Nat} (e : a = some ⟨b, o, none⟩) : b < w.heap.size := by
  obtain ⟨b2, o2, e2, hb, _⟩ := h.2.2.2.2 0 (List.length_pos_iff.2 hl)
  rw [e] at e2; cases e2; exact hb
theorem To.sliceLo {base : Nat} {w : World} {v : Value} {l : List Te} (h : To base w v l) : ∃ a cap, v = .slice a l.length cap ∧ Tz w a cap l ∧ ∀ b o, a = some ⟨b, o, none⟩ → base ≤ b := by
  obtain ⟨a, cap, rfl, ht⟩ := h.slice
  refine ⟨a, cap, rfl, ht, fun b o e => ?_⟩
  subst e
  exact h.lo (g := b) (by rcases h.2.2 with ⟨e, _⟩ | ⟨g, _, _, e, _⟩ <;> cases e; rfl)
theorem Io.sliceLo {base : Nat} {w : World} {v : Value} {l : List Int} (h : Io base w v l) : ∃ a cap, v = .slice a l.length cap ∧ Ri w a cap l ∧ ∀ b o, a = some ⟨b, o, none⟩ → base ≤ b := by
  obtain ⟨a, cap, rfl, ht⟩ := h.slice
  refine ⟨a, cap, rfl, ht, fun b o e => ?_⟩
  subst e
  exact h.lo (g := b) (by rcases h.2.2 with ⟨e, _⟩ | ⟨g, _, _, e, _⟩ <;> cases e; rfl)

/-- 'append(l, t)': t is laid in a block of its own first. -/
theorem wpList_append_te {w : World} {ops : Array Oper} {rest : List Oper} {o : Oper} {a : Act} {Q : Exit → Act → World → Prop}
    (hgd : o.guard = none) (s x : Operand) (ho : o.op = .call { callee := .builtin .append, args := #[s, x], argTypes := #[42, 42] })
    (base : Nat) (v : Value) (l : List Te) (hs : a.eval s = v) (hown : To base w v l) (g : Nat) (t : Te) (hx : a.eval x = .slice (some ⟨g, 0, none⟩) 1 1)
    (c0 : w.cell? ⟨g, 0, none⟩ = some (.int .i64 t.st)) (c1 : w.cell? ⟨g, 1, none⟩ = some (.int .i64 t.pk)) (c2 : w.cell? ⟨g, 2, none⟩ = some (.int .i64 t.en))
    (ht : Tw t) (hlen : l.length + 1 ≤ 1000000) (hbase : base ≤ w.heap.size)
    (h : ∀ v' w', To base w' v' (l ++ [t]) → w.grownBy w' v.ownBlock → wpList Try.prog ops Q rest (a.put o.dst v') w') : wpList Try.prog ops Q (o :: rest) a w := by
  refine wpList_append_tes hgd s x ho base v l hs hown (some ⟨g, 0, none⟩) 1 1 [t] rfl hx ?_ hlen hbase h
  refine ⟨Nat.le_refl _, by unfold maxLen; omega, (fun u hu => by rw [List.mem_singleton.1 hu]; exact ht), (fun e => by cases e), fun i hi => ?_⟩
  obtain rfl : i = 0 := by simpa using hi
  exact ⟨g, 0, rfl, World.block_lt_of_cell? w _ c0, by simpa using c0, by simpa using c1, by simpa using c2⟩

/-- A row of regions of the call's own. -/
def Tq (base : Nat) (w : World) (v : Value) (m : List (List Te)) : Prop :=
  ∃ vs : List Value, w.ownsRow base 42 1 v m.length vs ∧ ∀ i, i < m.length → ∃ a cap, vs[i]? = some (.slice a (m.getD i []).length cap) ∧ Tz w a cap (m.getD i []) ∧ ∀ b o, a = some ⟨b, o, none⟩ → m.getD i [] ≠ [] → v.ownBlock ≠ some b ∧ base ≤ b
theorem Tq.nil (base : Nat) (w : World) : Tq base w (.slice none 0 0) [] := ⟨[], World.ownsRow_nil w base _ 1, fun i hi => by simp at hi⟩
theorem Tq.slice {base : Nat} {w : World} {v : Value} {m : List (List Te)} (h : Tq base w v m) : ∃ a cap, v = .slice a m.length cap ∧ Tzz w a cap m := by
  obtain ⟨vs, h3, h4⟩ := h
  rcases h3.2 with ⟨rfl, h0⟩ | ⟨g, cap, cur, rfl, hb, hg, hc1, hc2, hc3, ht⟩
  · have : m = [] := List.length_eq_zero_iff.1 h0
    subst this
    exact ⟨none, 0, rfl, Tzz.nil _ _ _ (Nat.zero_le _)⟩
  · refine ⟨_, cap, rfl, hc1, hc2, fun i hi => ?_⟩
    obtain ⟨a', cap', k0, k1, _⟩ := h4 i hi
    have hadd : ∀ j, (⟨g, 0, none⟩ : Addr).add j = ⟨g, 0 + j, none⟩ := by intro j; unfold Addr.add; split <;> simp_all
    have d0 := h3.cells (g := g) rfl i _ k0
    rw [hadd] at d0
    exact ⟨g, 0, a', cap', rfl, (Array.getElem?_eq_some_iff.1 hg).1, d0, k1⟩
theorem Tq.below {base : Nat} {w w' : World} {v : Value} {m : List (List Te)} (h : Tq base w v m) (hb : Below w.heap.size w w') : Tq base w' v m := by
  obtain ⟨vs, h3, h4⟩ := h
  refine ⟨vs, ⟨h3.1, ?_⟩, fun i hi => ?_⟩
  · rcases h3.2 with h0 | ⟨g, cap', cur, k1, k2, k3, k4⟩
    · exact .inl h0
    · exact .inr ⟨g, cap', cur, k1, k2, (hb.block g (Array.getElem?_eq_some_iff.1 k3).1).trans k3, k4⟩
  · obtain ⟨a', cap', k0, k1, k2⟩ := h4 i hi
    exact ⟨a', cap', k0, k1.below hb, k2⟩
theorem Tq.lo {base : Nat} {w : World} {v : Value} {m : List (List Te)} (h : Tq base w v m) {g : Nat} (hg : v.ownBlock = some g) : base ≤ g ∧ g < w.heap.size := by
  obtain ⟨vs, h3, _⟩ := h
  exact World.ownsRow.lt h3 g hg
/-- A block below the base may change. -/
theorem Tq.other {base : Nat} {w w' : World} {v : Value} {m : List (List Te)} (h : Tq base w v m) {G : Nat} (hG : G < base) (hs : w.heap.size ≤ w'.heap.size) (hb : ∀ b, b < w.heap.size → b ≠ G → w'.heap[b]? = w.heap[b]?) : Tq base w' v m := by
  obtain ⟨vs, h3, h4⟩ := h
  refine ⟨vs, ⟨h3.1, ?_⟩, fun i hi => ?_⟩
  · rcases h3.2 with h0 | ⟨g, cap', cur, k1, k2, k3, k4⟩
    · exact .inl h0
    · exact .inr ⟨g, cap', cur, k1, k2, (hb g (Array.getElem?_eq_some_iff.1 k3).1 (by omega)).trans k3, k4⟩
  · obtain ⟨a', cap', k0, k1, k2⟩ := h4 i hi
    exact ⟨a', cap', k0, k1.keep hs (fun b hbl ⟨o, e⟩ hne => hb b hbl (by have := (k2 b o e hne).2; omega)), k2⟩
/-- 'append(m, l)': the slice is laid in a block of its own first. -/
theorem wpList_append_rg {w : World} {ops : Array Oper} {rest : List Oper} {o : Oper} {a : Act} {Q : Exit → Act → World → Prop}
    (hgd : o.guard = none) (s x : Operand) (ho : o.op = .call { callee := .builtin .append, args := #[s, x], argTypes := #[22, 22] })
    (base : Nat) (v : Value) (m : List (List Te)) (hs : a.eval s = v) (hown : Tq base w v m) (g : Nat) (a' : Option Addr) (cap' : Nat) (l : List Te) (hx : a.eval x = .slice (some ⟨g, 0, none⟩) 1 1)
    (c0 : w.cell? ⟨g, 0, none⟩ = some (.slice a' l.length cap')) (hl : Tz w a' cap' l) (hne : ∀ b o, a' = some ⟨b, o, none⟩ → l ≠ [] → v.ownBlock ≠ some b ∧ base ≤ b) (hlen : m.length + 1 ≤ 1000000) (hbase : base ≤ w.heap.size)
    (h : ∀ v' w', Tq base w' v' (m ++ [l]) → w.grownBy w' v.ownBlock → wpList Try.prog ops Q rest (a.put o.dst v') w') : wpList Try.prog ops Q (o :: rest) a w := by
  obtain ⟨i0, hi, hz0, hz1, hz2⟩ := info_parts info_tes
  obtain ⟨vs, h3, h4⟩ := hown
  refine wpList_append_own_at w hgd s x 22 ho base 42 i0 (.slice none 0 0) 1 24 Try.underlying22 hi hz0 hz1 hz2 rfl (by decide) v m.length vs hs h3 ⟨g, 0, none⟩ 1 1 [.slice a' l.length cap'] hx rfl ?_ ?_ (by unfold maxLen; omega) (by omega) hbase ?_
  · intro j u hj
    match j, hj with
    | 0, hj => simp at hj; subst hj; simpa [Addr.add] using c0
  · intro u hu
    simp at hu
    subst hu
    rfl
  · intro v' w' k1 k2 _ k4
    have hvs : vs.length = m.length := by have := h3.1; omega
    have hkeep : ∀ a2 c2 l2, Tz w a2 c2 l2 → (∀ b o, a2 = some ⟨b, o, none⟩ → l2 ≠ [] → v.ownBlock ≠ some b ∧ base ≤ b) → Tz w' a2 c2 l2 ∧ (∀ b o, a2 = some ⟨b, o, none⟩ → l2 ≠ [] → v'.ownBlock ≠ some b ∧ base ≤ b) := by
      intro a2 c2 l2 hp hn
      refine ⟨hp.keep k2.size (fun b hb ho hl2 => ?_), fun b o e hl2 => ?_⟩
      · obtain ⟨o, e⟩ := ho
        exact k2.block b hb (fun e' => (hn b o e hl2).1 e'.symm)
      · refine ⟨?_, (hn b o e hl2).2⟩
        rcases k4 with k4 | k4
        · rw [k4]; exact (hn b o e hl2).1
        · rw [k4]
          intro e'
          have hb2 := hp.blk hl2 e
          cases e'
          exact absurd hb2 (Nat.lt_irrefl _)
    refine h v' w' ⟨vs ++ [.slice a' l.length cap'], by rw [List.length_append]; exact k1, fun i hi => ?_⟩ k2
    by_cases him : i < m.length
    · obtain ⟨a2, c2, q0, q1, q2⟩ := h4 i him
      have e : (m ++ [l]).getD i [] = m.getD i [] := by simp [List.getD, List.getElem?_append_left him]
      rw [e]
      obtain ⟨r1, r2⟩ := hkeep _ _ _ q1 q2
      exact ⟨a2, c2, by rw [List.getElem?_append_left (by omega)]; exact q0, r1, r2⟩
    · have him' : i = m.length := by simp at hi; omega
      subst him'
      have e : (m ++ [l]).getD m.length [] = l := by simp [List.getD]
      rw [e]
      obtain ⟨r1, r2⟩ := hkeep _ _ _ hl hne
      exact ⟨a', cap', by rw [List.getElem?_append_right (by omega), hvs]; simp, r1, r2⟩

/-- A row of rows of the call's own. -/
def Rq (base : Nat) (w : World) (v : Value) (m : List (List Int)) : Prop :=
  ∃ vs : List Value, w.ownsRow base 54 1 v m.length vs ∧ ∀ i, i < m.length → ∃ a cap, vs[i]? = some (.slice a (m.getD i []).length cap) ∧ Ri w a cap (m.getD i []) ∧ ∀ b o, a = some ⟨b, o, none⟩ → m.getD i [] ≠ [] → v.ownBlock ≠ some b ∧ base ≤ b
theorem Rq.nil (base : Nat) (w : World) : Rq base w (.slice none 0 0) [] := ⟨[], World.ownsRow_nil w base _ 1, fun i hi => by simp at hi⟩
theorem Rq.slice {base : Nat} {w : World} {v : Value} {m : List (List Int)} (h : Rq base w v m) : ∃ a cap, v = .slice a m.length cap ∧ Rii w a cap m := by
  obtain ⟨vs, h3, h4⟩ := h
  rcases h3.2 with ⟨rfl, h0⟩ | ⟨g, cap, cur, rfl, hb, hg, hc1, hc2, hc3, ht⟩
  · have : m = [] := List.length_eq_zero_iff.1 h0
    subst this
    exact ⟨none, 0, rfl, Rii.nil _ _ _ (Nat.zero_le _)⟩
  · refine ⟨_, cap, rfl, hc1, hc2, fun i hi => ?_⟩
    obtain ⟨a', cap', k0, k1, _⟩ := h4 i hi
    have hadd : ∀ j, (⟨g, 0, none⟩ : Addr).add j = ⟨g, 0 + j, none⟩ := by intro j; unfold Addr.add; split <;> simp_all
    have d0 := h3.cells (g := g) rfl i _ k0
    rw [hadd] at d0
    exact ⟨g, 0, a', cap', rfl, (Array.getElem?_eq_some_iff.1 hg).1, d0, k1⟩
theorem Rq.below {base : Nat} {w w' : World} {v : Value} {m : List (List Int)} (h : Rq base w v m) (hb : Below w.heap.size w w') : Rq base w' v m := by
  obtain ⟨vs, h3, h4⟩ := h
  refine ⟨vs, ⟨h3.1, ?_⟩, fun i hi => ?_⟩
  · rcases h3.2 with h0 | ⟨g, cap', cur, k1, k2, k3, k4⟩
    · exact .inl h0
    · exact .inr ⟨g, cap', cur, k1, k2, (hb.block g (Array.getElem?_eq_some_iff.1 k3).1).trans k3, k4⟩
  · obtain ⟨a', cap', k0, k1, k2⟩ := h4 i hi
    exact ⟨a', cap', k0, k1.below hb, k2⟩
theorem Rq.lo {base : Nat} {w : World} {v : Value} {m : List (List Int)} (h : Rq base w v m) {g : Nat} (hg : v.ownBlock = some g) : base ≤ g ∧ g < w.heap.size := by
  obtain ⟨vs, h3, _⟩ := h
  exact World.ownsRow.lt h3 g hg
/-- A block below the base may change. -/
theorem Rq.other {base : Nat} {w w' : World} {v : Value} {m : List (List Int)} (h : Rq base w v m) {G : Nat} (hG : G < base) (hs : w.heap.size ≤ w'.heap.size) (hb : ∀ b, b < w.heap.size → b ≠ G → w'.heap[b]? = w.heap[b]?) : Rq base w' v m := by
  obtain ⟨vs, h3, h4⟩ := h
  refine ⟨vs, ⟨h3.1, ?_⟩, fun i hi => ?_⟩
  · rcases h3.2 with h0 | ⟨g, cap', cur, k1, k2, k3, k4⟩
    · exact .inl h0
    · exact .inr ⟨g, cap', cur, k1, k2, (hb g (Array.getElem?_eq_some_iff.1 k3).1 (by omega)).trans k3, k4⟩
  · obtain ⟨a', cap', k0, k1, k2⟩ := h4 i hi
    exact ⟨a', cap', k0, k1.keep hs (fun b hbl ⟨o, e⟩ hne => hb b hbl (by have := (k2 b o e hne).2; omega)), k2⟩
/-- 'append(m, l)': the slice is laid in a block of its own first. -/
theorem wpList_append_rw {w : World} {ops : Array Oper} {rest : List Oper} {o : Oper} {a : Act} {Q : Exit → Act → World → Prop}
    (hgd : o.guard = none) (s x : Operand) (ho : o.op = .call { callee := .builtin .append, args := #[s, x], argTypes := #[23, 23] })
    (base : Nat) (v : Value) (m : List (List Int)) (hs : a.eval s = v) (hown : Rq base w v m) (g : Nat) (a' : Option Addr) (cap' : Nat) (l : List Int) (hx : a.eval x = .slice (some ⟨g, 0, none⟩) 1 1)
    (c0 : w.cell? ⟨g, 0, none⟩ = some (.slice a' l.length cap')) (hl : Ri w a' cap' l) (hne : ∀ b o, a' = some ⟨b, o, none⟩ → l ≠ [] → v.ownBlock ≠ some b ∧ base ≤ b) (hlen : m.length + 1 ≤ 1000000) (hbase : base ≤ w.heap.size)
    (h : ∀ v' w', Rq base w' v' (m ++ [l]) → w.grownBy w' v.ownBlock → wpList Try.prog ops Q rest (a.put o.dst v') w') : wpList Try.prog ops Q (o :: rest) a w := by
  obtain ⟨i0, hi, hz0, hz1, hz2⟩ := info_parts info_is
  obtain ⟨vs, h3, h4⟩ := hown
  refine wpList_append_own_at w hgd s x 23 ho base 54 i0 (.slice none 0 0) 1 24 Try.underlying23 hi hz0 hz1 hz2 rfl (by decide) v m.length vs hs h3 ⟨g, 0, none⟩ 1 1 [.slice a' l.length cap'] hx rfl ?_ ?_ (by unfold maxLen; omega) (by omega) hbase ?_
  · intro j u hj
    match j, hj with
    | 0, hj => simp at hj; subst hj; simpa [Addr.add] using c0
  · intro u hu
    simp at hu
    subst hu
    rfl
  · intro v' w' k1 k2 _ k4
    have hvs : vs.length = m.length := by have := h3.1; omega
    have hkeep : ∀ a2 c2 l2, Ri w a2 c2 l2 → (∀ b o, a2 = some ⟨b, o, none⟩ → l2 ≠ [] → v.ownBlock ≠ some b ∧ base ≤ b) → Ri w' a2 c2 l2 ∧ (∀ b o, a2 = some ⟨b, o, none⟩ → l2 ≠ [] → v'.ownBlock ≠ some b ∧ base ≤ b) := by
      intro a2 c2 l2 hp hn
      refine ⟨hp.keep k2.size (fun b hb ho hl2 => ?_), fun b o e hl2 => ?_⟩
      · obtain ⟨o, e⟩ := ho
        exact k2.block b hb (fun e' => (hn b o e hl2).1 e'.symm)
      · refine ⟨?_, (hn b o e hl2).2⟩
        rcases k4 with k4 | k4
        · rw [k4]; exact (hn b o e hl2).1
        · rw [k4]
          intro e'
          have hb2 := hp.blk hl2 e
          cases e'
          exact absurd hb2 (Nat.lt_irrefl _)
    refine h v' w' ⟨vs ++ [.slice a' l.length cap'], by rw [List.length_append]; exact k1, fun i hi => ?_⟩ k2
    by_cases him : i < m.length
    · obtain ⟨a2, c2, q0, q1, q2⟩ := h4 i him
      have e : (m ++ [l]).getD i [] = m.getD i [] := by simp [List.getD, List.getElem?_append_left him]
      rw [e]
      obtain ⟨r1, r2⟩ := hkeep _ _ _ q1 q2
      exact ⟨a2, c2, by rw [List.getElem?_append_left (by omega)]; exact q0, r1, r2⟩
    · have him' : i = m.length := by simp at hi; omega
      subst him'
      have e : (m ++ [l]).getD m.length [] = l := by simp [List.getD]
      rw [e]
      obtain ⟨r1, r2⟩ := hkeep _ _ _ hl hne
      exact ⟨a', cap', by rw [List.getElem?_append_right (by omega), hvs]; simp, r1, r2⟩

end Go.Proofs.Ytjefaccpmoignaa

namespace Go.Proofs.Ytjefaccpmoignaa
open Go.RowKit Go.Maps
set_option linter.unusedSimpArgs false
set_option linter.unusedVariables false

theorem wp_append_own_at {P : Program} (w : World) {o : Oper} {a : Act} {K : Act → World → Prop} {Q : Exit → Act → World → Prop} (s x : Operand) (t : TypeId)
    (ho : o.op = .call { callee := .builtin .append, args := #[s, x], argTypes := #[t, t] })
    (base : Nat) (e : TypeId) (i : TypeInfo) (z : Value) (size bytes : Nat) (ht : P.underlying t = some (.slice e)) (hi : P.info? e = some i) (hz : i.zero = some z)
    (hsize : i.size = size) (hby : i.bytes = bytes) (hzs : z.cells.size = size) (hsz : 0 < size)
    (v : Value) (n : Nat) (xs : List Value) (hs : a.eval s = v) (hown : w.ownsRow base e size v n xs)
    (ad : Addr) (m c : Nat) (news : List Value) (hx : a.eval x = .slice (some ad) m c) (hl : news.length = m * size) (hnews : ∀ j u, news[j]? = some u → w.cell? (ad.add j) = some u) (h1 : ∀ u ∈ news, u.oneCell' = true)
    (h63 : n + m ≤ maxLen) (hbytes : (n + m) * bytes ≤ 140737488355328) (hbase : base ≤ w.heap.size)
    (h : ∀ v' w', w'.ownsRow base e size v' (n + m) (xs ++ news) → w.grownBy w' v.ownBlock → (v' = .slice none 0 0 ↔ v = .slice none 0 0 ∧ m = 0) → (v'.ownBlock = v.ownBlock ∨ v'.ownBlock = some w.heap.size) → K (a.put o.dst v') w') :
    o.wp P a w K Q := by
  obtain ⟨v', w', hr, h2, h3, h4, h5⟩ := run_append_own_at (P := P) w base t o.type e i z size bytes ht hi hz hsize hby hzs hsz v n xs hown ad m c news hl hnews h1 h63 hbytes hbase
  unfold Oper.wp execOp
  simp only [ho, resolve, invoke, builtin, Sem.run_bind, Sem.run_pure, Result.andThen_ok, List.map_toArray, List.map_cons, List.map_nil, hs, hx, hr]
  exact h v' w' h2 h3 h4 h5
/-- 'append(l, t)'. -/
theorem wp_append_te {w : World} {o : Oper} {a : Act} {K : Act → World → Prop} {Q : Exit → Act → World → Prop}
    (s x : Operand) (ho : o.op = .call { callee := .builtin .append, args := #[s, x], argTypes := #[42, 42] })
    (base : Nat) (v : Value) (l : List Te) (hs : a.eval s = v) (hown : To base w v l) (g : Nat) (t : Te) (hx : a.eval x = .slice (some ⟨g, 0, none⟩) 1 1)
    (c0 : w.cell? ⟨g, 0, none⟩ = some (.int .i64 t.st)) (c1 : w.cell? ⟨g, 1, none⟩ = some (.int .i64 t.pk)) (c2 : w.cell? ⟨g, 2, none⟩ = some (.int .i64 t.en))
    (ht : Tw t) (hlen : l.length + 1 ≤ 1000000) (hbase : base ≤ w.heap.size)
    (h : ∀ v' w', To base w' v' (l ++ [t]) → w.grownBy w' v.ownBlock → K (a.put o.dst v') w') : o.wp Try.prog a w K Q := by
  obtain ⟨i0, hi, hz0, hz1, hz2⟩ := info_parts info_te
  refine wp_append_own_at w s x 42 ho base 73 i0 (.agg #[.int .i64 0, .int .i64 0, .int .i64 0]) 3 24 Try.underlying42 hi hz0 hz1 hz2 rfl (by decide) v l.length (teL l) hs hown.2 ⟨g, 0, none⟩ 1 1 [.int .i64 t.st, .int .i64 t.pk, .int .i64 t.en] hx rfl ?_ ?_ (by unfold maxLen; omega) (by omega) hbase ?_
  · intro j u hj
    match j, hj with
    | 0, hj => simp at hj; subst hj; simpa [Addr.add] using c0
    | 1, hj => simp at hj; subst hj; simpa [Addr.add] using c1
    | 2, hj => simp at hj; subst hj; simpa [Addr.add] using c2
  · intro u hu
    simp at hu
    rcases hu with rfl | rfl | rfl <;> rfl
  · intro v' w' k1 k2 _ _
    refine h v' w' ⟨fun s hs => ?_, ?_⟩ k2
    · rcases List.mem_append.1 hs with hs | hs
      · exact hown.1 s hs
      · rw [List.mem_singleton.1 hs]; exact ht
    · rw [teL_append, List.length_append]
      exact k1
/-- 'append(m, l)': the slice is laid in a block of its own first. -/
theorem wp_append_rg {w : World} {o : Oper} {a : Act} {K : Act → World → Prop} {Q : Exit → Act → World → Prop}
    (s x : Operand) (ho : o.op = .call { callee := .builtin .append, args := #[s, x], argTypes := #[22, 22] })
    (base : Nat) (v : Value) (m : List (List Te)) (hs : a.eval s = v) (hown : Tq base w v m) (g : Nat) (a' : Option Addr) (cap' : Nat) (l : List Te) (hx : a.eval x = .slice (some ⟨g, 0, none⟩) 1 1)
    (c0 : w.cell? ⟨g, 0, none⟩ = some (.slice a' l.length cap')) (hl : Tz w a' cap' l) (hne : ∀ b o, a' = some ⟨b, o, none⟩ → l ≠ [] → v.ownBlock ≠ some b ∧ base ≤ b) (hlen : m.length + 1 ≤ 1000000) (hbase : base ≤ w.heap.size)
    (h : ∀ v' w', Tq base w' v' (m ++ [l]) → w.grownBy w' v.ownBlock → K (a.put o.dst v') w') : o.wp Try.prog a w K Q := by
  obtain ⟨i0, hi, hz0, hz1, hz2⟩ := info_parts info_tes
  obtain ⟨vs, h3, h4⟩ := hown
  refine wp_append_own_at w s x 22 ho base 42 i0 (.slice none 0 0) 1 24 Try.underlying22 hi hz0 hz1 hz2 rfl (by decide) v m.length vs hs h3 ⟨g, 0, none⟩ 1 1 [.slice a' l.length cap'] hx rfl ?_ ?_ (by unfold maxLen; omega) (by omega) hbase ?_
  · intro j u hj
    match j, hj with
    | 0, hj => simp at hj; subst hj; simpa [Addr.add] using c0
  · intro u hu
    simp at hu
    subst hu
    rfl
  · intro v' w' k1 k2 _ k4
    have hvs : vs.length = m.length := by have := h3.1; omega
    have hkeep : ∀ a2 c2 l2, Tz w a2 c2 l2 → (∀ b o, a2 = some ⟨b, o, none⟩ → l2 ≠ [] → v.ownBlock ≠ some b ∧ base ≤ b) → Tz w' a2 c2 l2 ∧ (∀ b o, a2 = some ⟨b, o, none⟩ → l2 ≠ [] → v'.ownBlock ≠ some b ∧ base ≤ b) := by
      intro a2 c2 l2 hp hn
      refine ⟨hp.keep k2.size (fun b hb ho hl2 => ?_), fun b o e hl2 => ?_⟩
      · obtain ⟨o, e⟩ := ho
        exact k2.block b hb (fun e' => (hn b o e hl2).1 e'.symm)
      · refine ⟨?_, (hn b o e hl2).2⟩
        rcases k4 with k4 | k4
        · rw [k4]; exact (hn b o e hl2).1
        · rw [k4]
          intro e'
          have hb2 := hp.blk hl2 e
          cases e'
          exact absurd hb2 (Nat.lt_irrefl _)
    refine h v' w' ⟨vs ++ [.slice a' l.length cap'], by rw [List.length_append]; exact k1, fun i hi => ?_⟩ k2
    by_cases him : i < m.length
    · obtain ⟨a2, c2, q0, q1, q2⟩ := h4 i him
      have e : (m ++ [l]).getD i [] = m.getD i [] := by simp [List.getD, List.getElem?_append_left him]
      rw [e]
      obtain ⟨r1, r2⟩ := hkeep _ _ _ q1 q2
      exact ⟨a2, c2, by rw [List.getElem?_append_left (by omega)]; exact q0, r1, r2⟩
    · have him' : i = m.length := by simp at hi; omega
      subst him'
      have e : (m ++ [l]).getD m.length [] = l := by simp [List.getD]
      rw [e]
      obtain ⟨r1, r2⟩ := hkeep _ _ _ hl hne
      exact ⟨a', cap', by rw [List.getElem?_append_right (by omega), hvs]; simp, r1, r2⟩

/-- 'append(m, l)': the slice is laid in a block of its own first. -/
theorem wp_append_rw {w : World} {o : Oper} {a : Act} {K : Act → World → Prop} {Q : Exit → Act → World → Prop}
    (s x : Operand) (ho : o.op = .call { callee := .builtin .append, args := #[s, x], argTypes := #[23, 23] })
    (base : Nat) (v : Value) (m : List (List Int)) (hs : a.eval s = v) (hown : Rq base w v m) (g : Nat) (a' : Option Addr) (cap' : Nat) (l : List Int) (hx : a.eval x = .slice (some ⟨g, 0, none⟩) 1 1)
    (c0 : w.cell? ⟨g, 0, none⟩ = some (.slice a' l.length cap')) (hl : Ri w a' cap' l) (hne : ∀ b o, a' = some ⟨b, o, none⟩ → l ≠ [] → v.ownBlock ≠ some b ∧ base ≤ b) (hlen : m.length + 1 ≤ 1000000) (hbase : base ≤ w.heap.size)
    (h : ∀ v' w', Rq base w' v' (m ++ [l]) → w.grownBy w' v.ownBlock → K (a.put o.dst v') w') : o.wp Try.prog a w K Q := by
  obtain ⟨i0, hi, hz0, hz1, hz2⟩ := info_parts info_is
  obtain ⟨vs, h3, h4⟩ := hown
  refine wp_append_own_at w s x 23 ho base 54 i0 (.slice none 0 0) 1 24 Try.underlying23 hi hz0 hz1 hz2 rfl (by decide) v m.length vs hs h3 ⟨g, 0, none⟩ 1 1 [.slice a' l.length cap'] hx rfl ?_ ?_ (by unfold maxLen; omega) (by omega) hbase ?_
  · intro j u hj
    match j, hj with
    | 0, hj => simp at hj; subst hj; simpa [Addr.add] using c0
  · intro u hu
    simp at hu
    subst hu
    rfl
  · intro v' w' k1 k2 _ k4
    have hvs : vs.length = m.length := by have := h3.1; omega
    have hkeep : ∀ a2 c2 l2, Ri w a2 c2 l2 → (∀ b o, a2 = some ⟨b, o, none⟩ → l2 ≠ [] → v.ownBlock ≠ some b ∧ base ≤ b) → Ri w' a2 c2 l2 ∧ (∀ b o, a2 = some ⟨b, o, none⟩ → l2 ≠ [] → v'.ownBlock ≠ some b ∧ base ≤ b) := by
      intro a2 c2 l2 hp hn
      refine ⟨hp.keep k2.size (fun b hb ho hl2 => ?_), fun b o e hl2 => ?_⟩
      · obtain ⟨o, e⟩ := ho
        exact k2.block b hb (fun e' => (hn b o e hl2).1 e'.symm)
      · refine ⟨?_, (hn b o e hl2).2⟩
        rcases k4 with k4 | k4
        · rw [k4]; exact (hn b o e hl2).1
        · rw [k4]
          intro e'
          have hb2 := hp.blk hl2 e
          cases e'
          exact absurd hb2 (Nat.lt_irrefl _)
    refine h v' w' ⟨vs ++ [.slice a' l.length cap'], by rw [List.length_append]; exact k1, fun i hi => ?_⟩ k2
    by_cases him : i < m.length
    · obtain ⟨a2, c2, q0, q1, q2⟩ := h4 i him
      have e : (m ++ [l]).getD i [] = m.getD i [] := by simp [List.getD, List.getElem?_append_left him]
      rw [e]
      obtain ⟨r1, r2⟩ := hkeep _ _ _ q1 q2
      exact ⟨a2, c2, by rw [List.getElem?_append_left (by omega)]; exact q0, r1, r2⟩
    · have him' : i = m.length := by simp at hi; omega
      subst him'
      have e : (m ++ [l]).getD m.length [] = l := by simp [List.getD]
      rw [e]
      obtain ⟨r1, r2⟩ := hkeep _ _ _ hl hne
      exact ⟨a', cap', by rw [List.getElem?_append_right (by omega), hvs]; simp, r1, r2⟩


end Go.Proofs.Ytjefaccpmoignaa
