/-
  foundrylaw10.StoreUsual: the walk.
-/
import Derived.Test.YtjefaccpmoignaaZ15
namespace Go.Proofs.Ytjefaccpmoignaa
open Go.RowKit Go.Maps
set_option linter.unusedSimpArgs false
set_option linter.unusedVariables false

set_option maxHeartbeats 8000000 in
set_option maxRecDepth 100000 in
theorem storeUsual_any (a : Option Addr) (ca : Nat) (b : Option Addr) (cb : Nat) (s : Sr) (n x r : Int) (w : World) (hg : Tzz w a ca s.rg) (hm : Rii w b cb s.rw) (hn : I64 n) (hx : I64 x) (hr : I64 r) :
    Calls Try.prog 5 #[.agg #[.slice a s.rg.length ca, .slice b s.rw.length cb], .int .i64 n, .agg #[.int .i64 x, .int .i64 r]] w fun e w' => e = .returned (.bool true) ∧ Below w.heap.size w w' := by
  have k1 := hg.lenB
  have k2 := hm.lenB
  have hst := fun U h1 h2 => cformS_any a ca b cb s n U h1 h2
  have hfi := fun U => cfits_any a ca b cb s x r U k2 hx hr
  obtain ⟨W, hW, X1, X2, hbW⟩ : ∃ W, W = (w.alloc (.cells #[.slice a s.rg.length ca, .slice b s.rw.length cb] 25)).alloc (.cells #[.int .i64 x, .int .i64 r] 39) ∧ BxS W w.heap.size (.slice a s.rg.length ca) (.slice b s.rw.length cb) ∧ BxL W (w.heap.size + 1) (.int .i64 x) (.int .i64 r) ∧ Below w.heap.size w W := ⟨_, rfl, (BxS.new _ _ _).below (bl1 _), BxL.new1 _ _ _ _, bl2 _ _⟩
  replace hg := hg.below hbW
  replace hm := hm.below hbW
  go_enter Try.func5, Try.ntmps5
  go_wp2_with fail
  rw [← hW]
  clear hW
  refine (awake10_any _).mono ?_
  rintro e t1 ⟨rfl, hb1⟩
  replace hg := hg.below hb1
  replace hm := hm.below hb1
  replace X1 := X1.below hb1
  replace X2 := X2.below hb1
  replace hbW : Below w.heap.size w t1 := hbW.trans (hb1.mono hbW.size)
  clear hb1
  obtain ⟨p00, p01, _⟩ := X1.cells
  obtain ⟨p10, p11, _⟩ := X2.cells
  go_wp2_with fail
  refine (few10_any a ca b cb s _ hg hm).mono ?_
  rintro e t2 ⟨q, rfl, hq, hb2⟩
  clear p00 p01 p10 p11
  replace hg := hg.below hb2
  replace hm := hm.below hb2
  replace X1 := X1.below hb2
  replace X2 := X2.below hb2
  replace hbW : Below w.heap.size w t2 := hbW.trans (hb2.mono hbW.size)
  clear hb2
  obtain ⟨p00, p01, _⟩ := X1.cells
  obtain ⟨p10, p11, _⟩ := X2.cells
  cases q with
  | false =>
    clear hq
    go_wp2_with fail
    refine (awake10_any _).mono ?_
    rintro e v9 ⟨rfl, hb9⟩
    replace hbW := hbW.trans (hb9.mono hbW.size)
    clear hb9
    go_wp2
    go_ret
    exact ⟨rfl, hbW⟩
  | true =>
    obtain ⟨hq1, hq2⟩ := hq rfl
    clear hq
    cases hs : stB s n with
    | false =>
      simp only [hs] at hst
      clear hs
      go_wp2_with fail
      refine (hst _ hg hm).mono ?_
      rintro e t3 ⟨rfl, hb3⟩
      clear p00 p01 p10 p11
      replace hg := hg.below hb3
      replace hm := hm.below hb3
      replace X1 := X1.below hb3
      replace X2 := X2.below hb3
      replace hbW : Below w.heap.size w t3 := hbW.trans (hb3.mono hbW.size)
      clear hb3
      obtain ⟨p00, p01, _⟩ := X1.cells
      obtain ⟨p10, p11, _⟩ := X2.cells
      go_wp2_with fail
      refine (awake10_any _).mono ?_
      rintro e v9 ⟨rfl, hb9⟩
      replace hbW := hbW.trans (hb9.mono hbW.size)
      clear hb9
      go_wp2
      go_ret
      exact ⟨rfl, hbW⟩
    | true =>
      simp only [hs] at hst
      go_wp2_with fail
      refine (hst _ hg hm).mono ?_
      rintro e t3 ⟨rfl, hb3⟩
      clear p00 p01 p10 p11
      replace hg := hg.below hb3
      replace hm := hm.below hb3
      replace X1 := X1.below hb3
      replace X2 := X2.below hb3
      replace hbW : Below w.heap.size w t3 := hbW.trans (hb3.mono hbW.size)
      clear hb3
      obtain ⟨p00, p01, _⟩ := X1.cells
      obtain ⟨p10, p11, _⟩ := X2.cells
      cases hf : fiS s x r with
      | false =>
        simp only [hf] at hfi
        clear hf hs
        go_wp2_with fail
        refine (hfi _).mono ?_
        rintro e t4 ⟨rfl, hb4⟩
        clear p00 p01 p10 p11
        replace hg := hg.below hb4
        replace hm := hm.below hb4
        replace X1 := X1.below hb4
        replace X2 := X2.below hb4
        replace hbW : Below w.heap.size w t4 := hbW.trans (hb4.mono hbW.size)
        clear hb4
        obtain ⟨p00, p01, _⟩ := X1.cells
        obtain ⟨p10, p11, _⟩ := X2.cells
        go_wp2_with fail
        refine (awake10_any _).mono ?_
        rintro e v9 ⟨rfl, hb9⟩
        replace hbW := hbW.trans (hb9.mono hbW.size)
        clear hb9
        go_wp2
        go_ret
        exact ⟨rfl, hbW⟩
      | true =>
        have hfb := (fiS_iff.1 hf).1
        have HV : Hid ((∀ j, j < s.rg.length → evB (s.rg.getD j []) = false) → chQ s r [] = 0 ∧ vaQ s x r [] = ((x : Int) : Rat)) := fun h => vaQ_start hs h
        have HR : Hid (roN s x r [] = fldN (vaQ s x r [] + 1 / 2).floor ∧ roE s x r [] = fldE (vaQ s x r [] + 1 / 2).floor) := by
          show _ ∧ _
          constructor
          · rw [roN, hf]; rfl
          · rw [roE, hf]; rfl
        simp only [hf] at hfi
        clear hf hs
        go_wp2_with fail
        refine (hfi _).mono ?_
        rintro e t4 ⟨rfl, hb4⟩
        clear p00 p01 p10 p11
        replace hg := hg.below hb4
        replace hm := hm.below hb4
        replace X1 := X1.below hb4
        replace X2 := X2.below hb4
        replace hbW : Below w.heap.size w t4 := hbW.trans (hb4.mono hbW.size)
        clear hb4
        obtain ⟨p00, p01, _⟩ := X1.cells
        obtain ⟨p10, p11, _⟩ := X2.cells
        clear hst hfi
        go_wp2
        have HG : Hid (Tzz t4 a ca s.rg) := hg
        have HM : Hid (Rii t4 b cb s.rw) := hm
        have HX1 : Hid (BxS t4 w.heap.size (.slice a s.rg.length ca) (.slice b s.rw.length cb)) := X1
        have HX2 : Hid (BxL t4 (w.heap.size + 1) (.int .i64 x) (.int .i64 r)) := X2
        have HBW : Hid (Below w.heap.size w t4) := hbW
        clear hg hm X1 X2 hbW p00 p01 p10 p11
        go_loopw [7] (fun i wr => ∃ k : Nat, k ≤ s.rg.length ∧ i = .int .i64 k ∧ (∀ j, j < k → evB (s.rg.getD j []) = false) ∧ Below t4.heap.size t4 wr) (fun i _ => s.rg.length - (intOf i).toNat)
        case atStart => exact ⟨0, Nat.zero_le _, rfl, (fun j hj => by omega), Below.refl _ _⟩
        case round =>
          obtain ⟨k, hk, rfl, hok, hB⟩ := hrel
          have HOK : Hid (∀ j, j < k → evB (s.rg.getD j []) = false) := hok
          clear hok
          have X1 := HX1.out.below hB
          have hbW := HBW.out.trans (hB.mono HBW.out.size)
          obtain ⟨p00, p01, _⟩ := X1.cells
          by_cases hkn : k < s.rg.length
          · obtain ⟨b1, o1, a1, c1, ea, _, d0, hp⟩ := HG.out.at hB k hkn
            have hev := fun U hU => ceverywhere_any a1 c1 (s.rg.getD k []) U hU
            obtain ⟨l, hl⟩ : ∃ l, s.rg.getD k [] = l := ⟨_, rfl⟩
            have HL : Hid (s.rg.getD k [] = l) := hl
            rw [hl] at d0 hp
            simp only [hl] at hev
            subst ea
            clear hl
            cases he : evB l with
            | true =>
              simp only [he] at hev
              clear he
              go_wp2_with fail
              refine (hev _ hp).mono ?_
              rintro e v1 ⟨rfl, hb8⟩
              replace hbW := hbW.trans (hb8.mono hbW.size)
              clear hb8 hev
              go_wp2
              go_ret
              exact ⟨rfl, hbW⟩
            | false =>
              have HOK2 : Hid (∀ j, j < k + 1 → evB (s.rg.getD j []) = false) := fun j hj => by
                rcases Nat.lt_or_ge j k with h1 | h1
                · exact HOK.out j h1
                · rw [show j = k by omega, HL.out]; exact he
              simp only [he] at hev
              clear he
              go_wp2_with fail
              refine (hev _ hp).mono ?_
              rintro e v1 ⟨rfl, hb8⟩
              replace hB := hB.trans (hb8.mono hB.size)
              clear hb8 hev
              go_wp2
              go_roundw
              case rel => exact ⟨k + 1, by omega, by go_num, HOK2.out, hB⟩
              case measure => simp [intOf]; omega
          · obtain rfl : k = s.rg.length := by omega
            obtain ⟨hc0, hv0⟩ := HV.out HOK.out
            have hg := HG.out.below hB
            have hm := HM.out.below hB
            have X2 := HX2.out.below hB
            obtain ⟨p10, p11, _⟩ := X2.cells
            have hro := fun U h1 h2 => crounded_any a ca b cb s x r none 0 [] U h1 h2 (Ri.nil U none 0 (Nat.zero_le _)) hx hr (by omega) hq2
            have hch := fun U h1 h2 => cchange_any a ca b cb s r none 0 [] U h1 h2 (Ri.nil U none 0 (Nat.zero_le _)) (by omega) hq2
            simp only [HR.out.1, HR.out.2, hv0, (fld_int hfb.1 hfb.2).1, (fld_int hfb.1 hfb.2).2, List.length_nil] at hro
            simp only [hc0, List.length_nil] at hch
            have HS0 : Hid (sgnQ (0 : Rat) = 0) := sgnQ_zero.2 rfl
            clear hc0 hv0 HV HR HOK hq1 hq2 hfb
            go_wp2_with fail
            refine (hro _ hg hm).mono ?_
            rintro e t21 ⟨rfl, hb21⟩
            clear p00 p01 p10 p11
            replace hg := hg.below hb21
            replace hm := hm.below hb21
            replace X1 := X1.below hb21
            replace X2 := X2.below hb21
            replace hbW : Below w.heap.size w t21 := hbW.trans (hb21.mono hbW.size)
            clear hb21
            obtain ⟨p00, p01, _⟩ := X1.cells
            obtain ⟨p10, p11, _⟩ := X2.cells
            go_wp2_with fail
            refine (hch _ hg hm).mono ?_
            rintro e t22 ⟨v5, rfl, hF5, hb22⟩
            clear p00 p01 p10 p11
            replace hg := hg.below hb22
            replace hm := hm.below hb22
            replace X1 := X1.below hb22
            replace X2 := X2.below hb22
            replace hbW : Below w.heap.size w t22 := hbW.trans (hb22.mono hbW.size)
            clear hb22
            obtain ⟨p00, p01, _⟩ := X1.cells
            obtain ⟨p10, p11, _⟩ := X2.cells
            go_wp2_with fail
            refine (qsign_any 1000 0 _ _ hF5.ct (by decide) (by decide)).mono ?_
            rintro e t23 ⟨rfl, hb23⟩
            clear p00 p01 p10 p11
            replace hg := hg.below hb23
            replace hm := hm.below hb23
            replace hF5 := hF5.below hb23
            replace X1 := X1.below hb23
            replace X2 := X2.below hb23
            replace hbW : Below w.heap.size w t23 := hbW.trans (hb23.mono hbW.size)
            clear hb23
            obtain ⟨p00, p01, _⟩ := X1.cells
            obtain ⟨p10, p11, _⟩ := X2.cells
            rw [HS0.out]
            go_wp2
            go_ret
            exact ⟨rt_bool (by first | rfl | simp), hbW⟩

end Go.Proofs.Ytjefaccpmoignaa
