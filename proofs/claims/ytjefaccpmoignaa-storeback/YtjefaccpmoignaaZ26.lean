/-
  foundryref10.Read: the walk.
  What a law is told of a slice of bytes, or of int32, that came in.
  What a law is told of a list of ints that came in.
  What a law is told of a tent, and of a list of tents, that came in.
-/
import Derived.Test.YtjefaccpmoignaaZ25
import Derived.Test.YtjefaccpmoignaaZ23
import Derived.Test.YtjefaccpmoignaaZ24
import Derived.Deep.CutRange
import Derived.Deep.CutBlock
import Derived.Test.YtjefaccpmoignaaZ9
import Derived.ProofKit
import Derived.Deep.Slices
import Derived.Lib.SmallJoins
import Derived.ChangeSame
import Derived.Test.YtjefaccpmoignaaZ10
import Derived.Deep.Strs
namespace Go.Proofs.Ytjefaccpmoignaa
open Go.RowKit Go.Maps
set_option linter.unusedSimpArgs false
set_option linter.unusedVariables false

set_option maxHeartbeats 4000000 in
set_option maxRecDepth 100000 in
theorem sreadS_any (a : Option Addr) (cap : Nat) (xs : List Nat) (w : World) (h : Rb w a cap xs) (hlx : xs.length ≤ 1000000000) :
    Calls Try.prog 13 #[.slice a xs.length cap] w fun e w' => ∃ a1 c1 b1 d1, e = .returned (.tuple #[.agg #[.slice a1 (rdSL xs).rg.length c1, .slice b1 (rdSL xs).rw.length d1], .int .i64 (rdSN xs), .int .i64 (rdSE xs)]) ∧ Tzz w' a1 c1 (rdSL xs).rg ∧ Rii w' b1 d1 (rdSL xs).rw ∧ Below w.heap.size w w' := by
  have k1 := h.le
  have k2 := h.cap
  unfold maxLen at k2
  have HH : Hid (Rb w a cap xs) := h
  have HBY : Hid (Byt xs) := h.lim
  have HBAD : Hid (rdSB xs = false → rdSE xs = 2 ∧ rdSN xs = 0 ∧ (rdSL xs).rg = [] ∧ (rdSL xs).rw = []) := rdS_bad
  have HGOOD : Hid (rdSB xs = true → rdSE xs = 0 ∧ rdSN xs = (axN xs : Int) ∧ rdSL xs = rdS xs) := fun h => ⟨by simp [rdSE, h], by simp [rdSN, h], by simp [rdSL, h]⟩
  have HRB : Hid (rdSB xs = (stB (rdS xs) (axN xs : Int) && decide (stE (rdS xs) (axN xs : Int) = xs))) := rfl
  have hu0 := fun U hU => su16_any a cap xs 0 U hU ⟨by decide, by decide⟩
  have hu2 := fun U hU => su16_any a cap xs 2 U hU ⟨by decide, by decide⟩
  have hn0 : nmV xs 0 2 < 65536 := nmV_lt h.lim 0 2
  have hn2 : nmV xs 2 2 < 65536 := nmV_lt h.lim 2 2
  obtain ⟨ax, hax⟩ : ∃ n, nmV xs 0 2 = n := ⟨_, rfl⟩
  obtain ⟨rg, hrg⟩ : ∃ n, nmV xs 2 2 = n := ⟨_, rfl⟩
  have HAX : Hid (axN xs = ax) := hax
  have HRG : Hid (rgN xs = rg) := hrg
  simp only [hax] at hu0 hn0
  simp only [hrg] at hu2 hn2
  obtain ⟨L, hL⟩ : ∃ L, (rdRg xs).length = L := ⟨_, rfl⟩
  have HL : Hid ((rdRg xs).length = L) := hL
  have HOK : Hid ((ax ≤ 4 ∧ rg ≤ 40 ∧ L = rg) ∨ (¬ (ax ≤ 4 ∧ rg ≤ 40) ∧ L = 0)) := by
    show _ ∨ _
    by_cases hc : ax ≤ 4 ∧ rg ≤ 40
    · refine .inl ⟨hc.1, hc.2, ?_⟩
      rw [← hL, rdRg, if_pos (by rw [HAX.out, HRG.out]; exact hc), rgsAt_len, HRG.out]
    · refine .inr ⟨hc, ?_⟩
      rw [← hL, rdRg, if_neg (by rw [HAX.out, HRG.out]; exact hc)]
      rfl
  have HRD : Hid (rgsAt xs 4 ax L = rdRg xs) := by
    show _ = _
    rcases HOK.out with ⟨h1, h2, h3⟩ | ⟨h1, h2⟩
    · rw [rdRg, if_pos (by rw [HAX.out, HRG.out]; exact ⟨h1, h2⟩), HAX.out, HRG.out, h3]
    · rw [rdRg, if_neg (by rw [HAX.out, HRG.out]; exact h1), h2]
      rfl
  have hL40 : L ≤ 40 := by rcases HOK.out with h1 | h1 <;> omega
  generalize inB xs.length 0 2 = i0 at *
  generalize inB xs.length 2 2 = i2 at *
  obtain ⟨W, hW, R0, hbW⟩ : ∃ W, W = w.alloc (.cells #[.slice none 0 0, .slice none 0 0] 25) ∧ BxS W w.heap.size (.slice none 0 0) (.slice none 0 0) ∧ Below w.heap.size w W := ⟨_, rfl, BxS.new _ _ _, bl1 _⟩
  obtain ⟨V, hV, X1, hbV⟩ : ∃ V, V = W.alloc (.cells #[.slice none 0 0, .slice none 0 0] 25) ∧ BxS V W.heap.size (.slice none 0 0) (.slice none 0 0) ∧ Below W.heap.size W V := ⟨_, rfl, BxS.new _ _ _, bl1 _⟩
  have hgs1 := R0.lt
  have hgs2 := X1.lt
  have hWs : W.heap.size = w.heap.size + 1 := by rw [hW]; simp
  replace R0 := R0.below hbV
  replace hbW := hbW.trans (hbV.mono hbW.size)
  have hh := h.below hbW
  rw [hW] at hV
  clear h hax hrg hL hbV hW
  rw [hWs] at X1 hgs1 hgs2
  clear hWs
  go_enter Try.func13, Try.ntmps13
  go_wp2_with fail
  rw [← hV]
  clear hV
  generalize w.heap.size + 1 = gS at *
  refine (hu0 _ hh).mono ?_
  rintro e t1 ⟨rfl, rfl⟩
  go_wp2_with fail
  refine (hu2 _ hh).mono ?_
  rintro e t2 ⟨rfl, rfl⟩
  clear hu0 hu2 hh
  go_upto_block 0 with fail
  go_cut [10] from 11 to 91 (fun s10 wx => ∃ v : Value, s10 = .int .i64 ((4 + 6 * ax * L : Nat) : Int) ∧ BxS wx gS v (.slice none 0 0) ∧ Tq V.heap.size wx v (rgsAt xs 4 ax L) ∧ BxS wx w.heap.size (.slice none 0 0) (.slice none 0 0) ∧ Below w.heap.size w wx ∧ V.heap.size ≤ wx.heap.size)
  case first =>
    go_wp2_with fail
    go_loopw [10, 11] (fun at_ i wr => ∃ (k : Nat) (v : Value), k ≤ L ∧ at_ = .int .i64 ((4 + 6 * ax * k : Nat) : Int) ∧ i = .int .i64 (k : Int) ∧ BxS wr gS v (.slice none 0 0) ∧ Tq V.heap.size wr v (rgsAt xs 4 ax k) ∧ BxS wr w.heap.size (.slice none 0 0) (.slice none 0 0) ∧ Below w.heap.size w wr ∧ V.heap.size ≤ wr.heap.size) (fun _ i _ => L - (intOf i).toNat)
    case atStart => exact ⟨0, _, Nat.zero_le _, rfl, rfl, X1, Tq.nil _ _, R0, hbW, Nat.le_refl _⟩
    case round =>
      clear X1 R0 hbW
      obtain ⟨k, v, hk, rfl, rfl, X1, hTq, R0, hbW, hsz⟩ := hrel
      obtain ⟨a2, c2, rfl, hts⟩ := hTq.slice
      rw [rgsAt_len] at X1 hTq
      by_cases hkn : k < L
      · clear hts
        have hcc : ax ≤ 4 ∧ rg ≤ 40 ∧ k < rg := by rcases HOK.out with h1 | h1 <;> omega
        obtain ⟨b1, b2, b3⟩ := hcc
        have g1 : decide ((k : Int) < (rg : Int)) = true := decide_eq_true (by omega)
        have g2 : decide ((ax : Int) ≤ 4) = true := decide_eq_true (by omega)
        have g3 : decide ((rg : Int) ≤ 40) = true := decide_eq_true (by omega)
        have j1 : (k : Int) < (rg : Int) := by omega
        have j2 : (ax : Int) ≤ 4 := by omega
        have j3 : (rg : Int) ≤ 40 := by omega
        obtain ⟨P, hP⟩ : ∃ P, 4 + 6 * ax * k = P := ⟨_, rfl⟩
        have hPb : P ≤ 964 := by
          rw [← hP]
          have : 6 * ax * k ≤ 24 * 40 := Nat.mul_le_mul (by omega) (by omega)
          omega
        have HV : Hid (rgsAt xs 4 ax (k + 1) = rgsAt xs 4 ax k ++ [tesAt xs P ax]) := by show _ = _; rw [rgsAt_succ, hP]
        have HP1 : Hid (4 + 6 * ax * (k + 1) = P + 6 * ax) := by show _ = _; rw [← hP, Nat.mul_add]; omega
        rw [hP]
        clear hP
        have HT0 : Hid (Tq V.heap.size wr (.slice a2 k c2) (rgsAt xs 4 ax k)) := hTq
        have HX1 : Hid (BxS wr gS (.slice a2 k c2) (.slice none 0 0)) := X1
        have HR0 : Hid (BxS wr w.heap.size (.slice none 0 0) (.slice none 0 0)) := R0
        have HBo : Hid (Below w.heap.size w wr) := hbW
        obtain ⟨wo, rfl⟩ : ∃ wo, wo = wr := ⟨_, rfl⟩
        have hll : (rgsAt xs 4 ax k).length + 1 ≤ 1000000 := by rw [rgsAt_len]; omega
        clear X1 R0 hbW hTq
        go_wp2
        go_loopw [10, 12, 13] (fun at_ v i wr => ∃ j : Nat, j ≤ ax ∧ at_ = .int .i64 ((P : Int) + 6 * (j : Int)) ∧ i = .int .i64 (j : Int) ∧ To wo.heap.size wr v (tesAt xs P j) ∧ Below wo.heap.size wo wr) (fun _ _ i _ => ax - (intOf i).toNat)
        case atStart => exact ⟨0, Nat.zero_le _, by go_num, rfl, To.nil _ _, Below.refl _ _⟩
        case round =>
          clear g1 g2 g3
          obtain ⟨j, hj, rfl, rfl, hTo, hB⟩ := hrel
          obtain ⟨a4, c4, rfl, hts, hlo⟩ := hTo.sliceLo
          rw [tesAt_len] at hTo ⊢
          have HTI : Hid (To wo.heap.size wr (.slice a4 j c4) (tesAt xs P j)) := hTo
          have HTS : Hid (Tz wr a4 c4 (tesAt xs P j) ∧ ∀ b o, a4 = some ⟨b, o, none⟩ → wo.heap.size ≤ b) := ⟨hts, hlo⟩
          clear hTo hts hlo
          have hbW : Below w.heap.size w wr := HBo.out.trans (hB.mono HBo.out.size)
          by_cases hjn : j < ax
          · have HTV : Hid (tesAt xs P (j + 1) = tesAt xs P j ++ [⟨sx16 (nmV xs ((P : Int) + 6 * (j : Int)) 2), sx16 (nmV xs ((P : Int) + 6 * (j : Int) + 2) 2), sx16 (nmV xs ((P : Int) + 6 * (j : Int) + 4) 2)⟩]) := by
              show _ = _
              rw [tesAt_succ, teAt, show ((P + 6 * j : Nat) : Int) = (P : Int) + 6 * (j : Int) by omega, show ((P + 6 * j + 2 : Nat) : Int) = (P : Int) + 6 * (j : Int) + 2 by omega, show ((P + 6 * j + 4 : Nat) : Int) = (P : Int) + 6 * (j : Int) + 4 by omega]
            have hZ1 := sx16_i64S HBY.out ((P : Int) + 6 * (j : Int))
            have hZ2 := sx16_i64S HBY.out ((P : Int) + 6 * (j : Int) + 2)
            have hZ3 := sx16_i64S HBY.out ((P : Int) + 6 * (j : Int) + 4)
            have hr := HH.out.below hbW
            have hll2 : (tesAt xs P j).length + 1 ≤ 1000000 := by rw [tesAt_len]; omega
            go_wp2_with fail
            refine (si16_any a cap xs ((P : Int) + 6 * (j : Int)) _ hr ⟨by omega, by omega⟩).mono ?_
            rintro e v1 ⟨rfl, rfl⟩
            generalize sx16 (nmV xs ((P : Int) + 6 * (j : Int)) 2) = z1 at *
            generalize inB xs.length ((P : Int) + 6 * (j : Int)) 2 = i1
            go_wp2_with fail
            refine (si16_any a cap xs ((P : Int) + 6 * (j : Int) + 2) _ hr ⟨by omega, by omega⟩).mono ?_
            rintro e v2 ⟨rfl, rfl⟩
            generalize sx16 (nmV xs ((P : Int) + 6 * (j : Int) + 2) 2) = z2 at *
            generalize inB xs.length ((P : Int) + 6 * (j : Int) + 2) 2 = i3
            go_wp2_with fail
            refine (si16_any a cap xs ((P : Int) + 6 * (j : Int) + 4) _ hr ⟨by omega, by omega⟩).mono ?_
            rintro e v3 ⟨rfl, rfl⟩
            generalize sx16 (nmV xs ((P : Int) + 6 * (j : Int) + 4) 2) = z3 at *
            generalize inB xs.length ((P : Int) + 6 * (j : Int) + 4) 2 = i4
            clear hr
            have HZ : Hid (Tw ⟨z1, z2, z3⟩) := ⟨hZ1, hZ2, hZ3⟩
            have hT5 := HTI.out.below (bl1 (.cells #[.int .i64 z1, .int .i64 z2, .int .i64 z3] 73))
            obtain ⟨n0, n1, n2, _⟩ := (Box.new 73 wr (.int .i64 z1) (.int .i64 z2) (.int .i64 z3)).cells
            have hbs : wo.heap.size ≤ (wr.alloc (.cells #[.int .i64 z1, .int .i64 z2, .int .i64 z3] 73)).heap.size := by have := hB.size; simp; omega
            clear hZ1 hZ2 hZ3
            go_wp2_with (at_builtin; refine wpList_append_te rfl _ _ rfl wo.heap.size _ (tesAt xs P j) rfl hT5 wr.heap.size ⟨z1, z2, z3⟩ rfl n0 n1 n2 HZ.out hll2 hbs ?_)
            intro v' w9 hT9 hgrow
            have hB9 : Below wo.heap.size wo w9 := (hB.alloc hB.size _).grown hgrow hbs (fun k hk => HTI.out.lo hk)
            rw [← HTV.out] at hT9
            clear hgrow hT5 n0 n1 n2 hbs hB hbW
            go_wp2
            go_roundw
            case rel => exact ⟨j + 1, by omega, by go_num, by go_num, hT9, hB9⟩
            case measure => simp [intOf]; omega
          · obtain rfl : j = ax := by omega
            have g4 : ¬ (j : Int) < (j : Int) := by omega
            have X1 := HX1.out.below hB
            have R0 := HR0.out.below hB
            have hTq := HT0.out.below hB
            have hls := hB.size
            have HLL : Hid ((tesAt xs P j).length = j) := tesAt_len _ _ _
            have hT5 := hTq.below (bl1 (.cells #[.slice a4 j c4] 42))
            have hp5 := HTS.out.1.below (bl1 (.cells #[.slice a4 j c4] 42))
            have hN := heap_alloc_new wr (.cells #[.slice a4 j c4] 42)
            have n0 := cell_of_row _ wr.heap.size 0 _ _ (0, 0) hN
            have n0' : (wr.alloc (.cells #[.slice a4 j c4] 42)).cell? ⟨wr.heap.size, 0, none⟩ = some (.slice a4 (tesAt xs P j).length c4) := by rw [HLL.out]; exact n0
            have hne : ∀ b o, a4 = some ⟨b, o, none⟩ → tesAt xs P j ≠ [] → (Value.slice a2 k c2).ownBlock ≠ some b ∧ V.heap.size ≤ b := fun b o e _ => by
              have h1 := HTS.out.2 b o e
              refine ⟨fun e2 => ?_, by omega⟩
              have h2 := (HT0.out.lo e2).2
              omega
            have hbs : V.heap.size ≤ (wr.alloc (.cells #[.slice a4 j c4] 42)).heap.size := by simp; omega
            have X5 := X1.below (bl1 (.cells #[.slice a4 j c4] 42))
            have R5 := R0.below (bl1 (.cells #[.slice a4 j c4] 42))
            have hB5 := hbW.alloc hbW.size (.cells #[.slice a4 j c4] 42)
            obtain ⟨p0, p1, _⟩ := X1.cells
            clear hN n0
            go_wp2_with (at_builtin; refine wpList_append_rg rfl _ _ rfl V.heap.size _ (rgsAt xs 4 j k) rfl hT5 wr.heap.size a4 c4 (tesAt xs P j) rfl n0' hp5 hne hll hbs ?_)
            intro v' w9 hT9 hgrow
            obtain ⟨a9, c9, hv9, _⟩ := hT9.slice
            obtain ⟨n9, hn9⟩ : ∃ n, (rgsAt xs 4 j k ++ [tesAt xs P j]).length = n := ⟨_, rfl⟩
            rw [hn9] at hv9
            subst hv9
            clear hn9
            have hnx : some gS ≠ Value.ownBlock (.slice a2 k c2) := fun e => by have := (HT0.out.lo e.symm).1; omega
            have hnr : some w.heap.size ≠ Value.ownBlock (.slice a2 k c2) := fun e => by have := (HT0.out.lo e.symm).1; omega
            replace X5 := X5.grown hgrow hnx
            replace R5 := R5.grown hgrow hnr
            have hB9 : Below w.heap.size w w9 := hB5.grown hgrow (by have := hB5.size; omega) (fun k hk => by have := (HT0.out.lo hk).1; omega)
            have hgz : wr.heap.size + 1 ≤ w9.heap.size := by have := hgrow.size; simpa using this
            clear hgrow hT5 hp5 n0' hne hbs hnx hnr X1 R0 p0 p1 hB5
            obtain ⟨f0, f1, f2, f3⟩ := X5.cells
            go_wp2
            obtain ⟨U9, hU, X2, hbU, ho, hz9⟩ := setS0_world X5 (.slice a9 n9 c9)
            rw [← hU]
            replace hB9 := hbU _ _ hB9 (by omega)
            replace R5 := R5.otherB (G := gS) (by omega) ho
            replace hT9 := hT9.other (G := gS) (by omega) (Nat.le_of_eq hz9.symm) (fun b _ hb => ho b hb)
            rw [← HV.out] at hT9
            clear hU f0 f1 f2 f3 hbU ho
            go_roundw
            case rel => exact ⟨k + 1, _, by omega, by rw [HP1.out]; congr 1 <;> omega, by go_num, X2, hT9, R5, hB9, by omega⟩
            case measure => simp [intOf]; omega
      · obtain rfl : k = L := by omega
        clear hts
        rcases HOK.out with ⟨h1, h2, h3⟩ | ⟨h1, h2⟩
        · have g1 : decide ((k : Int) < (rg : Int)) = false := decide_eq_false (by omega)
          have j1 : ¬ (k : Int) < (rg : Int) := by omega
          clear h1 h2 h3
          go_wp2_with fail
          go_meet
          exact ⟨_, rfl, X1, hTq, R0, hbW, hsz⟩
        · by_cases h3 : k < rg
          · have g1 : decide ((k : Int) < (rg : Int)) = true := decide_eq_true (by omega)
            have j1 : (k : Int) < (rg : Int) := by omega
            by_cases h4 : ax ≤ 4
            · have g2 : decide ((ax : Int) ≤ 4) = true := decide_eq_true (by omega)
              have j2 : (ax : Int) ≤ 4 := by omega
              have g3 : decide ((rg : Int) ≤ 40) = false := decide_eq_false (by omega)
              have j3 : ¬ (rg : Int) ≤ 40 := by omega
              clear h1 h2 h3 h4
              go_wp2_with fail
              go_meet
              exact ⟨_, rfl, X1, hTq, R0, hbW, hsz⟩
            · have g2 : decide ((ax : Int) ≤ 4) = false := decide_eq_false (by omega)
              have j2 : ¬ (ax : Int) ≤ 4 := by omega
              clear h1 h2 h3 h4
              go_wp2_with fail
              go_meet
              exact ⟨_, rfl, X1, hTq, R0, hbW, hsz⟩
          · have g1 : decide ((k : Int) < (rg : Int)) = false := decide_eq_false (by omega)
            have j1 : ¬ (k : Int) < (rg : Int) := by omega
            clear h1 h2 h3
            go_wp2_with fail
            go_meet
            exact ⟨_, rfl, X1, hTq, R0, hbW, hsz⟩
  case rest =>
    clear X1 R0 hbW
    obtain ⟨v, rfl, X1, hTq, R0, hbW, hsz⟩ := hcut
    obtain ⟨wp, rfl⟩ : ∃ wp, wp = wc := ⟨_, rfl⟩
    rw [HRD.out] at hTq
    obtain ⟨a2, c2, rfl, hts⟩ := hTq.slice
    rw [HL.out] at X1 hTq
    have HTQ : Hid (Tq V.heap.size wp (.slice a2 L c2) (rdRg xs)) := hTq
    clear hts hTq
    have HPP : Hid (rwP xs = 4 + 6 * ax * L) := by show _ = _; rw [rwP, HAX.out, HL.out]
    have hPb : 4 + 6 * ax * L ≤ 964 := by
      rcases HOK.out with ⟨h1, h2, h3⟩ | ⟨h1, h2⟩
      · have : 6 * ax * L ≤ 24 * 40 := Nat.mul_le_mul (by omega) (by omega)
        omega
      · rw [h2]; omega
    obtain ⟨P, hP⟩ : ∃ P, 4 + 6 * ax * L = P := ⟨_, rfl⟩
    rw [hP] at HPP hPb
    rw [hP]
    have hus := su16_any a cap xs (P : Int) wp (HH.out.below hbW) ⟨by omega, by omega⟩
    have hn3 : nmV xs (P : Int) 2 < 65536 := nmV_lt HBY.out _ 2
    obtain ⟨nr, hnr⟩ : ∃ n, nmV xs (P : Int) 2 = n := ⟨_, rfl⟩
    have HNR : Hid (rwN xs = nr) := by show _ = _; rw [rwN, HPP.out]; exact hnr
    rw [hnr] at hus hn3
    generalize inB xs.length (P : Int) 2 = i5 at *
    obtain ⟨R, hR⟩ : ∃ R, (rdRw xs).length = R := ⟨_, rfl⟩
    have HR : Hid ((rdRw xs).length = R) := hR
    have HOK2 : Hid ((nr ≤ 400 ∧ R = nr) ∨ (¬ nr ≤ 400 ∧ R = 0)) := by
      show _ ∨ _
      by_cases hc : nr ≤ 400
      · refine .inl ⟨hc, ?_⟩
        rw [← hR, rdRw, if_pos (by rw [HNR.out]; exact hc), rowsAt_len, HNR.out]
      · refine .inr ⟨hc, ?_⟩
        rw [← hR, rdRw, if_neg (by rw [HNR.out]; exact hc)]
        rfl
    have HRW : Hid (rowsAt xs (P + 2) L R = rdRw xs) := by
      show _ = _
      rcases HOK2.out with ⟨h1, h2⟩ | ⟨h1, h2⟩
      · rw [rdRw, if_pos (by rw [HNR.out]; exact h1), HPP.out, HL.out, HNR.out, h2]
      · rw [rdRw, if_neg (by rw [HNR.out]; exact h1), h2]
        rfl
    have hR4 : R ≤ 400 := by rcases HOK2.out with h1 | h1 <;> omega
    clear hP hnr hR
    go_wp2_with fail
    refine hus.mono ?_
    rintro e t3 ⟨rfl, rfl⟩
    clear hus
    go_upto_block 4 with fail
    go_cut [] from 10 to 133 (fun wx => ∃ v : Value, BxS wx gS (.slice a2 L c2) v ∧ Rq wp.heap.size wx v (rowsAt xs (P + 2) L R) ∧ BxS wx w.heap.size (.slice none 0 0) (.slice none 0 0) ∧ Below w.heap.size w wx ∧ wp.heap.size ≤ wx.heap.size ∧ (∀ b, b < wp.heap.size → b ≠ gS → wx.heap[b]? = wp.heap[b]?))
    case first =>
      go_wp2_with fail
      go_loopw [10, 22] (fun at_ i wr => ∃ (k : Nat) (v : Value), k ≤ R ∧ at_ = .int .i64 ((P + 2 + 2 * L * k : Nat) : Int) ∧ i = .int .i64 (k : Int) ∧ BxS wr gS (.slice a2 L c2) v ∧ Rq wp.heap.size wr v (rowsAt xs (P + 2) L k) ∧ BxS wr w.heap.size (.slice none 0 0) (.slice none 0 0) ∧ Below w.heap.size w wr ∧ wp.heap.size ≤ wr.heap.size ∧ (∀ b, b < wp.heap.size → b ≠ gS → wr.heap[b]? = wp.heap[b]?)) (fun _ i _ => R - (intOf i).toNat)
      case atStart => exact ⟨0, _, Nat.zero_le _, by first | rfl | (go_num) | (congr 1), rfl, X1, Rq.nil _ _, R0, hbW, Nat.le_refl _, fun _ _ _ => rfl⟩
      case round =>
        clear X1 R0 hbW
        have hsz0 := hsz
        clear hsz
        obtain ⟨k, v, hk, rfl, rfl, X1, hTq, R0, hbW, hsz, hoth⟩ := hrel
        obtain ⟨a6, c6, rfl, hts⟩ := hTq.slice
        rw [rowsAt_len] at X1 hTq
        by_cases hkn : k < R
        · clear hts
          have hcc : nr ≤ 400 ∧ k < nr := by rcases HOK2.out with h1 | h1 <;> omega
          obtain ⟨b1, b2⟩ := hcc
          have g1 : decide ((k : Int) < (nr : Int)) = true := decide_eq_true (by omega)
          have g2 : decide ((nr : Int) ≤ 400) = true := decide_eq_true (by omega)
          have j1 : (k : Int) < (nr : Int) := by omega
          have j2 : (nr : Int) ≤ 400 := by omega
          obtain ⟨Q, hQ⟩ : ∃ Q, P + 2 + 2 * L * k = Q := ⟨_, rfl⟩
          have hQb : Q ≤ 33000 := by
            rw [← hQ]
            have : 2 * L * k ≤ 80 * 400 := Nat.mul_le_mul (by omega) (by omega)
            omega
          have HV : Hid (rowsAt xs (P + 2) L (k + 1) = rowsAt xs (P + 2) L k ++ [numAt xs Q L]) := by show _ = _; rw [rowsAt_succ, hQ]
          have HP1 : Hid (P + 2 + 2 * L * (k + 1) = Q + 2 * L) := by show _ = _; rw [← hQ, Nat.mul_add]; omega
          rw [hQ]
          clear hQ
          have HT0 : Hid (Rq wp.heap.size wr (.slice a6 k c6) (rowsAt xs (P + 2) L k)) := hTq
          have HX1 : Hid (BxS wr gS (.slice a2 L c2) (.slice a6 k c6)) := X1
          have HR0 : Hid (BxS wr w.heap.size (.slice none 0 0) (.slice none 0 0)) := R0
          have HBo : Hid (Below w.heap.size w wr) := hbW
          have HOT : Hid (∀ b, b < wp.heap.size → b ≠ gS → wr.heap[b]? = wp.heap[b]?) := hoth
          obtain ⟨wo, rfl⟩ : ∃ wo, wo = wr := ⟨_, rfl⟩
          have hll : (rowsAt xs (P + 2) L k).length + 1 ≤ 1000000 := by rw [rowsAt_len]; omega
          have hv0 : gS < wp.heap.size := by omega
          clear X1 R0 hbW hTq hoth
          go_wp2
          go_loopw [10, 23, 24] (fun at_ v i wr => ∃ j : Nat, j ≤ L ∧ at_ = .int .i64 ((Q : Int) + 2 * (j : Int)) ∧ i = .int .i64 (j : Int) ∧ Io wo.heap.size wr v (numAt xs Q j) ∧ Below wo.heap.size wo wr) (fun _ _ i _ => L - (intOf i).toNat)
          case atStart => exact ⟨0, Nat.zero_le _, by go_num, rfl, Io.nil _ _, Below.refl _ _⟩
          case round =>
            clear g1 g2
            obtain ⟨j, hj, rfl, rfl, hTo, hB⟩ := hrel
            obtain ⟨a4, c4, rfl, hts, hlo⟩ := hTo.sliceLo
            rw [numAt_len] at hTo ⊢
            have HTI : Hid (Io wo.heap.size wr (.slice a4 j c4) (numAt xs Q j)) := hTo
            have HTS : Hid (Ri wr a4 c4 (numAt xs Q j) ∧ ∀ b o, a4 = some ⟨b, o, none⟩ → wo.heap.size ≤ b) := ⟨hts, hlo⟩
            clear hTo hts hlo
            have hbW : Below w.heap.size w wr := HBo.out.trans (hB.mono HBo.out.size)
            have X1 := HX1.out.below hB
            obtain ⟨p0, p1, _⟩ := X1.cells
            by_cases hjn : j < L
            · have HTV : Hid (numAt xs Q (j + 1) = numAt xs Q j ++ [sx16 (nmV xs ((Q : Int) + 2 * (j : Int)) 2)]) := by
                show _ = _
                rw [numAt_succ, show ((Q + 2 * j : Nat) : Int) = (Q : Int) + 2 * (j : Int) by omega]
              have hZ1 := sx16_i64S HBY.out ((Q : Int) + 2 * (j : Int))
              have hr := HH.out.below hbW
              have hll2 : (numAt xs Q j).length + 1 ≤ 1000000 := by rw [numAt_len]; omega
              go_wp2_with fail
              refine (si16_any a cap xs ((Q : Int) + 2 * (j : Int)) _ hr ⟨by omega, by omega⟩).mono ?_
              rintro e v1 ⟨rfl, rfl⟩
              generalize sx16 (nmV xs ((Q : Int) + 2 * (j : Int)) 2) = z1 at *
              generalize inB xs.length ((Q : Int) + 2 * (j : Int)) 2 = i1
              clear hr
              have HZ : Hid (I64 z1) := hZ1
              have hT5 := HTI.out.below (bl1 (.cells #[.int .i64 z1] 3))
              have hN := heap_alloc_new wr (.cells #[.int .i64 z1] 3)
              have n0 := cell_of_row _ wr.heap.size 0 _ _ (0, 0) hN
              have hbs : wo.heap.size ≤ (wr.alloc (.cells #[.int .i64 z1] 3)).heap.size := by have := hB.size; simp; omega
              clear hZ1 hN
              go_wp2_with (at_builtin; refine wpList_append_int rfl _ _ rfl wo.heap.size _ (numAt xs Q j) rfl hT5 wr.heap.size z1 rfl n0 HZ.out hll2 hbs ?_)
              intro v' w9 hT9 hgrow
              have hB9 : Below wo.heap.size wo w9 := (hB.alloc hB.size _).grown hgrow hbs (fun k hk => HTI.out.lo hk)
              rw [← HTV.out] at hT9
              clear hgrow hT5 n0 hbs hB hbW X1 p0 p1
              go_wp2
              go_roundw
              case rel => exact ⟨j + 1, by omega, by go_num, by go_num, hT9, hB9⟩
              case measure => simp [intOf]; omega
            · obtain rfl : j = L := by omega
              have g4 : ¬ (j : Int) < (j : Int) := by omega
              have R0 := HR0.out.below hB
              have hTq := HT0.out.below hB
              have hls := hB.size
              have HLL : Hid ((numAt xs Q j).length = j) := numAt_len _ _ _
              have hT5 := hTq.below (bl1 (.cells #[.slice a4 j c4] 54))
              have hp5 := HTS.out.1.below (bl1 (.cells #[.slice a4 j c4] 54))
              have hN := heap_alloc_new wr (.cells #[.slice a4 j c4] 54)
              have n0 := cell_of_row _ wr.heap.size 0 _ _ (0, 0) hN
              have n0' : (wr.alloc (.cells #[.slice a4 j c4] 54)).cell? ⟨wr.heap.size, 0, none⟩ = some (.slice a4 (numAt xs Q j).length c4) := by rw [HLL.out]; exact n0
              have hne : ∀ b o, a4 = some ⟨b, o, none⟩ → numAt xs Q j ≠ [] → (Value.slice a6 k c6).ownBlock ≠ some b ∧ wp.heap.size ≤ b := fun b o e _ => by
                have h1 := HTS.out.2 b o e
                refine ⟨fun e2 => ?_, by omega⟩
                have h2 := (HT0.out.lo e2).2
                omega
              have hbs : wp.heap.size ≤ (wr.alloc (.cells #[.slice a4 j c4] 54)).heap.size := by simp; omega
              have X5 := X1.below (bl1 (.cells #[.slice a4 j c4] 54))
              have R5 := R0.below (bl1 (.cells #[.slice a4 j c4] 54))
              have hB5 := hbW.alloc hbW.size (.cells #[.slice a4 j c4] 54)
              have hO5 : ∀ b, b < wp.heap.size → b ≠ gS → (wr.alloc (.cells #[.slice a4 j c4] 54)).heap[b]? = wp.heap[b]? := fun b hb hb2 => ((bl1 _).block b (by omega)).trans ((hB.block b (by omega)).trans (HOT.out b hb hb2))
              clear hN n0
              go_wp2_with (at_builtin; refine wpList_append_rw rfl _ _ rfl wp.heap.size _ (rowsAt xs (P + 2) j k) rfl hT5 wr.heap.size a4 c4 (numAt xs Q j) rfl n0' hp5 hne hll hbs ?_)
              intro v' w9 hT9 hgrow
              obtain ⟨a9, c9, hv9, _⟩ := hT9.slice
              obtain ⟨n9, hn9⟩ : ∃ n, (rowsAt xs (P + 2) j k ++ [numAt xs Q j]).length = n := ⟨_, rfl⟩
              rw [hn9] at hv9
              subst hv9
              clear hn9
              have hnx : some gS ≠ Value.ownBlock (.slice a6 k c6) := fun e => by have := (HT0.out.lo e.symm).1; omega
              have hnr : some w.heap.size ≠ Value.ownBlock (.slice a6 k c6) := fun e => by have := (HT0.out.lo e.symm).1; omega
              replace X5 := X5.grown hgrow hnx
              replace R5 := R5.grown hgrow hnr
              have hB9 : Below w.heap.size w w9 := hB5.grown hgrow (by have := hB5.size; omega) (fun k hk => by have := (HT0.out.lo hk).1; omega)
              have hO9 : ∀ b, b < wp.heap.size → b ≠ gS → w9.heap[b]? = wp.heap[b]? := fun b hb hb2 => (hgrow.block b (by simp; omega) (fun e => by have := (HT0.out.lo e.symm).1; omega)).trans (hO5 b hb hb2)
              have hgz : wr.heap.size + 1 ≤ w9.heap.size := by have := hgrow.size; simpa using this
              clear hgrow hT5 hp5 n0' hne hbs hnx hnr X1 R0 p0 p1 hB5 hO5
              obtain ⟨f0, f1, f2, f3⟩ := X5.cells
              go_wp2
              obtain ⟨U9, hU, X2, hbU, ho, hz9⟩ := setS1_world X5 (.slice a9 n9 c9)
              rw [← hU]
              replace hB9 := hbU _ _ hB9 (by omega)
              replace R5 := R5.otherB (G := gS) (by omega) ho
              replace hT9 := hT9.other (G := gS) (by omega) (Nat.le_of_eq hz9.symm) (fun b _ hb => ho b hb)
              replace hO9 : ∀ b, b < wp.heap.size → b ≠ gS → U9.heap[b]? = wp.heap[b]? := fun b hb hb2 => (ho b hb2).trans (hO9 b hb hb2)
              rw [← HV.out] at hT9
              clear hU f0 f1 f2 f3 hbU ho
              go_roundw
              case rel => exact ⟨k + 1, _, by omega, by rw [HP1.out]; congr 1 <;> omega, by go_num, X2, hT9, R5, hB9, by omega, hO9⟩
              case measure => simp [intOf]; omega
        · obtain rfl : k = R := by omega
          clear hts
          rcases HOK2.out with ⟨h1, h2⟩ | ⟨h1, h2⟩
          · have g1 : decide ((k : Int) < (nr : Int)) = false := decide_eq_false (by omega)
            have j1 : ¬ (k : Int) < (nr : Int) := by omega
            go_wp2_with fail
            go_meet
            exact ⟨_, X1, hTq, R0, hbW, hsz, hoth⟩
          · have g1 : decide ((k : Int) < (nr : Int)) = true := decide_eq_true (by omega)
            have j1 : (k : Int) < (nr : Int) := by omega
            have g2 : decide ((nr : Int) ≤ 400) = false := decide_eq_false (by omega)
            have j2 : ¬ (nr : Int) ≤ 400 := by omega
            go_wp2_with fail
            go_meet
            exact ⟨_, X1, hTq, R0, hbW, hsz, hoth⟩
    case rest =>
      clear X1 R0 hbW
      obtain ⟨v2, X1, hRq, R0, hbW, hsz2, hoth⟩ := hcut
      rw [HRW.out] at hRq
      obtain ⟨a4, c4, rfl, hts⟩ := hRq.slice
      rw [HR.out] at X1 hRq
      have HRQ : Hid (Rq wp.heap.size wc (.slice a4 R c4) (rdRw xs)) := hRq
      have hg := HTQ.out.other (G := gS) (w' := wc) (by omega) hsz2 (fun b hb hb2 => hoth b hb hb2)
      have HTQ2 : Hid (Tq V.heap.size wc (.slice a2 L c2) (rdRg xs)) := hg
      obtain ⟨_, _, e9, hts1⟩ := hg.slice
      rw [HL.out] at e9
      cases e9
      have hwr := swriteS_any a2 c2 a4 c4 (rdS xs) (ax : Int) wc hts1 hts ⟨by omega, by omega⟩
      rw [show (rdS xs).rg.length = L from HL.out, show (rdS xs).rw.length = R from HR.out] at hwr
      have HWR : Hid (wrSE (rdS xs) (ax : Int) = (if stB (rdS xs) (ax : Int) then 0 else 1) ∧ wrSB (rdS xs) (ax : Int) = (if stB (rdS xs) (ax : Int) then stE (rdS xs) (ax : Int) else [])) := ⟨rfl, rfl⟩
      have hv0 : gS < wp.heap.size := by omega
      rw [HAX.out] at HRB HGOOD
      clear hg hRq hts hts1 hoth
      obtain ⟨p0, p1, _⟩ := X1.cells
      cases hst : stB (rdS xs) (ax : Int) with
      | false =>
        have HE : Hid (rdSE xs = 2 ∧ rdSN xs = 0 ∧ (rdSL xs).rg = [] ∧ (rdSL xs).rw = []) := HBAD.out (by rw [HRB.out, hst]; rfl)
        rw [HWR.out.1, HWR.out.2, hst] at hwr
        simp only [Bool.false_eq_true, if_false, List.length_nil] at hwr
        clear hst
        go_wp2_with fail
        refine hwr.mono ?_
        rintro e t9 ⟨a9, c9, rfl, _, hb9⟩
        replace R0 := R0.below hb9
        replace hbW := hbW.trans (hb9.mono hbW.size)
        clear hb9 hwr X1 p0 p1
        obtain ⟨q0, q1, q2, q3⟩ := R0.cells
        have hs := R0.lt
        go_wp2
        obtain ⟨U, hU, R1, hbU, ho, hz⟩ := setS2_world R0 (.slice none 0 0) (.slice none 0 0)
        rw [← hU]
        replace hbW := hbU _ _ hbW (Nat.le_refl _)
        refine bodyPost_ret (v := .tuple #[.agg #[.slice none 0 0, .slice none 0 0], .int .i64 0, .int .i64 2]) (by obtain ⟨r1, r2, _⟩ := BxS.cells R1; simp [results, Try.results13, go_sem, r1, r2]) rfl ⟨none, 0, none, 0, by rw [HE.out.1, HE.out.2.1, HE.out.2.2.1, HE.out.2.2.2]; rfl, by rw [HE.out.2.2.1]; exact Tzz.nil _ _ _ (Nat.zero_le _), by rw [HE.out.2.2.2]; exact Rii.nil _ _ _ (Nat.zero_le _), hbW⟩
      | true =>
        rw [HWR.out.1, HWR.out.2, hst] at hwr
        simp only [if_true] at hwr
        obtain ⟨fb, hfb⟩ : ∃ fb, stE (rdS xs) (ax : Int) = fb := ⟨_, rfl⟩
        rw [hfb] at hwr HRB
        cases hd : decide (xs = fb) with
        | false =>
          have HE : Hid (rdSE xs = 2 ∧ rdSN xs = 0 ∧ (rdSL xs).rg = [] ∧ (rdSL xs).rw = []) := HBAD.out (by rw [HRB.out, hst, decide_eq_false (fun e => of_decide_eq_false hd e.symm)]; rfl)
          clear hst hfb
          go_wp2_with fail
          refine hwr.mono ?_
          rintro e t9 ⟨a9, c9, rfl, hr9, hb9⟩
          replace R0 := R0.below hb9
          replace hbW := hbW.trans (hb9.mono hbW.size)
          have hsm := same8g_any a a9 cap c9 xs fb t9 (HH.out.below hbW) hr9
          rw [hd] at hsm
          clear hb9 hwr X1 p0 p1 hr9 hd
          go_wp2_with fail
          refine hsm.mono ?_
          rintro e t8 ⟨rfl, hb8⟩
          replace R0 := R0.below hb8
          replace hbW := hbW.trans (hb8.mono hbW.size)
          clear hsm hb8
          obtain ⟨q0, q1, q2, q3⟩ := R0.cells
          have hs := R0.lt
          go_wp2
          obtain ⟨U, hU, R1, hbU, ho, hz⟩ := setS2_world R0 (.slice none 0 0) (.slice none 0 0)
          rw [← hU]
          replace hbW := hbU _ _ hbW (Nat.le_refl _)
          refine bodyPost_ret (v := .tuple #[.agg #[.slice none 0 0, .slice none 0 0], .int .i64 0, .int .i64 2]) (by obtain ⟨r1, r2, _⟩ := BxS.cells R1; simp [results, Try.results13, go_sem, r1, r2]) rfl ⟨none, 0, none, 0, by rw [HE.out.1, HE.out.2.1, HE.out.2.2.1, HE.out.2.2.2]; rfl, by rw [HE.out.2.2.1]; exact Tzz.nil _ _ _ (Nat.zero_le _), by rw [HE.out.2.2.2]; exact Rii.nil _ _ _ (Nat.zero_le _), hbW⟩
        | true =>
          have HE : Hid (rdSE xs = 0 ∧ rdSN xs = (ax : Int) ∧ rdSL xs = rdS xs) := HGOOD.out (by rw [HRB.out, hst, decide_eq_true (of_decide_eq_true hd).symm]; rfl)
          clear hst hfb
          go_wp2_with fail
          refine hwr.mono ?_
          rintro e t9 ⟨a9, c9, rfl, hr9, hb9⟩
          replace R0 := R0.below hb9
          replace X1 := X1.below hb9
          have hg := HTQ2.out.below hb9
          have hm := HRQ.out.below hb9
          replace hbW := hbW.trans (hb9.mono hbW.size)
          have hsm := same8g_any a a9 cap c9 xs fb t9 (HH.out.below hbW) hr9
          rw [hd] at hsm
          clear hb9 hwr p0 p1 hr9 hd
          go_wp2_with fail
          refine hsm.mono ?_
          rintro e t8 ⟨rfl, hb8⟩
          replace R0 := R0.below hb8
          replace X1 := X1.below hb8
          replace hg := hg.below hb8
          replace hm := hm.below hb8
          replace hbW := hbW.trans (hb8.mono hbW.size)
          clear hsm hb8
          obtain ⟨p0, p1, _⟩ := X1.cells
          obtain ⟨q0, q1, q2, q3⟩ := R0.cells
          have hs := R0.lt
          go_wp2
          obtain ⟨U, hU, R1, hbU, ho, hz⟩ := setS2_world R0 (.slice a2 L c2) (.slice a4 R c4)
          rw [← hU]
          replace hbW := hbU _ _ hbW (Nat.le_refl _)
          replace hg := hg.other (G := w.heap.size) (w' := U) (by omega) (Nat.le_of_eq hz.symm) (fun b _ hb => ho b hb)
          replace hm := hm.other (G := w.heap.size) (w' := U) (by omega) (Nat.le_of_eq hz.symm) (fun b _ hb => ho b hb)
          obtain ⟨_, _, e9, hts1⟩ := hg.slice
          rw [HL.out] at e9
          cases e9
          obtain ⟨_, _, e8, hts2⟩ := hm.slice
          rw [HR.out] at e8
          cases e8
          refine bodyPost_ret (v := .tuple #[.agg #[.slice a2 L c2, .slice a4 R c4], .int .i64 (ax : Int), .int .i64 0]) (by obtain ⟨r1, r2, _⟩ := R1.cells; simp [results, Try.results13, go_sem, r1, r2]) rfl ⟨a2, c2, a4, c4, by rw [HE.out.1, HE.out.2.1, HE.out.2.2, show (rdS xs).rg.length = L from HL.out, show (rdS xs).rw.length = R from HR.out], by rw [HE.out.2.2]; exact hts1, by rw [HE.out.2.2]; exact hts2, hbW⟩

end Go.Proofs.Ytjefaccpmoignaa

namespace Go.Proofs.Ytjefaccpmoignaa
open Go.RowKit
set_option linter.unusedSimpArgs false
set_option linter.unusedVariables false

/-- A slice of integers that came in: it is nil; or it leads to a row of 'cap' cells, the numbers 'zs' (the first 'len' are its elements), each fitting its kind. -/
def IsRowK (k : IntKind) (w : World) (a : Option Addr) (len cap : Nat) (zs : List Int) : Prop :=
  (a = none ∧ len = 0 ∧ cap = 0 ∧ zs = []) ∨
  ∃ x, a = some x ∧ len ≤ cap ∧ cap ≤ maxLen ∧ zs.length = cap ∧ (∀ i, i < zs.length → w.cell? (x.add i) = some (.int k (zs.getD i 0))) ∧ ∀ n ∈ zs, (Lit.int k n).wf = true

theorem wfo_u8_bounds {n : Int} (h : (Lit.int .u8 n).wf = true) : 0 ≤ n ∧ n < 256 := by
  simp [Lit.wf, IntKind.min, IntKind.max, IntKind.bits, IntKind.signed] at h
  omega
theorem wfo_i32_bounds {n : Int} (h : (Lit.int .i32 n).wf = true) : -2147483648 ≤ n ∧ n ≤ 2147483647 := by
  simp [Lit.wf, IntKind.min, IntKind.max, IntKind.bits, IntKind.signed] at h
  omega
theorem wfo_i64_bounds {n : Int} (h : (Lit.int .i64 n).wf = true) : -9223372036854775808 ≤ n ∧ n ≤ 9223372036854775807 := by
  simp [Lit.wf, IntKind.min, IntKind.max, IntKind.bits, IntKind.signed] at h
  omega

theorem IsRowK.cells {k : IntKind} {w : World} {a : Option Addr} {len cap : Nat} {zs : List Int} (h : IsRowK k w a len cap zs) :
    ∃ ys : List Int, len = ys.length ∧ (∀ y ∈ ys, (Lit.int k y).wf = true) ∧ ys.length ≤ cap ∧ cap ≤ maxLen ∧ (a = none → cap = 0) ∧
      (ys = [] ∨ ∃ b off, a = some ⟨b, off, none⟩ ∧ b < w.heap.size ∧ ∀ i, i < ys.length → w.cell? ⟨b, off + i, none⟩ = some (.int k (ys.getD i 0))) := by
  rcases h with ⟨rfl, rfl, rfl, rfl⟩ | ⟨x, rfl, h1, h2, h3, hc, hw⟩
  · exact ⟨[], rfl, (fun y hy => by cases hy), Nat.le_refl _, Nat.zero_le _, fun _ => rfl, .inl rfl⟩
  · refine ⟨zs.take len, by simp; omega, fun y hy => hw y (List.mem_of_mem_take hy), by simp; omega, h2, (by simp), ?_⟩
    by_cases h0 : len = 0
    · exact .inl (by simp [h0])
    · obtain ⟨b, off, spot⟩ := x
      have c0 := hc 0 (by omega)
      have hspot : spot = none := by simpa [Addr.add] using World.cell?_spot c0
      subst hspot
      refine .inr ⟨b, off, rfl, ?_, fun i hi => ?_⟩
      · have := World.block_lt_of_cell? w _ c0
        simpa [Addr.add] using this
      · simp at hi
        have hadd : (⟨b, off, none⟩ : Addr).add i = ⟨b, off + i, none⟩ := by unfold Addr.add; split <;> simp_all
        have hci := hc i (by omega)
        rw [hadd] at hci
        rw [hci]
        simp [List.getD, show i < len by omega]

theorem IsRowK.rb {w : World} {a : Option Addr} {len cap : Nat} {zs : List Int} (h : IsRowK .u8 w a len cap zs) : ∃ xs : List Nat, len = xs.length ∧ Rb w a cap xs := by
  obtain ⟨ys, h1, h2, h3, h4, h5, h6⟩ := h.cells
  have hb : ∀ y ∈ ys, 0 ≤ y ∧ y < 256 := fun y hy => wfo_u8_bounds (h2 y hy)
  refine ⟨ys.map Int.toNat, by simp [h1], ?_, by simpa using h3, h4, h5, ?_⟩
  · intro x hx
    obtain ⟨y, hy, rfl⟩ := List.mem_map.1 hx
    have := hb y hy
    omega
  · rcases h6 with rfl | ⟨b, off, e, hlt, hc⟩
    · exact .inl rfl
    · refine .inr ⟨b, off, e, hlt, fun i hi => ?_⟩
      simp at hi
      rw [hc i hi]
      have h0 : ys.getD i 0 = ys[i] := by simp [List.getD, hi]
      have hy := hb ys[i] (List.getElem_mem hi)
      rw [h0]
      simp [List.getD, hi]
      omega

end Go.Proofs.Ytjefaccpmoignaa

namespace Go.Proofs.Ytjefaccpmoignaa
open Go.RowKit
open Go.ChangeShapes Go.WideShapes Go.Joins Go.Deep
set_option linter.unusedSimpArgs false
set_option linter.unusedVariables false

theorem IsRowK.ri {w : World} {a : Option Addr} {len cap : Nat} {zs : List Int} (h : IsRowK .i64 w a len cap zs) : ∃ xs : List Int, len = xs.length ∧ Ri w a cap xs := by
  obtain ⟨ys, h1, h2, h3, h4, h5, h6⟩ := h.cells
  exact ⟨ys, h1, fun y hy => wfo_i64_bounds (h2 y hy), h3, h4, h6⟩

end Go.Proofs.Ytjefaccpmoignaa

namespace Go.Proofs.Ytjefaccpmoignaa
open Go.RowKit
open Go.ChangeShapes Go.WideShapes Go.Joins Go.Deep
set_option linter.unusedSimpArgs false
set_option linter.unusedVariables false

theorem list_of_ltT {α : Type} {d : α} {p : Nat → α → Prop} : ∀ n, (∀ i, i < n → ∃ o, p i o) → ∃ os : List α, os.length = n ∧ ∀ i, i < n → p i (os.getD i d) := by
  intro n
  induction n with
  | zero => exact fun _ => ⟨[], rfl, fun i hi => by omega⟩
  | succ n ih =>
    intro h
    obtain ⟨os, hl, ho⟩ := ih (fun i hi => h i (by omega))
    obtain ⟨o, h1⟩ := h n (by omega)
    refine ⟨os ++ [o], by simp [hl], fun i hi => ?_⟩
    by_cases hi' : i < n
    · have e : (os ++ [o]).getD i d = os.getD i d := by simp [List.getD, List.getElem?_append_left (show i < os.length by omega)]
      rw [e]
      exact ho i hi'
    · have e : i = n := by omega
      subst e
      have e : (os ++ [o]).getD i d = o := by simp [List.getD, ← hl]
      rw [e]
      exact h1
theorem add0T (y : Addr) : y.add 0 = y := by
  obtain ⟨b, off, spot⟩ := y
  cases spot <;> simp [Addr.add]

theorem cellsTe : Try.prog.cellsOf 73 = 3 := by kernel_rfl
theorem cellsTi : Try.prog.cellsOf 3 = 1 := by kernel_rfl

set_option maxRecDepth 100000 in
/-- A tent by value. -/
theorem open_tent {H : Type} {enc : TypeId × Value → H} {W : World} {sp : Nat → Bool} {held : Bool} {r : Reach} {b0 : Nat} {v : Value} {d : DataW H} {p : List MemPlace}
    (hv : Value.okWide Try.prog W r b0 73 v) (h : DataW.Trod enc Try.prog W 0 sp held 73 v d p) :
    ∃ t : Te, v = .agg (teC t) ∧ Tw t := by
  obtain ⟨v0, v1, v2, y0, y1, y2, n, rfl, _, _, t0, t1, t2⟩ := open_agg3 Try.underlying73 (by kernel_rfl) cellsTe hv h
  obtain ⟨z0, e0, _, w0⟩ := DataW.trod_int Try.underlying3 t0
  obtain ⟨z1, e1, _, w1⟩ := DataW.trod_int Try.underlying3 t1
  obtain ⟨z2, e2, _, w2⟩ := DataW.trod_int Try.underlying3 t2
  simp at e0 e1 e2
  subst e0 e1 e2
  exact ⟨⟨z0, z1, z2⟩, rfl, wfo_i64_bounds w0, wfo_i64_bounds w1, wfo_i64_bounds w2⟩

set_option maxRecDepth 100000 in
/-- A list of tents. -/
theorem open_tents {H : Type} {enc : TypeId × Value → H} {W : World} {sp : Nat → Bool} {held : Bool} {d : DataW H} {p : List MemPlace} {a : Option Addr} {len cap : Nat} (h : DataW.Trod enc Try.prog W 0 sp held 42 (.slice a len cap) d p) :
    ∃ l : List Te, len = l.length ∧ Tz W a cap l := by
  obtain ⟨fuel, hf⟩ := h
  rcases open_slice Try.underlying42 hf with ⟨hcs, _⟩ | ⟨x, l, c, m, n, D, Pl, hcs, _, hl, hm, hmm, _, hel⟩
  · simp [Value.cells] at hcs
    obtain ⟨rfl, rfl, rfl⟩ := hcs
    exact ⟨[], rfl, Tz.nil _ _ _ (Nat.zero_le _) (fun _ => rfl)⟩
  · simp [Value.cells] at hcs
    obtain ⟨rfl, rfl, rfl⟩ := hcs
    have hle : len ≤ m := by rw [hmm]; split <;> omega
    have hone : ∀ i, i < len → ∃ o : Te, Tw o ∧ W.cell? (x.add (i * 3)) = some (.int .i64 o.st) ∧ W.cell? ((x.add (i * 3)).add 1) = some (.int .i64 o.pk) ∧ W.cell? ((x.add (i * 3)).add 2) = some (.int .i64 o.en) := by
      intro i hi
      obtain ⟨cs', hc, ht⟩ := hel i (by omega)
      rw [cellsTe] at hc
      obtain ⟨y0, y1, y2, n', hx, hlen, t0, t1, t2⟩ := trod_struct3 Try.underlying73 ht
      rw [cellsTe] at hlen
      match cs', hlen with
      | [v0, v1, v2], _ =>
        dsimp only at t0 t1 t2
        rw [cellsTi] at t0 t1 t2
        obtain ⟨z0, e0, _, w0⟩ := DataW.trod_int Try.underlying3 t0
        obtain ⟨z1, e1, _, w1⟩ := DataW.trod_int Try.underlying3 t1
        obtain ⟨z2, e2, _, w2⟩ := DataW.trod_int Try.underlying3 t2
        simp at e0 e1 e2
        subst e0 e1 e2
        obtain ⟨_, _, hcell⟩ := World.cells?_some hc
        refine ⟨⟨z0, z1, z2⟩, ⟨wfo_i64_bounds w0, wfo_i64_bounds w1, wfo_i64_bounds w2⟩, ?_, hcell 1 (by omega), hcell 2 (by omega)⟩
        have := hcell 0 (by omega)
        rw [add0T] at this
        exact this
    obtain ⟨os, hol, ho⟩ := list_of_ltT (d := Te.none) len hone
    refine ⟨os, hol.symm, by omega, hm, fun o hm => ?_, (fun e => by cases e), fun i hi => ?_⟩
    · obtain ⟨i, hi, e⟩ := List.getElem_of_mem hm
      have := (ho i (by omega)).1
      rw [List.getD_eq_getElem?_getD, List.getElem?_eq_getElem hi] at this
      rw [← e]
      exact this
    · obtain ⟨_, c1, c2, c3⟩ := ho i (by omega)
      obtain ⟨b, off, spot⟩ := x
      have hspot : spot = none := by
        have := World.cell?_spot (ho 0 (by omega)).2.1
        simpa [Addr.add] using this
      subst hspot
      have hadd : ∀ i, (⟨b, off, none⟩ : Addr).add i = ⟨b, off + i, none⟩ := by intro i; unfold Addr.add; split <;> simp_all
      have hadd2 : ∀ i j, ((⟨b, off, none⟩ : Addr).add i).add j = ⟨b, off + i + j, none⟩ := by intro i j; rw [hadd]; unfold Addr.add; split <;> simp_all
      have hlt := World.block_lt_of_cell? W _ c1
      rw [hadd] at c1 hlt
      rw [hadd2] at c2 c3
      exact ⟨b, off, rfl, hlt, c1, c2, c3⟩

end Go.Proofs.Ytjefaccpmoignaa
