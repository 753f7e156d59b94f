/-
  foundryref16.Write: the walk.
  foundryref16.Read: the walk.
  foundryref04.Same of any two: the walk.
-/
import Derived.Test.YtfpeioccnpinkaaZ29
import Derived.Test.YtfpeioccnpinkaaZ28
import Derived.Test.YtfpeioccnpinkaaZ11
namespace Go.Proofs.Ytfpeioccnpinkaa
open Go.RowKit Go.Maps
set_option linter.unusedSimpArgs false
set_option linter.unusedVariables false

set_option maxHeartbeats 4000000 in
set_option maxRecDepth 100000 in
theorem swriteM_any (S : Nat → Prop) (a : Option Addr) (ca : Nat) (l : List Mt) (ga : Option Addr) (gc : Nat) (ma : Option Addr) (mc : Nat) (s : Sr) (w : World) (hl : Gr MtE S w a ca l) (k2 : s.rw.length ≤ 9223372036854775807) :
    Calls Try.prog 14 #[.slice a l.length ca, .agg #[.slice ga s.rg.length gc, .slice ma s.rw.length mc]] w fun e w' => ∃ a' c', e = .returned (.tuple #[.slice a' (wrMB l s).length c', .int .i64 (wrME l s)]) ∧ Rw 5 w.heap.size w' a' c' (wrMB l s) ∧ Below w.heap.size w w' := by
  have kl := hl.lenB
  obtain ⟨W, hW, X1, hbW⟩ : ∃ W, W = w.alloc (.cells #[.slice ga s.rg.length gc, .slice ma s.rw.length mc] 26) ∧ Bk 26 W w.heap.size [.slice ga s.rg.length gc, .slice ma s.rw.length mc] ∧ Below w.heap.size w W := ⟨_, rfl, Bk.new _ _ _, bl1 _⟩
  obtain ⟨p0, p1, _⟩ := X1.two
  have hf1 := sformM_any S a ca l ga gc ma mc s W (hl.below hbW) k2
  cases hfo : foM l s with
  | false =>
    rw [hfo] at hf1
    have HN : Hid (_) := wrM_no hfo
    clear hfo
    go_enter Try.func14, Try.ntmps14
    go_upto_region 1 with fail
    rw [← hW]
    clear hW
    go_wp2_with fail
    refine hf1.mono ?_
    rintro e u ⟨rfl, hb1⟩
    have hfin := hbW.trans (hb1.mono hbW.size)
    clear hf1 p0 p1
    go_wp2
    go_ret2
    exact ⟨none, 0, by rw [HN.out.1, HN.out.2]; rfl, by rw [HN.out.1]; exact Rw.nil _ _, hfin⟩
  | true =>
  rw [hfo] at hf1
  have HFO : Hid (foM l s = true) := hfo
  have hF1 := (foM_iff.1 hfo).1
  have HEL : Hid (_) := foM_el hfo
  have HTE : Hid (msB l = be2 ((l.length : Nat) : Int) ++ mtsB l) := rfl
  have HTK : Hid (∀ k, 2 + (mtsB (l.take k)).length ≤ 82) := mtk_len hfo
  clear hfo
  go_enter Try.func14, Try.ntmps14
  go_upto_region 1 with fail
  rw [← hW]
  clear hW
  go_wp2_with fail
  refine hf1.mono ?_
  rintro e u ⟨rfl, hb1⟩
  have HL : Hid (Gr MtE (fun k => k < u.heap.size) u a ca l) := ((hl.below hbW).below hb1).wide (fun k _ h => h)
  have HBW : Hid (Below w.heap.size w u) := hbW.trans (hb1.mono hbW.size)
  have hP0 := ps_newA u (· < u.heap.size) (fun _ h => h)
  have hB0 := bl1 (w := u) (.cells #[.slice none 0 0, .slice none 0 0, .bool false] 62)
  clear hl hf1 hb1 X1 hbW p0 p1
  go_wp2_with fail
  refine (sput16_any u.heap.size _ _ (l.length : Int) _ hP0 ⟨by omega, by omega⟩ (by decide)).mono ?_
  rintro e u1 ⟨rfl, hP1, hK1⟩
  rw [show St.zero = ⟨[], [], false⟩ from rfl, put16A (by omega) (by omega), List.nil_append] at hP1
  have hB1 : Below u.heap.size u u1 := hB0.trans (hK1.below (fun k hk => hk))
  obtain ⟨Q, hQ⟩ : ∃ Q, be2 ((l.length : Nat) : Int) = Q := ⟨_, rfl⟩
  have HQL : Hid (Q.length = 2) := by show _ = _; rw [← hQ]; rfl
  rw [hQ] at hP1 HTE
  have hI : Ps u1 u.heap.size (· < u.heap.size) ⟨Q ++ mtsB (l.take 0), [], false⟩ := by
    rw [List.take_zero, mtsB, List.append_nil]
    exact hP1
  obtain ⟨B, hBB⟩ : ∃ g, u.heap.size = g := ⟨_, rfl⟩
  have HBB : Hid (u.heap.size = B) := hBB
  rw [hBB] at hI hB1 HL ⊢
  clear hP0 hK1 hB0 hP1 hQ hBB
  go_wp2
  go_loopw [7] (fun i wr => ∃ k : Nat, k ≤ l.length ∧ i = .int .i64 k ∧ Ps wr B (· < B) ⟨Q ++ mtsB (l.take k), [], false⟩ ∧ Below B u wr) (fun i _ => l.length - (intOf i).toNat)
  case atStart => exact ⟨0, Nat.zero_le _, rfl, hI, hB1⟩
  case round =>
    clear hI hB1
    obtain ⟨k, hk, rfl, hP, hB⟩ := hrel
    have hBs : B ≤ wr.heap.size := by have := hB.size; rw [HBB.out] at this; exact this
    have hBw : Below w.heap.size w wr := HBW.out.trans (hB.mono (by have := HBW.out.size; rw [HBB.out] at this; exact this))
    by_cases hkn : k < l.length
    · obtain ⟨b, off, ea, hb, hM, d0, d1, d2⟩ := HL.out.mt (by rw [HBB.out]; exact hB) k hkn
      obtain ⟨hE1, hE2, hE3⟩ := HEL.out k hkn
      have HSJ : Hid (_) := mts_snoc hkn Q
      have hlk : (Q ++ mtsB (l.take k)).length ≤ 82 := by
        rw [List.length_append, HQL.out]
        exact HTK.out k
      have h4 := gd_len hE1
      obtain ⟨x, hx⟩ : ∃ x, l.getD k Mt.none = x := ⟨_, rfl⟩
      rw [hx] at hM d0 d1 d2 hE1 hE2 hE3 HSJ h4
      obtain ⟨b2, hb2⟩ : ∃ b2, Q ++ mtsB (l.take k) = b2 := ⟨_, rfl⟩
      rw [hb2] at hP HSJ hlk
      subst ea
      obtain ⟨m1, m2, m3⟩ := hM
      have i1 : (0 : Int) ≤ (k : Int) := by omega
      have i2 : (k : Int) < (l.length : Int) := by omega
      have hbB : b < B := by rw [← HBB.out]; exact hb
      clear hx hb2
      go_wp2_with fail
      refine (sputTag_any B _ _ x.tg _ hP m1 (by show b2.length + 4 ≤ _; omega)).mono ?_
      rintro e v1 ⟨rfl, hP2, hk2⟩
      rw [tagA hE1] at hP2
      replace d1 := (hk2.cell (p := ⟨b, off + k * 3 + 1, none⟩) hbB).trans d1
      replace d2 := (hk2.cell (p := ⟨b, off + k * 3 + 2, none⟩) hbB).trans d2
      replace hB := hB.trans (hk2.below (fun k hk => hk))
      clear d0 hk2 hP
      go_wp2_with fail
      refine (sput16_any B _ _ x.ab _ hP2 m2 (by show (b2 ++ sb x.tg).length + 4 ≤ _; rw [List.length_append]; omega)).mono ?_
      rintro e v2 ⟨rfl, hP3, hk3⟩
      rw [put16A (by omega) (by omega)] at hP3
      replace d2 := (hk3.cell (p := ⟨b, off + k * 3 + 2, none⟩) hbB).trans d2
      replace hB := hB.trans (hk3.below (fun k hk => hk))
      clear d1 hk3 hP2
      go_wp2_with fail
      refine (sput16_any B _ _ x.ar _ hP3 m3 (by show (b2 ++ sb x.tg ++ be2 x.ab).length + 4 ≤ _; rw [List.length_append, List.length_append, be2L]; omega)).mono ?_
      rintro e v3 ⟨rfl, hP4, hk4⟩
      rw [put16A (by omega) (by omega), ← HSJ.out] at hP4
      have hB4 := hB.trans (hk4.below (fun k hk => hk))
      clear d2 hk4 hP3 hB hBw HSJ
      go_wp2
      go_roundw
      case rel => exact ⟨k + 1, by omega, by go_num, hP4, hB4⟩
      case measure => simp [intOf]; omega
    · obtain rfl : k = l.length := by omega
      have g4 : ¬ (l.length : Int) < (l.length : Int) := by omega
      rw [List.take_length, ← HTE.out] at hP
      have hL : (msB l).length ≤ 1048576 := by rw [msB_len HFO.out]; omega
      have hall := sall_any B _ _ _ hP hL
      have ea : allB ⟨msB l, [], false⟩ = msB l := by simp [allB]
      have eb : allE ⟨msB l, [], false⟩ = 0 := rfl
      rw [ea, eb] at hall
      have HN : Hid (_) := wrM_yes HFO.out
      have hbz := hBw.size
      clear hP ea eb
      go_wp2_with fail
      refine hall.mono ?_
      rintro e u9 ⟨a9, c9, rfl, hr9, hb9⟩
      have hB9 := hBw.trans (hb9.mono hBw.size)
      clear hall
      go_wp2
      go_ret2
      exact ⟨a9, c9, by rw [HN.out.1, HN.out.2]; rfl, by rw [HN.out.1]; exact hr9.mono hbz, hB9⟩

end Go.Proofs.Ytfpeioccnpinkaa

namespace Go.Proofs.Ytfpeioccnpinkaa
open Go.RowKit Go.Maps
set_option linter.unusedSimpArgs false
set_option linter.unusedVariables false

set_option maxHeartbeats 2000000 in
set_option maxRecDepth 100000 in
theorem sreadM_any (ba : Option Addr) (bc : Nat) (xs : List Nat) (ga : Option Addr) (gc : Nat) (ma : Option Addr) (mc : Nat) (s : Sr) (w : World) (hx : Rb w ba bc xs) (k2 : s.rw.length ≤ 9223372036854775807) (hxl : xs.length ≤ 1048576) :
    Calls Try.prog 16 #[.slice ba xs.length bc, .agg #[.slice ga s.rg.length gc, .slice ma s.rw.length mc]] w fun e w' => ∃ a' c', e = .returned (.tuple #[.slice a' (rdML xs s).length c', .int .i64 (rdME xs s)]) ∧ Gr MtE (fun k => w.heap.size ≤ k) w' a' c' (rdML xs s) ∧ Below w.heap.size w w' := by
  have hpc := hx.le
  have hpm := hx.cap
  unfold maxLen at hpm
  obtain ⟨W, hW, X1, hbW⟩ : ∃ W, W = w.alloc (.cells #[.slice ga s.rg.length gc, .slice ma s.rw.length mc] 26) ∧ Bk 26 W w.heap.size [.slice ga s.rg.length gc, .slice ma s.rw.length mc] ∧ Below w.heap.size w W := ⟨_, rfl, Bk.new _ _ _, bl1 _⟩
  replace hx := hx.below hbW
  have hu := su16_any ba bc xs 0 W hx ⟨by decide, by decide⟩
  have hnl : nmV xs 0 2 < 65536 := nmV_lt hx.lim 0 2
  have HNO1 : Hid (rdM1 xs = false → rdML xs s = [] ∧ rdME xs s = 2) := rdM_no1
  have HNO2 : Hid (foM (rdMc xs) s = false → rdML xs s = [] ∧ rdME xs s = 2) := rdM_no2
  have HYES : Hid (rdM1 xs = true → foM (rdMc xs) s = true → rdML xs s = rdMc xs ∧ rdME xs s = 0) := fun h1 h2 => rdM_yes (by unfold rdMOk; rw [h1, h2]; rfl)
  have HRC : Hid (rdMc xs = mtsAt xs 2 (nmV xs 0 2)) := rfl
  have HR1 : Hid (rdM1 xs = (inB xs.length 0 2 && (decide (nmV xs 0 2 ≤ 10) && decide (xs.length = 2 + 8 * nmV xs 0 2)))) := rfl
  have HBY : Hid (Byt xs) := hx.lim
  obtain ⟨n, hn⟩ : ∃ n, nmV xs 0 2 = n := ⟨_, rfl⟩
  obtain ⟨qb, hq⟩ : ∃ q, inB xs.length 0 2 = q := ⟨_, rfl⟩
  rw [hn] at hu hnl HRC HR1
  rw [hq] at hu HR1
  clear hn hq
  obtain ⟨p0, p1, _⟩ := X1.two
  go_enter Try.func16, Try.ntmps16
  go_upto_region 1 with fail
  rw [← hW]
  clear hW
  go_wp2_with fail
  refine hu.mono ?_
  rintro e u0 ⟨rfl, rfl⟩
  clear hu
  by_cases hbad : rdM1 xs = false
  · have HNO : Hid (_) := HNO1.out hbad
    rw [HR1.out] at hbad
    clear HNO1 HNO2 HYES HRC HR1 hx X1 p0 p1
    cases qb with
    | false =>
      clear hbad
      go_wp2
      go_ret2
      exact ⟨none, 0, by rw [HNO.out.1, HNO.out.2]; rfl, by rw [HNO.out.1]; exact Gr.nil _ _ _ _ _ (Nat.zero_le _) (fun _ => rfl), hbW⟩
    | true =>
    rw [Bool.true_and] at hbad
    by_cases hn4 : n ≤ 10
    rotate_left
    · have g1 : decide ((10 : Int) < (n : Int)) = true := decide_eq_true (by omega)
      clear hbad
      go_wp2
      go_ret2
      exact ⟨none, 0, by rw [HNO.out.1, HNO.out.2]; rfl, by rw [HNO.out.1]; exact Gr.nil _ _ _ _ _ (Nat.zero_le _) (fun _ => rfl), hbW⟩
    rw [decide_eq_true hn4, Bool.true_and] at hbad
    have hne : xs.length ≠ 2 + 8 * n := of_decide_eq_false hbad
    have g1 : decide ((10 : Int) < (n : Int)) = false := decide_eq_false (by omega)
    have g2 : ((xs.length : Int) != 2 + 8 * (n : Int)) = true := bne_iff_ne.2 (by omega)
    have g3 : ((xs.length : Int) != (n : Int) * 8 + 2) = true := bne_iff_ne.2 (by omega)
    clear hbad hne
    go_wp2
    go_ret2
    exact ⟨none, 0, by rw [HNO.out.1, HNO.out.2]; rfl, by rw [HNO.out.1]; exact Gr.nil _ _ _ _ _ (Nat.zero_le _) (fun _ => rfl), hbW⟩
  have hgood : rdM1 xs = true := by cases h : rdM1 xs with | true => rfl | false => exact absurd h hbad
  have HYE2 : Hid (foM (rdMc xs) s = true → rdML xs s = rdMc xs ∧ rdME xs s = 0) := HYES.out hgood
  rw [HR1.out] at hgood
  simp only [Bool.and_eq_true, decide_eq_true_iff] at hgood
  obtain ⟨e1, hn4, hlen⟩ := hgood
  subst e1
  rw [HRC.out] at HNO2 HYE2
  clear HNO1 HYES HRC HR1 hbad
  have g1 : decide ((10 : Int) < (n : Int)) = false := decide_eq_false (by omega)
  have g2 : ((xs.length : Int) != 2 + 8 * (n : Int)) = false := by rw [show (xs.length : Int) = 2 + 8 * (n : Int) by omega]; simp
  have hI0 : Gw MtE 49 W.heap.size (fun _ => False) W (.slice none 0 0) [] := Gw.nil _ _ _ _ _
  have HX1 : Hid (Bk 26 W w.heap.size [.slice ga s.rg.length gc, .slice ma s.rw.length mc]) := X1
  have HX : Hid (Rb W ba bc xs) := hx
  have HBW : Hid (Below w.heap.size w W) := hbW
  obtain ⟨g, hgg⟩ : ∃ g, W.heap.size = g := ⟨_, rfl⟩
  have HG : Hid (W.heap.size = g) := hgg
  rw [hgg] at hI0
  have HLE : Hid (xs.length = 2 + 8 * n) := hlen
  clear X1 hx hbW p0 p1 hlen
  go_wp2
  clear hgg g1 g2
  go_loopw [8, 9] (fun v i wr => ∃ (k : Nat), k ≤ n ∧ i = .int .i64 (k : Int) ∧ Gw MtE 49 g (fun _ => False) wr v (mtsAt xs 2 k) ∧ g ≤ wr.heap.size ∧ Below W.heap.size W wr) (fun _ i _ => n - (intOf i).toNat)
  case atStart => exact ⟨0, Nat.zero_le _, rfl, hI0, by rw [← HG.out]; exact Nat.le_refl _, Below.refl _ _⟩
  case round =>
    clear hI0
    obtain ⟨k, hk, rfl, hGw, hgs, hB⟩ := hrel
    obtain ⟨a6, c6, e6, hgr6, hb6⟩ := hGw.slice
    subst e6
    rw [mtsAt_len] at hGw ⊢
    by_cases hkn : k < n
    · have g2 : (k : Int) < (n : Int) := by omega
      have e1 : ((2 + 8 * k : Nat) : Int) = 2 + 8 * (k : Int) := by omega
      have e2 : ((2 + 8 * k + 4 : Nat) : Int) = 6 + 8 * (k : Int) := by omega
      have e3 : ((2 + 8 * k + 6 : Nat) : Int) = 8 + 8 * (k : Int) := by omega
      have hT := fun U (hr : Rb U ba bc xs) => stag_any ba bc xs (2 + 8 * (k : Int)) U hr ⟨by omega, by omega⟩ (by omega)
      have hI1 := fun U (hr : Rb U ba bc xs) => si16_any ba bc xs (6 + 8 * (k : Int)) U hr ⟨by omega, by omega⟩
      have hI2 := fun U (hr : Rb U ba bc xs) => si16_any ba bc xs (8 + 8 * (k : Int)) U hr ⟨by omega, by omega⟩
      have HMW : Hid (MtW (mtAt xs (2 + 8 * k))) := mtAt_w HBY.out _
      have HSC : Hid (mtsAt xs 2 (k + 1) = mtsAt xs 2 k ++ [mtAt xs (2 + 8 * k)]) := mtsAt_succ _ _ _
      have HE : Hid (mtAt xs (2 + 8 * k) = ⟨tgV xs (2 + 8 * (k : Int)), sx16 (nmV xs (6 + 8 * (k : Int)) 2), sx16 (nmV xs (8 + 8 * (k : Int)) 2)⟩) := by show _ = _; unfold mtAt; rw [e1, e2, e3]
      rw [HE.out] at HMW HSC
      obtain ⟨m1, m2, m3⟩ := HMW.out
      dsimp only at m1 m2 m3
      have HOW : Hid (∀ q, (Value.slice a6 k c6).ownBlock = some q → g ≤ q ∧ q < wr.heap.size) := fun q e => hGw.lo e
      generalize tgV xs (2 + 8 * (k : Int)) = tg at *
      generalize sx16 (nmV xs (6 + 8 * (k : Int)) 2) = z1 at *
      generalize sx16 (nmV xs (8 + 8 * (k : Int)) 2) = z2 at *
      generalize tgB xs (2 + 8 * (k : Int)) = q1 at *
      generalize inB xs.length (6 + 8 * (k : Int)) 2 = q2 at *
      generalize inB xs.length (8 + 8 * (k : Int)) 2 = q3 at *
      obtain ⟨V, hV, X0, hb0⟩ : ∃ V, V = wr.alloc (.cells #[.string ⟨#[]⟩, .int .i64 0, .int .i64 0] 49) ∧ Bk 49 V wr.heap.size [.string ⟨#[]⟩, .int .i64 0, .int .i64 0] ∧ Below wr.heap.size wr V := ⟨_, rfl, Bk.new _ _ _, bl1 _⟩
      obtain ⟨gt, hgt⟩ : ∃ g, wr.heap.size = g := ⟨_, rfl⟩
      have HGT : Hid (wr.heap.size = gt) := hgt
      have HR : Hid (Rb wr ba bc xs) := HX.out.below hB
      clear hgr6 hb6 e1 e2 e3 HE
      go_upto_region 9 with fail
      rw [← hV]
      rw [hgt] at X0
      try rw [hgt]
      clear hV hgt
      go_wp2_with fail
      refine (hT _ (HR.out.below hb0)).mono ?_
      rintro e y1 ⟨rfl, hy1⟩
      replace X0 := X0.below hy1
      replace hb0 := hb0.trans (hy1.mono hb0.size)
      clear hT hy1
      obtain ⟨c0, c1, c2, f0, f1, f2⟩ := X0.three
      have hy2 : Below wr.heap.size wr (y1.setCell ⟨gt, 0, none⟩ (.string tg)) := hb0.setCell (p := ⟨gt, 0, none⟩) (Nat.le_of_eq HGT.out) _
      have X2 := X0.set 0 (.string tg)
      obtain ⟨Y2, hY2⟩ : ∃ Y, y1.setCell ⟨gt, 0, none⟩ (.string tg) = Y := ⟨_, rfl⟩
      rw [hY2] at hy2 X2
      replace X2 : Bk 49 Y2 gt [.string tg, .int .i64 0, .int .i64 0] := X2
      clear hb0 X0
      go_upto_region 10 with fail
      try rw [hY2]
      clear hY2 c0 c1 c2 f0 f1 f2
      go_wp2_with fail
      refine (hI1 _ (HR.out.below hy2)).mono ?_
      rintro e y3 ⟨rfl, rfl⟩
      clear hI1
      obtain ⟨c0, c1, c2, f0, f1, f2⟩ := X2.three
      have hy3 : Below wr.heap.size wr (Y2.setCell ⟨gt, 1, none⟩ (.int .i64 z1)) := hy2.setCell (p := ⟨gt, 1, none⟩) (Nat.le_of_eq HGT.out) _
      have X3 := X2.set 1 (.int .i64 z1)
      obtain ⟨Y3, hY3⟩ : ∃ Y, Y2.setCell ⟨gt, 1, none⟩ (.int .i64 z1) = Y := ⟨_, rfl⟩
      rw [hY3] at hy3 X3
      replace X3 : Bk 49 Y3 gt [.string tg, .int .i64 z1, .int .i64 0] := X3
      clear hy2 X2
      go_upto_region 11 with fail
      try rw [hY3]
      clear hY3 c0 c1 c2 f0 f1 f2
      go_wp2_with fail
      refine (hI2 _ (HR.out.below hy3)).mono ?_
      rintro e y4 ⟨rfl, rfl⟩
      clear hI2
      obtain ⟨c0, c1, c2, f0, f1, f2⟩ := X3.three
      have hy4 : Below wr.heap.size wr (Y3.setCell ⟨gt, 2, none⟩ (.int .i64 z2)) := hy3.setCell (p := ⟨gt, 2, none⟩) (Nat.le_of_eq HGT.out) _
      have X4 := X3.set 2 (.int .i64 z2)
      obtain ⟨u2, hu2⟩ : ∃ Y, Y3.setCell ⟨gt, 2, none⟩ (.int .i64 z2) = Y := ⟨_, rfl⟩
      rw [hu2] at hy4 X4
      replace X4 : Bk 49 u2 gt [.string tg, .int .i64 z1, .int .i64 z2] := X4
      clear hy3 X3
      go_upto_region 12 with fail
      try rw [hu2]
      clear hu2 c0 c1 c2 f0 f1 f2
      obtain ⟨c0, c1, c2, -⟩ := X4.three
      replace hGw := hGw.below hy4
      replace hB := hB.trans (hy4.mono hB.size)
      have hs2 := hy4.size
      clear hy4 X4
      obtain ⟨V9, hV9, Y9, hb9⟩ : ∃ V, V = u2.alloc (.cells #[.string tg, .int .i64 z1, .int .i64 z2] 49) ∧ Bk 49 V u2.heap.size [.string tg, .int .i64 z1, .int .i64 z2] ∧ Below u2.heap.size u2 V := ⟨_, rfl, Bk.new _ _ _, bl1 _⟩
      have hGb := hGw.below hb9
      have hrep : MtE.rep (fun q => False ∧ (Value.slice a6 k c6).ownBlock ≠ some q) V9 [.string tg, .int .i64 z1, .int .i64 z2] ⟨tg, z1, z2⟩ := MtE_rep.2 ⟨rfl, HMW.out⟩
      have hone := Gr.one (E := MtE) hrep Y9.lt (fun j hj => Y9.cell j hj)
      have hBb : Below W.heap.size W V9 := hB.trans (hb9.mono hB.size)
      have hs9 := hb9.size
      have hbs : g ≤ V9.heap.size := by omega
      have hll : (mtsAt xs 2 k).length + 1 ≤ 1000000 := by rw [mtsAt_len]; omega
      clear hrep hGw hB
      go_wp2_with (at_builtin; rw [← hV9]; refine wpList_append_el 22 49 Try.underlying22 info_mt rfl (by decide) (by decide) rfl _ _ rfl g (fun _ => False) _ (mtsAt xs 2 k) rfl hGb (some ⟨u2.heap.size, 0, none⟩) 1 1 [⟨tg, z1, z2⟩] rfl rfl hone hll hbs ?_)
      intro v9 w9 hT9 hgrow _
      rw [← hV9] at hgrow
      rw [← HSC.out] at hT9
      have hB9 : Below W.heap.size W w9 := hBb.grown hgrow hBb.size (fun q hq => by have := (HOW.out q hq).1; have := HG.out; omega)
      have hs10 : g ≤ w9.heap.size := Nat.le_trans hbs hgrow.size
      clear hgrow hGb hone hbs hll hBb hV9 Y9 hb9 c0 c1 c2
      go_wp2
      go_roundw
      case rel => exact ⟨k + 1, by omega, by go_num, hT9, hs10, hB9⟩
      case measure => simp [intOf]; omega
    · have hkk : k = n := by omega
      subst hkk
      have g4 : ¬ (k : Int) < (k : Int) := by omega
      have HLW : Hid (w.heap.size ≤ g) := by
        have h2 := HBW.out.size
        have h3 := HG.out
        show _ ≤ _
        omega
      have hX1 := HX1.out.below hB
      obtain ⟨p0, p1, _⟩ := hX1.two
      have hBw := HBW.out.trans (hB.mono HBW.out.size)
      have hgf := sformM_any _ a6 c6 (mtsAt xs 2 k) ga gc ma mc s wr hgr6 k2
      rw [mtsAt_len] at hgf
      have HGR : Hid (Gr MtE (fun _ => False) wr a6 c6 (mtsAt xs 2 k)) := hgr6
      have HLN : Hid ((mtsAt xs 2 k).length = k) := mtsAt_len _ _ _
      generalize mtsAt xs 2 k = tl at *
      clear hGw hX1 hgr6 hb6 hkn
      cases hfo : foM tl s with
      | false =>
        rw [hfo] at hgf
        have HNO : Hid (_) := HNO2.out hfo
        clear hfo HNO2 HYE2
        go_wp2_with fail
        refine hgf.mono ?_
        rintro e u3 ⟨rfl, hb3⟩
        have HFIN : Hid (_) := hBw.trans (hb3.mono hBw.size)
        clear hgf hb3
        go_wp2
        go_ret2
        exact ⟨none, 0, by rw [HNO.out.1, HNO.out.2]; rfl, by rw [HNO.out.1]; exact Gr.nil _ _ _ _ _ (Nat.zero_le _) (fun _ => rfl), HFIN.out⟩
      | true =>
        rw [hfo] at hgf
        have HYS : Hid (_) := HYE2.out hfo
        clear hfo HNO2 HYE2
        go_wp2_with fail
        refine hgf.mono ?_
        rintro e u3 ⟨rfl, hb3⟩
        have HFIN : Hid (_) := hBw.trans (hb3.mono hBw.size)
        have HGF : Hid (Gr MtE (fun k => w.heap.size ≤ k) u3 a6 c6 tl) := (HGR.out.below hb3).wide (fun k h1 _ => h1.elim)
        clear hgf hb3
        go_wp2
        go_ret2
        exact ⟨a6, c6, by rw [HYS.out.1, HYS.out.2, HLN.out]; rfl, by rw [HYS.out.1]; exact HGF.out, HFIN.out⟩

end Go.Proofs.Ytfpeioccnpinkaa

namespace Go.Proofs.Ytfpeioccnpinkaa
open Go.RowKit Go.Maps
set_option linter.unusedSimpArgs false
set_option linter.unusedVariables false

theorem list_diff {xs ys : List Nat} (hl : xs.length = ys.length) (h : ∀ k, k < xs.length → xs.getD k 0 = ys.getD k 0) : xs = ys := by
  apply List.ext_getElem hl
  intro i h1 h2
  have := h i h1
  simpa [List.getD, h1, h2] using this

set_option maxHeartbeats 1000000 in
set_option maxRecDepth 100000 in
theorem same8g_any (a b : Option Addr) (ca cb : Nat) (xs ys : List Nat) (w : World) (ha : Rb w a ca xs) (hb : Rb w b cb ys) :
    Calls Try.prog 17 #[.slice a xs.length ca, .slice b ys.length cb] w fun e w' => e = .returned (.bool (decide (xs = ys))) ∧ Below w.heap.size w w' := by
  by_cases hl : xs.length = ys.length
  rotate_left
  · have hne : ((xs.length : Int) != (ys.length : Int)) = true := by simp; omega
    have hd : decide (xs = ys) = false := decide_eq_false (fun e => hl (by rw [e]))
    rw [hd]
    go_enter Try.func17, Try.ntmps17
    go_wp2
    go_ret
    exact ⟨rfl, Below.refl _ _⟩
  have k1 := ha.le
  have k2 := ha.cap
  unfold maxLen at k2
  have fa := ha.fm
  have fb := hb.fm
  clear ha hb
  have HL : Hid (xs.length = ys.length) := hl
  have hne : ((xs.length : Int) != (ys.length : Int)) = false := by simp; omega
  obtain ⟨ly, hly⟩ : ∃ ly, ys.length = ly := ⟨_, rfl⟩
  rw [hly] at hl hne ⊢
  have HLY : Hid (ys.length = ly) := hly
  subst hl
  clear hly
  have HD : Hid (∀ B : Bool, decide (xs = ys) = B → decide (xs = ys) = B) := fun _ h => h
  generalize hD : decide (xs = ys) = D at *
  have HDD : Hid (decide (xs = ys) = D) := hD
  clear hD HD
  go_enter Try.func17, Try.ntmps17
  go_wp2
  go_loopw [5] (fun i wr => ∃ k : Nat, k ≤ xs.length ∧ i = .int .i64 k ∧ (∀ j, j < k → xs.getD j 0 = ys.getD j 0) ∧ Below w.heap.size w wr) (fun i _ => xs.length - (intOf i).toNat)
  case atStart => exact ⟨0, Nat.zero_le _, rfl, fun j hj => by omega, Below.refl _ _⟩
  case round =>
    obtain ⟨k, hk, rfl, hall, hnx⟩ := hrel
    have HALL : Hid (∀ j, j < k → xs.getD j 0 = ys.getD j 0) := hall
    clear hall
    by_cases hkn : k < xs.length
    · obtain ⟨b1, o1, rfl, _, c1⟩ := fa.at hnx k hkn
      obtain ⟨b2, o2, rfl, _, c2⟩ := fb.at hnx k (by rw [HLY.out]; exact hkn)
      obtain ⟨x, hx⟩ : ∃ x, xs.getD k 0 = x := ⟨_, rfl⟩
      obtain ⟨y, hy⟩ : ∃ y, ys.getD k 0 = y := ⟨_, rfl⟩
      rw [hx] at c1
      rw [hy] at c2
      have HX : Hid (xs.getD k 0 = x) := hx
      have HY : Hid (ys.getD k 0 = y) := hy
      clear hx hy
      have i1 : (0 : Int) ≤ (k : Int) := by omega
      have i2 : (k : Int) < (xs.length : Int) := by omega
      by_cases hxy : x = y
      · subst hxy
        have hxx : ((x : Int) != (x : Int)) = false := by simp
        go_wp2_with fail
        go_quiet (fail)
        go_wp2
        go_roundw
        case rel =>
          refine ⟨k + 1, by omega, by go_num, fun j hj => ?_, below_drewN hnx _⟩
          rcases Nat.lt_or_ge j k with h1 | h1
          · exact HALL.out j h1
          · rw [show j = k by omega, HX.out, HY.out]
        case measure => simp [intOf]; omega
      · have hxx : ((x : Int) != (y : Int)) = true := by simp; omega
        have hDf : D = false := by
          rw [← HDD.out]
          refine decide_eq_false (fun e => ?_)
          have h1 := HX.out
          rw [e, HY.out] at h1
          exact hxy h1.symm
        clear hxy
        go_wp2_with fail
        go_quiet (fail)
        go_wp2
        go_ret
        exact ⟨rt_bool (by rw [hDf]), below_drewN hnx _⟩
    · obtain rfl : k = xs.length := by omega
      have hDt : D = true := by
        rw [← HDD.out]
        exact decide_eq_true (list_diff (by rw [HLY.out]) HALL.out)
      go_wp2
      go_ret
      exact ⟨rt_bool (by rw [hDt]), hnx⟩

end Go.Proofs.Ytfpeioccnpinkaa
