/-
  metrics.Write: the walk.
  metrics.metricAt, metrics.Read: the walks.
  metrics.Read: the walk.
  foundryref16.Formed: the walk.
-/
import Derived.Test.YtfpeioccnpinkaaZ26
import Derived.Test.YtfpeioccnpinkaaZ28
import Derived.Test.YtfpeioccnpinkaaZ11
import Derived.Test.YtfpeioccnpinkaaZ14
import Derived.Test.YtfpeioccnpinkaaZ19
import Derived.Test.YtfpeioccnpinkaaZ16
namespace Go.Proofs.Ytfpeioccnpinkaa
open Go.RowKit Go.Maps
set_option linter.unusedSimpArgs false
set_option linter.unusedVariables false

theorem mts_snoc {l : List Mt} {k : Nat} (hk : k < l.length) (P : List Nat) : P ++ mtsB (l.take (k + 1)) = P ++ mtsB (l.take k) ++ sb (l.getD k Mt.none).tg ++ be2 (l.getD k Mt.none).ab ++ be2 (l.getD k Mt.none).ar := by
  have e : l.take (k + 1) = l.take k ++ [l.getD k Mt.none] := by
    rw [List.take_add_one, List.getElem?_eq_getElem hk]
    simp [List.getD, hk]
  rw [e, mtsB_append, mtsB_one, mtB]
  simp only [List.append_assoc]
theorem wrM_no {l : List Mt} {s : Sr} (h : foM l s = false) : wrMB l s = [] ∧ wrME l s = 1 := by unfold wrMB wrME; rw [h]; exact ⟨rfl, rfl⟩
theorem wrM_yes {l : List Mt} {s : Sr} (h : foM l s = true) : wrMB l s = msB l ∧ wrME l s = 0 := by unfold wrMB wrME; rw [h]; exact ⟨rfl, rfl⟩
theorem mtk_len {l : List Mt} {s : Sr} (h : foM l s = true) (k : Nat) : 2 + (mtsB (l.take k)).length ≤ 82 := by
  have h1 := msB_len h
  have h2 : mtsB l = mtsB (l.take k) ++ mtsB (l.drop k) := by rw [← mtsB_append, List.take_append_drop]
  have h3 := (foM_iff.1 h).1
  rw [msB, List.length_append, h2, List.length_append, be2L] at h1
  omega

set_option maxHeartbeats 4000000 in
set_option maxRecDepth 100000 in
theorem mwrite_any (S : Nat → Prop) (a : Option Addr) (ca : Nat) (l : List Mt) (ga : Option Addr) (gc : Nat) (ma : Option Addr) (mc : Nat) (s : Sr) (w : World) (hl : Gr MtE S w a ca l) (k2 : s.rw.length ≤ 9223372036854775807) :
    Calls Try.prog 13 #[.slice a l.length ca, .agg #[.slice ga s.rg.length gc, .slice ma s.rw.length mc]] w fun e w' => ∃ a' c', e = .returned (.tuple #[.slice a' (wrMB l s).length c', .int .i64 (wrME l s)]) ∧ Rw 5 w.heap.size w' a' c' (wrMB l s) ∧ Below w.heap.size w w' := by
  have kl := hl.lenB
  obtain ⟨W, hW, X1, hbW⟩ : ∃ W, W = w.alloc (.cells #[.slice ga s.rg.length gc, .slice ma s.rw.length mc] 26) ∧ Bk 26 W w.heap.size [.slice ga s.rg.length gc, .slice ma s.rw.length mc] ∧ Below w.heap.size w W := ⟨_, rfl, Bk.new _ _ _, bl1 _⟩
  obtain ⟨p0, p1, _⟩ := X1.two
  have hf1 := mform_any S a ca l ga gc ma mc s W (hl.below hbW) k2
  cases hfo : foM l s with
  | false =>
    rw [hfo] at hf1
    have HN : Hid (_) := wrM_no hfo
    clear hfo
    go_enter Try.func13, Try.ntmps13
    go_upto_region 1 with fail
    rw [← hW]
    clear hW
    go_wp2_with fail
    refine hf1.mono ?_
    rintro e u ⟨rfl, hb1⟩
    have hfin := hbW.trans (hb1.mono hbW.size)
    clear hf1 p0 p1
    go_wp2
    go_ret2
    exact ⟨none, 0, by rw [HN.out.1, HN.out.2]; rfl, by rw [HN.out.1]; exact Rw.nil _ _, hfin⟩
  | true =>
  rw [hfo] at hf1
  have HFO : Hid (foM l s = true) := hfo
  have hF1 := (foM_iff.1 hfo).1
  have HEL : Hid (_) := foM_el hfo
  have HTE : Hid (msB l = be2 ((l.length : Nat) : Int) ++ mtsB l) := rfl
  have HTK : Hid (∀ k, 2 + (mtsB (l.take k)).length ≤ 82) := mtk_len hfo
  clear hfo
  go_enter Try.func13, Try.ntmps13
  go_upto_region 1 with fail
  rw [← hW]
  clear hW
  go_wp2_with fail
  refine hf1.mono ?_
  rintro e u ⟨rfl, hb1⟩
  have HL : Hid (Gr MtE (fun k => k < u.heap.size) u a ca l) := ((hl.below hbW).below hb1).wide (fun k _ h => h)
  have HBW : Hid (Below w.heap.size w u) := hbW.trans (hb1.mono hbW.size)
  have hP0 := pc_newA u (· < u.heap.size) (fun _ h => h)
  have hB0 := bl1 (w := u) (.cells #[.slice none 0 0, .int .i64 0, .map none, .bool false] 56)
  clear hl hf1 hb1 X1 hbW p0 p1
  go_wp2_with fail
  refine (put16_any u.heap.size _ _ (l.length : Int) _ hP0 ⟨by omega, by omega⟩ (by decide)).mono ?_
  rintro e u1 ⟨rfl, hP1, hK1⟩
  rw [show St.zero = ⟨[], [], false⟩ from rfl, put16A (by omega) (by omega), List.nil_append] at hP1
  have hB1 : Below u.heap.size u u1 := hB0.trans (hK1.below (fun k hk => hk))
  obtain ⟨Q, hQ⟩ : ∃ Q, be2 ((l.length : Nat) : Int) = Q := ⟨_, rfl⟩
  have HQL : Hid (Q.length = 2) := by show _ = _; rw [← hQ]; rfl
  rw [hQ] at hP1 HTE
  have hI : Pc u1 u.heap.size (· < u.heap.size) ⟨Q ++ mtsB (l.take 0), [], false⟩ := by
    rw [List.take_zero, mtsB, List.append_nil]
    exact hP1
  obtain ⟨B, hBB⟩ : ∃ g, u.heap.size = g := ⟨_, rfl⟩
  have HBB : Hid (u.heap.size = B) := hBB
  rw [hBB] at hI hB1 HL ⊢
  clear hP0 hK1 hB0 hP1 hQ hBB
  go_wp2
  go_loopw [21] (fun i wr => ∃ k : Nat, k ≤ l.length ∧ i = .int .i64 k ∧ Pc wr B (· < B) ⟨Q ++ mtsB (l.take k), [], false⟩ ∧ Below B u wr) (fun i _ => l.length - (intOf i).toNat)
  case atStart => exact ⟨0, Nat.zero_le _, rfl, hI, hB1⟩
  case round =>
    clear hI hB1
    obtain ⟨k, hk, rfl, hP, hB⟩ := hrel
    have hBs : B ≤ wr.heap.size := by have := hB.size; rw [HBB.out] at this; exact this
    have hBw : Below w.heap.size w wr := HBW.out.trans (hB.mono (by have := HBW.out.size; rw [HBB.out] at this; exact this))
    by_cases hkn : k < l.length
    · obtain ⟨b, off, ea, hb, hM, d0, d1, d2⟩ := HL.out.mt (by rw [HBB.out]; exact hB) k hkn
      obtain ⟨hE1, hE2, hE3⟩ := HEL.out k hkn
      have HSJ : Hid (_) := mts_snoc hkn Q
      have hlk : (Q ++ mtsB (l.take k)).length ≤ 82 := by
        rw [List.length_append, HQL.out]
        exact HTK.out k
      have h4 := gd_len hE1
      obtain ⟨x, hx⟩ : ∃ x, l.getD k Mt.none = x := ⟨_, rfl⟩
      rw [hx] at hM d0 d1 d2 hE1 hE2 hE3 HSJ h4
      obtain ⟨b2, hb2⟩ : ∃ b2, Q ++ mtsB (l.take k) = b2 := ⟨_, rfl⟩
      rw [hb2] at hP HSJ hlk
      subst ea
      obtain ⟨m1, m2, m3⟩ := hM
      have i1 : (0 : Int) ≤ (k : Int) := by omega
      have i2 : (k : Int) < (l.length : Int) := by omega
      obtain ⟨V, hV, X0, hb0⟩ : ∃ V, V = wr.alloc (.cells #[.string x.tg, .int .i64 x.ab, .int .i64 x.ar] 49) ∧ Bk 49 V wr.heap.size [.string x.tg, .int .i64 x.ab, .int .i64 x.ar] ∧ Below wr.heap.size wr V := ⟨_, rfl, Bk.new _ _ _, bl1 _⟩
      have hP1 : Pc V B (fun k => k < B ∨ k = wr.heap.size) ⟨b2, [], false⟩ := by rw [hV]; exact hP.moreA _
      have hBV : Below B u V := hB.trans (hb0.mono hBs)
      obtain ⟨q0, q1, q2⟩ := X0.two3
      obtain ⟨gt, hgt⟩ : ∃ g, wr.heap.size = g := ⟨_, rfl⟩
      have HGT : Hid (wr.heap.size = gt) := hgt
      clear hx hb2 hP
      go_upto_region 8 with fail
      rw [← hV]
      rw [hgt] at q0 q1 q2 hP1
      try rw [hgt]
      clear hV d0 d1 d2 hb0 hgt
      go_wp2_with fail
      refine (putTag_any B _ _ x.tg _ hP1 m1 (by show b2.length + 4 ≤ _; omega)).mono ?_
      rintro e v1 ⟨rfl, hP2, hk2⟩
      rw [tagA hE1] at hP2
      replace q1 := (hk2.cell (p := ⟨gt, 1, none⟩) (.inr rfl)).trans q1
      replace q2 := (hk2.cell (p := ⟨gt, 2, none⟩) (.inr rfl)).trans q2
      replace hBV := hBV.trans (hk2.below (fun k hk => .inl hk))
      clear q0 hk2 hP1
      go_wp2_with fail
      refine (put16_any B _ _ x.ab _ hP2 m2 (by show (b2 ++ sb x.tg).length + 4 ≤ _; rw [List.length_append]; omega)).mono ?_
      rintro e v2 ⟨rfl, hP3, hk3⟩
      rw [put16A (by omega) (by omega)] at hP3
      replace q2 := (hk3.cell (p := ⟨gt, 2, none⟩) (.inr rfl)).trans q2
      replace hBV := hBV.trans (hk3.below (fun k hk => .inl hk))
      clear q1 hk3 hP2
      go_wp2_with fail
      refine (put16_any B _ _ x.ar _ hP3 m3 (by show (b2 ++ sb x.tg ++ be2 x.ab).length + 4 ≤ _; rw [List.length_append, List.length_append, be2L]; omega)).mono ?_
      rintro e v3 ⟨rfl, hP4, hk4⟩
      rw [put16A (by omega) (by omega), ← HSJ.out] at hP4
      have hB4 := hBV.trans (hk4.below (fun k hk => .inl hk))
      have hs4 : B ≤ v3.heap.size := by have := hB4.size; rw [HBB.out] at this; exact this
      have hP5 : Pc v3 B (· < B) ⟨Q ++ mtsB (l.take (k + 1)), [], false⟩ := hP4.guard (fun j hj => ⟨Nat.lt_of_lt_of_le hj hs4, .inl hj⟩)
      clear q2 hk4 hP3 hP4 hBV hB hBw X0 HSJ
      go_wp2
      go_roundw
      case rel => exact ⟨k + 1, by omega, by go_num, hP5, hB4⟩
      case measure => simp [intOf]; omega
    · obtain rfl : k = l.length := by omega
      have g4 : ¬ (l.length : Int) < (l.length : Int) := by omega
      rw [List.take_length, ← HTE.out] at hP
      have hL : (msB l).length ≤ 1048576 := by rw [msB_len HFO.out]; omega
      have hall := all_any B _ _ _ hP hL
      have ea : allB ⟨msB l, [], false⟩ = msB l := by simp [allB]
      have eb : allE ⟨msB l, [], false⟩ = 0 := rfl
      rw [ea, eb] at hall
      have HN : Hid (_) := wrM_yes HFO.out
      have hbz := hBw.size
      clear hP ea eb
      go_wp2_with fail
      refine hall.mono ?_
      rintro e u9 ⟨a9, c9, rfl, hr9, hb9⟩
      have hB9 := hBw.trans (hb9.mono hBw.size)
      clear hall
      go_wp2
      go_ret2
      exact ⟨a9, c9, by rw [HN.out.1, HN.out.2]; rfl, by rw [HN.out.1]; exact hr9.mono hbz, hB9⟩

end Go.Proofs.Ytfpeioccnpinkaa

namespace Go.Proofs.Ytfpeioccnpinkaa
open Go.RowKit Go.Maps
set_option linter.unusedSimpArgs false
set_option linter.unusedVariables false

theorem tgV_sizeM (xs : List Nat) (p : Int) : (tgV xs p).size ≤ maxLen := by
  unfold tgV
  split
  · rw [size_str8]
    unfold cutV
    split
    · rw [List.length_take, show (4 : Int).toNat = 4 from rfl]
      unfold maxLen
      omega
    · exact Nat.zero_le _
  · exact Nat.zero_le _
theorem sx16_i64M {v : Nat} (h : v < 65536) : I64 (sx16 v) := by unfold sx16 I64; split <;> omega
theorem mtAt_w {xs : List Nat} (h : Byt xs) (p : Nat) : MtW (mtAt xs p) := ⟨tgV_sizeM _ _, sx16_i64M (nmV_lt h _ 2), sx16_i64M (nmV_lt h _ 2)⟩

set_option maxHeartbeats 4000000 in
set_option maxRecDepth 100000 in
theorem mat_any (ba : Option Addr) (bc : Nat) (xs : List Nat) (p : Nat) (w : World) (hx : Rb w ba bc xs) (hp : p ≤ 1000000) (hl : xs.length ≤ 1000000000) :
    Calls Try.prog 31 #[.slice ba xs.length bc, .int .i64 (p : Int)] w fun e w' => e = .returned (.agg #[.string (mtAt xs p).tg, .int .i64 (mtAt xs p).ab, .int .i64 (mtAt xs p).ar]) ∧ Below w.heap.size w w' := by
  have hpc := hx.le
  have hpm := hx.cap
  unfold maxLen at hpm
  obtain ⟨m1, m2, m3⟩ := mtAt_w hx.lim p
  obtain ⟨W, hW, X1, hbW⟩ : ∃ W, W = w.alloc (.cells #[.string ⟨#[]⟩, .int .i64 0, .int .i64 0] 49) ∧ Bk 49 W w.heap.size [.string ⟨#[]⟩, .int .i64 0, .int .i64 0] ∧ Below w.heap.size w W := ⟨_, rfl, Bk.new _ _ _, bl1 _⟩
  have hT := tag_any ba bc xs (p : Int) W (hx.below hbW) ⟨by omega, by omega⟩ hl
  have hI1 : ∀ U, Rb U ba bc xs → Calls Try.prog 51 #[.slice ba xs.length bc, .int .i64 ((p : Int) + 4)] U fun e w' => e = .returned (.tuple #[.int .i64 (sx16 (nmV xs ((p + 4 : Nat) : Int) 2)), .bool (inB xs.length ((p + 4 : Nat) : Int) 2)]) ∧ U = w' := fun U hr => i16_any ba bc xs ((p + 4 : Nat) : Int) U hr ⟨by omega, by omega⟩
  have hI2 : ∀ U, Rb U ba bc xs → Calls Try.prog 51 #[.slice ba xs.length bc, .int .i64 ((p : Int) + 6)] U fun e w' => e = .returned (.tuple #[.int .i64 (sx16 (nmV xs ((p + 6 : Nat) : Int) 2)), .bool (inB xs.length ((p + 6 : Nat) : Int) 2)]) ∧ U = w' := fun U hr => i16_any ba bc xs ((p + 6 : Nat) : Int) U hr ⟨by omega, by omega⟩
  have HE : Hid (mtAt xs p = ⟨tgV xs (p : Int), sx16 (nmV xs ((p + 4 : Nat) : Int) 2), sx16 (nmV xs ((p + 6 : Nat) : Int) 2)⟩) := rfl
  rw [HE.out] at m1 m2 m3 ⊢
  dsimp only at m1 m2 m3 ⊢
  generalize tgV xs (p : Int) = tg at *
  generalize sx16 (nmV xs ((p + 4 : Nat) : Int) 2) = z1 at *
  generalize sx16 (nmV xs ((p + 6 : Nat) : Int) 2) = z2 at *
  generalize tgB xs (p : Int) = q1 at *
  generalize inB xs.length ((p + 4 : Nat) : Int) 2 = q2 at *
  generalize inB xs.length ((p + 6 : Nat) : Int) 2 = q3 at *
  clear HE
  replace hx := hx.below hbW
  go_enter Try.func31, Try.ntmps31
  go_upto_region 1 with fail
  rw [← hW]
  clear hW
  go_wp2_with fail
  refine hT.mono ?_
  rintro e u ⟨rfl, hb⟩
  replace hx := hx.below hb
  replace X1 := X1.below hb
  replace hbW := hbW.trans (hb.mono hbW.size)
  clear hT hb
  go_wp2_with fail
  refine (hI1 _ hx).mono ?_
  rintro e u2 ⟨rfl, rfl⟩
  clear hI1
  go_wp2_with fail
  refine (hI2 _ hx).mono ?_
  rintro e u2 ⟨rfl, rfl⟩
  clear hI2
  obtain ⟨c0, c1, c2, f0, f1, f2⟩ := X1.three
  have HX : Hid (Bk 49 u w.heap.size [.string ⟨#[]⟩, .int .i64 0, .int .i64 0]) := X1
  have HB : Hid (Below w.heap.size w u) := hbW
  clear X1 hbW hx
  go_wp2
  have HZ : Hid (Bk 49 (((u.setCell ⟨w.heap.size, 0, none⟩ (.string tg)).setCell ⟨w.heap.size, 1, none⟩ (.int .i64 z1)).setCell ⟨w.heap.size, 2, none⟩ (.int .i64 z2)) w.heap.size [.string tg, .int .i64 z1, .int .i64 z2]) := ((HX.out.set 0 _).set 1 _).set 2 _
  have HF : Hid (Below w.heap.size w (((u.setCell ⟨w.heap.size, 0, none⟩ (.string tg)).setCell ⟨w.heap.size, 1, none⟩ (.int .i64 z1)).setCell ⟨w.heap.size, 2, none⟩ (.int .i64 z2))) := ((HB.out.setCell (p := ⟨w.heap.size, 0, none⟩) (Nat.le_refl _) _).setCell (p := ⟨w.heap.size, 1, none⟩) (Nat.le_refl _) _).setCell (p := ⟨w.heap.size, 2, none⟩) (Nat.le_refl _) _
  refine bodyPost_ret (v := .agg #[.string tg, .int .i64 z1, .int .i64 z2]) (by obtain ⟨r0, r1, r2, -⟩ := HZ.out.three; simp [results, Try.results31, go_sem, r0, r1, r2]) rfl ⟨rfl, HF.out⟩

theorem makeM (n : Nat) (hn : n ≤ 10) (w : World) : ∃ w1, (Instr.makeSlice 22 (.int .i64 0) (.int .i64 (n : Int))).run Try.prog w = .ok (.slice (some ⟨w.heap.size, 0, none⟩) 0 n) w1 ∧ w1.ownsRow w.heap.size 49 3 (.slice (some ⟨w.heap.size, 0, none⟩) 0 n) 0 [] ∧ Below w.heap.size w w1 ∧ w1.heap.size = w.heap.size + 1 := by
  obtain ⟨i0, hi0, hz0, hz1, hz2⟩ := info_parts info_mt
  have hmk := run_make (P := Try.prog) w 22 49 i0 _ Try.underlying22 hi0 hz0 .i64 .i64 0 (n : Int) (by omega) (by omega) (by rw [hz2]; omega) (by omega)
  rw [hz1] at hmk
  simp only [Int.toNat_zero, Int.toNat_natCast] at hmk
  refine ⟨_, hmk, ?_, bl1 _, by simp⟩
  have := World.ownsRow_made (base := w.heap.size) (e := 49) (size := 3) w (madeCells (Value.agg #[.string ByteArray.empty, .int .i64 0, .int .i64 0]).cells (n * 3)) n (Nat.le_refl _) (by unfold maxLen; omega) (size_madeCells _ _)
  simpa using this

end Go.Proofs.Ytfpeioccnpinkaa

namespace Go.Proofs.Ytfpeioccnpinkaa
open Go.RowKit Go.Maps
set_option linter.unusedSimpArgs false
set_option linter.unusedVariables false

set_option maxHeartbeats 2000000 in
set_option maxRecDepth 100000 in
theorem mread_any (ba : Option Addr) (bc : Nat) (xs : List Nat) (ga : Option Addr) (gc : Nat) (ma : Option Addr) (mc : Nat) (s : Sr) (w : World) (hx : Rb w ba bc xs) (k2 : s.rw.length ≤ 9223372036854775807) (hxl : xs.length ≤ 1048576) :
    Calls Try.prog 15 #[.slice ba xs.length bc, .agg #[.slice ga s.rg.length gc, .slice ma s.rw.length mc]] w fun e w' => ∃ a' c', e = .returned (.tuple #[.slice a' (rdML xs s).length c', .int .i64 (rdME xs s)]) ∧ Gr MtE (fun k => w.heap.size ≤ k) w' a' c' (rdML xs s) ∧ Below w.heap.size w w' := by
  have hpc := hx.le
  have hpm := hx.cap
  unfold maxLen at hpm
  obtain ⟨W, hW, X1, hbW⟩ : ∃ W, W = w.alloc (.cells #[.slice ga s.rg.length gc, .slice ma s.rw.length mc] 26) ∧ Bk 26 W w.heap.size [.slice ga s.rg.length gc, .slice ma s.rw.length mc] ∧ Below w.heap.size w W := ⟨_, rfl, Bk.new _ _ _, bl1 _⟩
  replace hx := hx.below hbW
  have hu := u16_any ba bc xs 0 W hx ⟨by decide, by decide⟩
  have hnl : nmV xs 0 2 < 65536 := nmV_lt hx.lim 0 2
  have HNO1 : Hid (rdM1 xs = false → rdML xs s = [] ∧ rdME xs s = 2) := rdM_no1
  have HNO2 : Hid (foM (rdMc xs) s = false → rdML xs s = [] ∧ rdME xs s = 2) := rdM_no2
  have HYES : Hid (rdM1 xs = true → foM (rdMc xs) s = true → rdML xs s = rdMc xs ∧ rdME xs s = 0) := fun h1 h2 => rdM_yes (by unfold rdMOk; rw [h1, h2]; rfl)
  have HRC : Hid (rdMc xs = mtsAt xs 2 (nmV xs 0 2)) := rfl
  have HR1 : Hid (rdM1 xs = (inB xs.length 0 2 && (decide (nmV xs 0 2 ≤ 10) && decide (xs.length = 2 + 8 * nmV xs 0 2)))) := rfl
  have HBY : Hid (Byt xs) := hx.lim
  obtain ⟨n, hn⟩ : ∃ n, nmV xs 0 2 = n := ⟨_, rfl⟩
  obtain ⟨qb, hq⟩ : ∃ q, inB xs.length 0 2 = q := ⟨_, rfl⟩
  rw [hn] at hu hnl HRC HR1
  rw [hq] at hu HR1
  clear hn hq
  obtain ⟨p0, p1, _⟩ := X1.two
  go_enter Try.func15, Try.ntmps15
  go_upto_region 1 with fail
  rw [← hW]
  clear hW
  go_wp2_with fail
  refine hu.mono ?_
  rintro e u0 ⟨rfl, rfl⟩
  clear hu
  by_cases hbad : rdM1 xs = false
  · have HNO : Hid (_) := HNO1.out hbad
    rw [HR1.out] at hbad
    clear HNO1 HNO2 HYES HRC HR1 hx X1 p0 p1
    cases qb with
    | false =>
      clear hbad
      go_wp2
      go_ret2
      exact ⟨none, 0, by rw [HNO.out.1, HNO.out.2]; rfl, by rw [HNO.out.1]; exact Gr.nil _ _ _ _ _ (Nat.zero_le _) (fun _ => rfl), hbW⟩
    | true =>
    rw [Bool.true_and] at hbad
    by_cases hn4 : n ≤ 10
    rotate_left
    · have g1 : decide ((10 : Int) < (n : Int)) = true := decide_eq_true (by omega)
      clear hbad
      go_wp2
      go_ret2
      exact ⟨none, 0, by rw [HNO.out.1, HNO.out.2]; rfl, by rw [HNO.out.1]; exact Gr.nil _ _ _ _ _ (Nat.zero_le _) (fun _ => rfl), hbW⟩
    rw [decide_eq_true hn4, Bool.true_and] at hbad
    have hne : xs.length ≠ 2 + 8 * n := of_decide_eq_false hbad
    have g1 : decide ((10 : Int) < (n : Int)) = false := decide_eq_false (by omega)
    have g2 : ((xs.length : Int) != 2 + (n : Int) * 8) = true := bne_iff_ne.2 (by omega)
    have g3 : ((xs.length : Int) != (n : Int) * 8 + 2) = true := bne_iff_ne.2 (by omega)
    clear hbad hne
    go_wp2
    go_ret2
    exact ⟨none, 0, by rw [HNO.out.1, HNO.out.2]; rfl, by rw [HNO.out.1]; exact Gr.nil _ _ _ _ _ (Nat.zero_le _) (fun _ => rfl), hbW⟩
  have hgood : rdM1 xs = true := by cases h : rdM1 xs with | true => rfl | false => exact absurd h hbad
  have HYE2 : Hid (foM (rdMc xs) s = true → rdML xs s = rdMc xs ∧ rdME xs s = 0) := HYES.out hgood
  rw [HR1.out] at hgood
  simp only [Bool.and_eq_true, decide_eq_true_iff] at hgood
  obtain ⟨e1, hn4, hlen⟩ := hgood
  subst e1
  rw [HRC.out] at HNO2 HYE2
  clear HNO1 HYES HRC HR1 hbad
  have g1 : decide ((10 : Int) < (n : Int)) = false := decide_eq_false (by omega)
  have g2 : ((xs.length : Int) != 2 + (n : Int) * 8) = false := by rw [hlen]; simp; omega
  obtain ⟨w1, hmk, hown, hb1, hs1⟩ := makeM n hn4 W
  have hI0 : Gw MtE 49 W.heap.size (fun _ => False) w1 (.slice (some ⟨W.heap.size, 0, none⟩) 0 n) [] := Gw.made hown
  have HX1 : Hid (Bk 26 W w.heap.size [.slice ga s.rg.length gc, .slice ma s.rw.length mc]) := X1
  have HX : Hid (Rb W ba bc xs) := hx
  have HBW : Hid (Below w.heap.size w W) := hbW
  obtain ⟨g, hgg⟩ : ∃ g, W.heap.size = g := ⟨_, rfl⟩
  have HG : Hid (W.heap.size = g) := hgg
  rw [hgg] at hI0 hmk
  have HLE : Hid (xs.length = 2 + 8 * n) := hlen
  clear X1 hx hbW hown p0 p1 hlen
  go_wp2
  clear hmk hgg g1 g2
  go_loopw [8, 9] (fun v i wr => ∃ (k : Nat), k ≤ n ∧ i = .int .i64 ((2 + 8 * k : Nat) : Int) ∧ Gw MtE 49 g (fun _ => False) wr v (mtsAt xs 2 k) ∧ g ≤ wr.heap.size ∧ Below W.heap.size W wr) (fun _ i _ => xs.length - (intOf i).toNat)
  case atStart => exact ⟨0, Nat.zero_le _, rfl, hI0, by rw [← HG.out]; exact hb1.size, hb1⟩
  case round =>
    clear hI0 hb1 hs1
    obtain ⟨k, hk, rfl, hGw, hgs, hB⟩ := hrel
    obtain ⟨a6, c6, e6, hgr6, hb6⟩ := hGw.slice
    subst e6
    rw [mtsAt_len] at hGw ⊢
    by_cases hkn : k < n
    · have g2 : ((2 + 8 * k : Nat) : Int) < (xs.length : Int) := by have := HLE.out; omega
      have hat := mat_any ba bc xs (2 + 8 * k) wr (HX.out.below hB) (by omega) (by omega)
      have HMW : Hid (MtW (mtAt xs (2 + 8 * k))) := mtAt_w HBY.out _
      have HSC : Hid (mtsAt xs 2 (k + 1) = mtsAt xs 2 k ++ [mtAt xs (2 + 8 * k)]) := mtsAt_succ _ _ _
      have hOW : ∀ q, (Value.slice a6 k c6).ownBlock = some q → g ≤ q ∧ q < wr.heap.size := fun q e => hGw.lo e
      have HOW : Hid (∀ q, (Value.slice a6 k c6).ownBlock = some q → g ≤ q ∧ q < wr.heap.size) := fun q e => hOW q e
      have HQ : Hid (((2 + 8 * k : Nat) : Int) + 8 = ((2 + 8 * (k + 1) : Nat) : Int)) := by show _ = _; omega
      obtain ⟨x, hxx⟩ : ∃ x, mtAt xs (2 + 8 * k) = x := ⟨_, rfl⟩
      rw [hxx] at hat HMW HSC
      obtain ⟨q, hq⟩ : ∃ q, 2 + 8 * k = q := ⟨_, rfl⟩
      rw [hq] at hat g2 HQ ⊢
      have hq6 : q ≤ 1000 := by omega
      clear hgr6 hb6 hOW hxx hq
      go_wp2_with fail
      refine hat.mono ?_
      rintro e u2 ⟨rfl, hb2⟩
      replace hGw := hGw.below hb2
      replace hB := hB.trans (hb2.mono hB.size)
      have hs2 := hb2.size
      clear hat hb2
      obtain ⟨V9, hV9, Y9, hb9⟩ : ∃ V, V = u2.alloc (.cells #[.string x.tg, .int .i64 x.ab, .int .i64 x.ar] 49) ∧ Bk 49 V u2.heap.size [.string x.tg, .int .i64 x.ab, .int .i64 x.ar] ∧ Below u2.heap.size u2 V := ⟨_, rfl, Bk.new _ _ _, bl1 _⟩
      have hGb := hGw.below hb9
      have hrep : MtE.rep (fun q => False ∧ (Value.slice a6 k c6).ownBlock ≠ some q) V9 [.string x.tg, .int .i64 x.ab, .int .i64 x.ar] x := MtE_rep.2 ⟨rfl, HMW.out⟩
      have hone := Gr.one (E := MtE) hrep Y9.lt (fun j hj => Y9.cell j hj)
      have hBb : Below W.heap.size W V9 := hB.trans (hb9.mono hB.size)
      have hs9 := hb9.size
      have hbs : g ≤ V9.heap.size := by omega
      have hll : (mtsAt xs 2 k).length + 1 ≤ 1000000 := by rw [mtsAt_len]; omega
      clear hrep hGw hB
      go_wp2_with (at_builtin; rw [← hV9]; refine wpList_append_el 22 49 Try.underlying22 info_mt rfl (by decide) (by decide) rfl _ _ rfl g (fun _ => False) _ (mtsAt xs 2 k) rfl hGb (some ⟨u2.heap.size, 0, none⟩) 1 1 [x] rfl rfl hone hll hbs ?_)
      intro v9 w9 hT9 hgrow _
      rw [← hV9] at hgrow
      rw [← HSC.out] at hT9
      have hB9 : Below W.heap.size W w9 := hBb.grown hgrow hBb.size (fun q hq => by have := (HOW.out q hq).1; have := HG.out; omega)
      have hs10 : g ≤ w9.heap.size := Nat.le_trans hbs hgrow.size
      clear hgrow hGb hone hbs hll hBb hV9 Y9 hb9
      go_wp2
      rw [HQ.out]
      go_roundw
      case rel => exact ⟨k + 1, by omega, rfl, hT9, hs10, hB9⟩
      case measure =>
        have := HQ.out
        simp [intOf]
        omega
    · have hkk : k = n := by omega
      subst hkk
      have g4 : ¬ ((2 + 8 * k : Nat) : Int) < (xs.length : Int) := by have := HLE.out; omega
      have HLW : Hid (w.heap.size ≤ g) := by
        have h2 := HBW.out.size
        have h3 := HG.out
        show _ ≤ _
        omega
      have hX1 := HX1.out.below hB
      obtain ⟨p0, p1, _⟩ := hX1.two
      have hBw := HBW.out.trans (hB.mono HBW.out.size)
      have hgf := mform_any _ a6 c6 (mtsAt xs 2 k) ga gc ma mc s wr hgr6 k2
      rw [mtsAt_len] at hgf
      have HGR : Hid (Gr MtE (fun _ => False) wr a6 c6 (mtsAt xs 2 k)) := hgr6
      have HLN : Hid ((mtsAt xs 2 k).length = k) := mtsAt_len _ _ _
      generalize mtsAt xs 2 k = tl at *
      clear hGw hX1 hgr6 hb6 hkn
      cases hfo : foM tl s with
      | false =>
        rw [hfo] at hgf
        have HNO : Hid (_) := HNO2.out hfo
        clear hfo HNO2 HYE2
        go_wp2_with fail
        refine hgf.mono ?_
        rintro e u3 ⟨rfl, hb3⟩
        have HFIN : Hid (_) := hBw.trans (hb3.mono hBw.size)
        clear hgf hb3
        go_wp2
        go_ret2
        exact ⟨none, 0, by rw [HNO.out.1, HNO.out.2]; rfl, by rw [HNO.out.1]; exact Gr.nil _ _ _ _ _ (Nat.zero_le _) (fun _ => rfl), HFIN.out⟩
      | true =>
        rw [hfo] at hgf
        have HYS : Hid (_) := HYE2.out hfo
        clear hfo HNO2 HYE2
        go_wp2_with fail
        refine hgf.mono ?_
        rintro e u3 ⟨rfl, hb3⟩
        have HFIN : Hid (_) := hBw.trans (hb3.mono hBw.size)
        have HGF : Hid (Gr MtE (fun k => w.heap.size ≤ k) u3 a6 c6 tl) := (HGR.out.below hb3).wide (fun k h1 _ => h1.elim)
        clear hgf hb3
        go_wp2
        go_ret2
        exact ⟨a6, c6, by rw [HYS.out.1, HYS.out.2, HLN.out]; rfl, by rw [HYS.out.1]; exact HGF.out, HFIN.out⟩

end Go.Proofs.Ytfpeioccnpinkaa

namespace Go.Proofs.Ytfpeioccnpinkaa
open Go.RowKit Go.Maps
set_option linter.unusedSimpArgs false
set_option linter.unusedVariables false

set_option maxHeartbeats 8000000 in
set_option maxRecDepth 100000 in
theorem sformM_any (S : Nat → Prop) (a : Option Addr) (ca : Nat) (l : List Mt) (ga : Option Addr) (gc : Nat) (ma : Option Addr) (mc : Nat) (s : Sr) (w : World) (hl : Gr MtE S w a ca l) (k2 : s.rw.length ≤ 9223372036854775807) :
    Calls Try.prog 20 #[.slice a l.length ca, .agg #[.slice ga s.rg.length gc, .slice ma s.rw.length mc]] w fun e w' => e = .returned (.bool (foM l s)) ∧ Below w.heap.size w w' := by
  have kl := hl.lenB
  obtain ⟨W, hW, X1, hbW⟩ : ∃ W, W = w.alloc (.cells #[.slice ga s.rg.length gc, .slice ma s.rw.length mc] 26) ∧ Bk 26 W w.heap.size [.slice ga s.rg.length gc, .slice ma s.rw.length mc] ∧ Below w.heap.size w W := ⟨_, rfl, Bk.new _ _ _, bl1 _⟩
  by_cases hn1 : 10 < l.length
  · have HF : Hid (foM l s = false) := foM_no1 hn1
    have g2 : (10 : Int) < (l.length : Int) := by omega
    go_enter Try.func20, Try.ntmps20
    go_upto_region 1 with fail
    rw [← hW]
    clear hW
    go_wp2
    go_ret
    exact ⟨rt_bool HF.out.symm, hbW⟩
  have g2 : ¬ (10 : Int) < (l.length : Int) := by omega
  have HL : Hid (Gr MtE S W a ca l) := hl.below hbW
  have HX1 : Hid (Bk 26 W w.heap.size [.slice ga s.rg.length gc, .slice ma s.rw.length mc]) := X1
  have HBW : Hid (Below w.heap.size w W) := hbW
  go_enter Try.func20, Try.ntmps20
  go_upto_region 1 with fail
  rw [← hW]
  clear hW hl X1 hbW
  go_wp2
  go_loopw [5] (fun i wr => ∃ k : Nat, k ≤ l.length ∧ i = .int .i64 k ∧ Hid (∀ j, j < k → foMx l s j = true) ∧ Below W.heap.size W wr) (fun i _ => l.length - (intOf i).toNat)
  case atStart => exact ⟨0, Nat.zero_le _, rfl, (fun j hj => by omega), Below.refl _ _⟩
  case round =>
    obtain ⟨k, hk, rfl, HOK, hB⟩ := hrel
    have hBw : Below w.heap.size w wr := HBW.out.trans (hB.mono HBW.out.size)
    by_cases hkn : k < l.length
    · obtain ⟨b1, off, ea, hb1, hM, c0, c1, c2⟩ := HL.out.mt hB k hkn
      subst ea
      have HBad : Hid (foMx l s k = false → foM l s = false) := foM_no2 hkn
      have HX : Hid (foMx l s k = (gd (sb (l.getD k Mt.none).tg) && (decide (fnM l (l.getD k Mt.none).tg = (k : Int)) && fiS s (l.getD k Mt.none).ab (l.getD k Mt.none).ar))) := rfl
      obtain ⟨jf, hjk, hjf⟩ := fnM_own hkn
      obtain ⟨x, hx⟩ : ∃ x, l.getD k Mt.none = x := ⟨_, rfl⟩
      rw [hx] at hM c0 c1 c2 HX hjf
      rw [hjf] at HX
      obtain ⟨m1, m2, m3⟩ := hM
      have i1 : (0 : Int) ≤ (k : Int) := by omega
      have i2 : (k : Int) < (l.length : Int) := by omega
      obtain ⟨s0, s1, -⟩ := (HX1.out.below hB).two
      have hb1w : b1 < wr.heap.size := Nat.lt_of_lt_of_le hb1 hB.size
      have hw0 : w.heap.size < wr.heap.size := (HX1.out.below hB).lt
      have hc0 := fun U (hU : Below wr.heap.size wr U) => (sgood_any x.tg U m1).mono (R' := fun e w' => e = .returned (.bool (gd (sb x.tg))) ∧ Below U.heap.size U w') (fun e w' h => ⟨h.1, h.2 ▸ Below.refl _ _⟩)
      have hc1 := fun U (hU : Below wr.heap.size wr U) => sfindM_any S _ ca l x.tg U (HL.out.below (hB.trans (hU.mono hB.size)))
      simp only [hjf] at hc1
      have hc2 := fun U (hU : Below wr.heap.size wr U) => sfitsS_any ga gc ma mc s x.ab x.ar U k2 m2 m3
      clear hx hjf
      go_upto_region 6 with fail
      cases hf1 : gd (sb x.tg) with
      | false =>
        simp only [hf1] at hc0
        have HF : Hid (foM l s = false) := HBad.out (by rw [HX.out, hf1]; rfl)
        clear hc1 hc2 hf1
        refine wp_region_held_drew (S := fun w9 => w9.cell? ⟨b1, off + k * 3, none⟩ = some (.string x.tg) ∧ w9.cell? ⟨b1, off + k * 3 + 1, none⟩ = some (.int .i64 x.ab) ∧ w9.cell? ⟨b1, off + k * 3 + 2, none⟩ = some (.int .i64 x.ar) ∧ w9.cell? ⟨w.heap.size, 0, none⟩ = some (.slice ga s.rg.length gc) ∧ w9.cell? ⟨w.heap.size, 1, none⟩ = some (.slice ma s.rw.length mc)) (by kernel_rfl) ?_ (fun hHeld => ?_)
        · (try dsimp only)
          go_keep
        have hdr : Below wr.heap.size wr wr.drew := Below.drew1
        generalize wr.drew = Z at hdr hHeld ⊢
        have HC0 : Hid (_) := And.intro c0 (And.intro c1 (And.intro c2 (And.intro s0 s1)))
        clear c0 c1 c2 s0 s1
        refine hT 0 hHeld ?_
        refine hT 1 hHeld ?_
        refine hT 2 hHeld ?_
        refine hT 3 hHeld ?_
        refine hT 4 hHeld ?_
        refine hCall (i := 5) rfl (by kernel_rfl) (by rfl) (fun K hK => ?_)
        go_simp
        refine (hc0 _ hdr).mono ?_
        rintro e u4 ⟨rfl, hu4⟩
        replace hdr := hdr.trans (hu4.mono hdr.size)
        clear hu4 hc0
        go_wp2_with fail
        refine hK.out _ _ ?_ (fun hHeld => ?_)
        · (try dsimp only)
          exact fiveM hdr ⟨hb1w, hw0⟩ HC0.out
        clear hK K
        try simp only [Act.put, List.setIfInBounds_toArray, List.set_cons_zero, List.set_cons_succ]
        refine hT 6 hHeld ?_
        refine hT 7 hHeld ?_
        refine hN 8 hHeld ?_
        refine hN 9 hHeld ?_
        refine hN 10 hHeld ?_
        refine hN 11 hHeld ?_
        refine hN 12 hHeld ?_
        refine hN 13 hHeld ?_
        refine hN 14 hHeld ?_
        refine hN 15 hHeld ?_
        refine hN 16 hHeld ?_
        refine hT 17 hHeld ?_
        refine hT 18 hHeld ?_
        refine hN 19 hHeld ?_
        refine hN 20 hHeld ?_
        refine hN 21 hHeld ?_
        refine hN 22 hHeld ?_
        refine hN 23 hHeld ?_
        refine hN 24 hHeld ?_
        refine hN 25 hHeld ?_
        refine hN 26 hHeld ?_
        refine hT 27 hHeld ?_
        refine wpAnyH_done (by kernel_rfl) ?_ _
        have hB9 := hB.trans (hdr.mono hB.size)
        have hBw9 := HBW.out.trans (hB9.mono HBW.out.size)
        clear hHeld HC0 hB hdr HX HBad hBw
        go_wp2
        go_ret
        exact ⟨rt_bool HF.out.symm, hBw9⟩
      | true =>
      simp only [hf1] at hc0
      replace HX : Hid (foMx l s k = (decide ((jf : Int) = (k : Int)) && fiS s x.ab x.ar)) := by show _ = _; rw [HX.out, hf1, Bool.true_and]
      clear hf1
      by_cases hs2 : jf = k
      rotate_left
      · have g2 : (jf : Int) < (k : Int) := by omega
        have g2b : decide ((jf : Int) < (k : Int)) = true := decide_eq_true g2
        have g3 : jf < k := by omega
        have g3b : decide (jf < k) = true := decide_eq_true g3
        have HF : Hid (foM l s = false) := HBad.out (by rw [HX.out, decide_eq_false (by omega)]; rfl)
        clear hc2 hs2
        refine wp_region_held_drew (S := fun w9 => w9.cell? ⟨b1, off + k * 3, none⟩ = some (.string x.tg) ∧ w9.cell? ⟨b1, off + k * 3 + 1, none⟩ = some (.int .i64 x.ab) ∧ w9.cell? ⟨b1, off + k * 3 + 2, none⟩ = some (.int .i64 x.ar) ∧ w9.cell? ⟨w.heap.size, 0, none⟩ = some (.slice ga s.rg.length gc) ∧ w9.cell? ⟨w.heap.size, 1, none⟩ = some (.slice ma s.rw.length mc)) (by kernel_rfl) ?_ (fun hHeld => ?_)
        · (try dsimp only)
          go_keep
        have hdr : Below wr.heap.size wr wr.drew := Below.drew1
        generalize wr.drew = Z at hdr hHeld ⊢
        have HC0 : Hid (_) := And.intro c0 (And.intro c1 (And.intro c2 (And.intro s0 s1)))
        clear c0 c1 c2 s0 s1
        refine hT 0 hHeld ?_
        refine hT 1 hHeld ?_
        refine hT 2 hHeld ?_
        refine hT 3 hHeld ?_
        refine hT 4 hHeld ?_
        refine hCall (i := 5) rfl (by kernel_rfl) (by rfl) (fun K hK => ?_)
        go_simp
        refine (hc0 _ hdr).mono ?_
        rintro e u4 ⟨rfl, hu4⟩
        replace hdr := hdr.trans (hu4.mono hdr.size)
        clear hu4 hc0
        go_wp2_with fail
        refine hK.out _ _ ?_ (fun hHeld => ?_)
        · (try dsimp only)
          exact fiveM hdr ⟨hb1w, hw0⟩ HC0.out
        clear hK K
        try simp only [Act.put, List.setIfInBounds_toArray, List.set_cons_zero, List.set_cons_succ]
        refine hT 6 hHeld ?_
        refine hT 7 hHeld ?_
        refine hT 8 hHeld ?_
        refine hT 9 hHeld ?_
        refine hT 10 hHeld ?_
        refine hT 11 hHeld ?_
        refine hT 12 hHeld ?_
        refine hT 13 hHeld ?_
        refine hT 15 hHeld ?_
        refine hCall (i := 14) rfl (by kernel_rfl) (by rfl) (fun K hK => ?_)
        go_simp
        refine (hc1 _ hdr).mono ?_
        rintro e u5 ⟨rfl, hu5⟩
        replace hdr := hdr.trans (hu5.mono hdr.size)
        clear hu5 hc1
        go_wp2_with fail
        refine hK.out _ _ ?_ (fun hHeld => ?_)
        · (try dsimp only)
          exact fiveM hdr ⟨hb1w, hw0⟩ HC0.out
        clear hK K
        try simp only [Act.put, List.setIfInBounds_toArray, List.set_cons_zero, List.set_cons_succ]
        refine hT 16 hHeld ?_
        refine hT 17 hHeld ?_
        refine hT 18 hHeld ?_
        refine hN 19 hHeld ?_
        refine hN 20 hHeld ?_
        refine hN 21 hHeld ?_
        refine hN 22 hHeld ?_
        refine hN 23 hHeld ?_
        refine hN 24 hHeld ?_
        refine hN 25 hHeld ?_
        refine hN 26 hHeld ?_
        refine hT 27 hHeld ?_
        refine wpAnyH_done (by kernel_rfl) ?_ _
        have hB9 := hB.trans (hdr.mono hB.size)
        have hBw9 := HBW.out.trans (hB9.mono HBW.out.size)
        clear hHeld HC0 hB hdr HX HBad hBw
        go_wp2
        go_ret
        exact ⟨rt_bool HF.out.symm, hBw9⟩
      have g2 : ¬ (jf : Int) < (k : Int) := by omega
      have g2b : decide ((jf : Int) < (k : Int)) = false := decide_eq_false g2
      have g3 : ¬ jf < k := by omega
      have g3b : decide (jf < k) = false := decide_eq_false g3
      replace HX : Hid (foMx l s k = fiS s x.ab x.ar) := by show _ = _; rw [HX.out, decide_eq_true (by omega), Bool.true_and]
      clear hs2
      cases hf2 : fiS s x.ab x.ar with
      | false =>
        simp only [hf2] at hc2
        have HF : Hid (foM l s = false) := HBad.out (by rw [HX.out, hf2])
        clear hf2
        refine wp_region_held_drew (S := fun w9 => w9.cell? ⟨b1, off + k * 3, none⟩ = some (.string x.tg) ∧ w9.cell? ⟨b1, off + k * 3 + 1, none⟩ = some (.int .i64 x.ab) ∧ w9.cell? ⟨b1, off + k * 3 + 2, none⟩ = some (.int .i64 x.ar) ∧ w9.cell? ⟨w.heap.size, 0, none⟩ = some (.slice ga s.rg.length gc) ∧ w9.cell? ⟨w.heap.size, 1, none⟩ = some (.slice ma s.rw.length mc)) (by kernel_rfl) ?_ (fun hHeld => ?_)
        · (try dsimp only)
          go_keep
        have hdr : Below wr.heap.size wr wr.drew := Below.drew1
        generalize wr.drew = Z at hdr hHeld ⊢
        have HC0 : Hid (_) := And.intro c0 (And.intro c1 (And.intro c2 (And.intro s0 s1)))
        clear c0 c1 c2 s0 s1
        refine hT 0 hHeld ?_
        refine hT 1 hHeld ?_
        refine hT 2 hHeld ?_
        refine hT 3 hHeld ?_
        refine hT 4 hHeld ?_
        refine hCall (i := 5) rfl (by kernel_rfl) (by rfl) (fun K hK => ?_)
        go_simp
        refine (hc0 _ hdr).mono ?_
        rintro e u4 ⟨rfl, hu4⟩
        replace hdr := hdr.trans (hu4.mono hdr.size)
        clear hu4 hc0
        go_wp2_with fail
        refine hK.out _ _ ?_ (fun hHeld => ?_)
        · (try dsimp only)
          exact fiveM hdr ⟨hb1w, hw0⟩ HC0.out
        clear hK K
        try simp only [Act.put, List.setIfInBounds_toArray, List.set_cons_zero, List.set_cons_succ]
        refine hT 6 hHeld ?_
        refine hT 7 hHeld ?_
        refine hT 8 hHeld ?_
        refine hT 9 hHeld ?_
        refine hT 10 hHeld ?_
        refine hT 11 hHeld ?_
        refine hT 12 hHeld ?_
        refine hT 13 hHeld ?_
        refine hT 15 hHeld ?_
        refine hCall (i := 14) rfl (by kernel_rfl) (by rfl) (fun K hK => ?_)
        go_simp
        refine (hc1 _ hdr).mono ?_
        rintro e u5 ⟨rfl, hu5⟩
        replace hdr := hdr.trans (hu5.mono hdr.size)
        clear hu5 hc1
        go_wp2_with fail
        refine hK.out _ _ ?_ (fun hHeld => ?_)
        · (try dsimp only)
          exact fiveM hdr ⟨hb1w, hw0⟩ HC0.out
        clear hK K
        try simp only [Act.put, List.setIfInBounds_toArray, List.set_cons_zero, List.set_cons_succ]
        refine hT 16 hHeld ?_
        refine hT 17 hHeld ?_
        refine hT 18 hHeld ?_
        refine hT 19 hHeld ?_
        refine hT 20 hHeld ?_
        refine hT 21 hHeld ?_
        refine hT 22 hHeld ?_
        refine hT 23 hHeld ?_
        refine hT 24 hHeld ?_
        refine hCall (i := 25) rfl (by kernel_rfl) (by rfl) (fun K hK => ?_)
        go_simp
        refine (hc2 _ hdr).mono ?_
        rintro e u6 ⟨rfl, hu6⟩
        replace hdr := hdr.trans (hu6.mono hdr.size)
        clear hu6 hc2
        go_wp2_with fail
        refine hK.out _ _ ?_ (fun hHeld => ?_)
        · (try dsimp only)
          exact fiveM hdr ⟨hb1w, hw0⟩ HC0.out
        clear hK K
        try simp only [Act.put, List.setIfInBounds_toArray, List.set_cons_zero, List.set_cons_succ]
        refine hT 26 hHeld ?_
        refine hT 27 hHeld ?_
        refine wpAnyH_done (by kernel_rfl) ?_ _
        have hB9 := hB.trans (hdr.mono hB.size)
        have hBw9 := HBW.out.trans (hB9.mono HBW.out.size)
        clear hHeld HC0 hB hdr HX HBad hBw
        go_wp2
        go_ret
        exact ⟨rt_bool HF.out.symm, hBw9⟩
      | true =>
      simp only [hf2] at hc2
      have HOK2 : Hid (∀ j, j < k + 1 → foMx l s j = true) := fun j hj => by
        rcases Nat.lt_or_ge j k with h1 | h1
        · exact HOK.out j h1
        · rw [show j = k by omega, HX.out, hf2]
      clear hf2 HOK
      refine wp_region_held_drew (S := fun w9 => w9.cell? ⟨b1, off + k * 3, none⟩ = some (.string x.tg) ∧ w9.cell? ⟨b1, off + k * 3 + 1, none⟩ = some (.int .i64 x.ab) ∧ w9.cell? ⟨b1, off + k * 3 + 2, none⟩ = some (.int .i64 x.ar) ∧ w9.cell? ⟨w.heap.size, 0, none⟩ = some (.slice ga s.rg.length gc) ∧ w9.cell? ⟨w.heap.size, 1, none⟩ = some (.slice ma s.rw.length mc)) (by kernel_rfl) ?_ (fun hHeld => ?_)
      · (try dsimp only)
        go_keep
      have hdr : Below wr.heap.size wr wr.drew := Below.drew1
      generalize wr.drew = Z at hdr hHeld ⊢
      have HC0 : Hid (_) := And.intro c0 (And.intro c1 (And.intro c2 (And.intro s0 s1)))
      clear c0 c1 c2 s0 s1
      refine hT 0 hHeld ?_
      refine hT 1 hHeld ?_
      refine hT 2 hHeld ?_
      refine hT 3 hHeld ?_
      refine hT 4 hHeld ?_
      refine hCall (i := 5) rfl (by kernel_rfl) (by rfl) (fun K hK => ?_)
      go_simp
      refine (hc0 _ hdr).mono ?_
      rintro e u4 ⟨rfl, hu4⟩
      replace hdr := hdr.trans (hu4.mono hdr.size)
      clear hu4 hc0
      go_wp2_with fail
      refine hK.out _ _ ?_ (fun hHeld => ?_)
      · (try dsimp only)
        exact fiveM hdr ⟨hb1w, hw0⟩ HC0.out
      clear hK K
      try simp only [Act.put, List.setIfInBounds_toArray, List.set_cons_zero, List.set_cons_succ]
      refine hT 6 hHeld ?_
      refine hT 7 hHeld ?_
      refine hT 8 hHeld ?_
      refine hT 9 hHeld ?_
      refine hT 10 hHeld ?_
      refine hT 11 hHeld ?_
      refine hT 12 hHeld ?_
      refine hT 13 hHeld ?_
      refine hT 15 hHeld ?_
      refine hCall (i := 14) rfl (by kernel_rfl) (by rfl) (fun K hK => ?_)
      go_simp
      refine (hc1 _ hdr).mono ?_
      rintro e u5 ⟨rfl, hu5⟩
      replace hdr := hdr.trans (hu5.mono hdr.size)
      clear hu5 hc1
      go_wp2_with fail
      refine hK.out _ _ ?_ (fun hHeld => ?_)
      · (try dsimp only)
        exact fiveM hdr ⟨hb1w, hw0⟩ HC0.out
      clear hK K
      try simp only [Act.put, List.setIfInBounds_toArray, List.set_cons_zero, List.set_cons_succ]
      refine hT 16 hHeld ?_
      refine hT 17 hHeld ?_
      refine hT 18 hHeld ?_
      refine hT 19 hHeld ?_
      refine hT 20 hHeld ?_
      refine hT 21 hHeld ?_
      refine hT 22 hHeld ?_
      refine hT 23 hHeld ?_
      refine hT 24 hHeld ?_
      refine hCall (i := 25) rfl (by kernel_rfl) (by rfl) (fun K hK => ?_)
      go_simp
      refine (hc2 _ hdr).mono ?_
      rintro e u6 ⟨rfl, hu6⟩
      replace hdr := hdr.trans (hu6.mono hdr.size)
      clear hu6 hc2
      go_wp2_with fail
      refine hK.out _ _ ?_ (fun hHeld => ?_)
      · (try dsimp only)
        exact fiveM hdr ⟨hb1w, hw0⟩ HC0.out
      clear hK K
      try simp only [Act.put, List.setIfInBounds_toArray, List.set_cons_zero, List.set_cons_succ]
      refine hT 26 hHeld ?_
      refine hT 27 hHeld ?_
      refine wpAnyH_done (by kernel_rfl) ?_ _
      have hB9 := hB.trans (hdr.mono hB.size)
      have hBw9 := HBW.out.trans (hB9.mono HBW.out.size)
      clear hHeld HC0 hB hdr HX HBad hBw
      go_wp2
      go_roundw
      case rel => exact ⟨k + 1, by omega, by go_num, HOK2, hB9⟩
      case measure => simp [intOf]; omega
    · have HF : Hid (foM l s = true) := foM_iff.2 ⟨by omega, fun j hj => HOK.out j (by omega)⟩
      have g4 : ¬ (k : Int) < (l.length : Int) := by omega
      clear HOK
      go_wp2
      go_ret
      exact ⟨rt_bool HF.out.symm, hBw⟩

end Go.Proofs.Ytfpeioccnpinkaa
