/-
  foundryref06: Read, Same, SameInts: the walks.
  axes.Write, axes.axisAt: the walks.
  axes.Read: the walk.
  foundryref06.SameInts, foundryref06.Same: the walks.
-/
import Derived.Test.YtanppgmhlcifiaaGreatDoorZ24
import Derived.Test.YtanppgmhlcifiaaGreatDoorZ12
import Derived.Test.YtanppgmhlcifiaaGreatDoorZ25
import Derived.Laws.MakeOwn
import Derived.Test.YtanppgmhlcifiaaGreatDoorZ6
import Derived.Test.YtanppgmhlcifiaaGreatDoorZ2
namespace Go.Proofs.YtanppgmhlcifiaaGreatDoor
open Go.RowKit Go.Maps
set_option linter.unusedSimpArgs false
set_option linter.unusedVariables false

theorem sx32_i64 {xs : List Nat} (h : Byt xs) (p : Int) : I64 (sx32 (nmV xs p 4)) := by
  have := nmV_lt h p 4
  have h2 : nmV xs p 4 < 4294967296 := this
  unfold sx32 I64
  split <;> omega
theorem tgV_sizeA (xs : List Nat) (p : Int) : (tgV xs p).size ≤ maxLen := by
  unfold tgV
  split
  · rename_i h
    have hi : inB xs.length p 4 = true := by simp [tgB] at h; exact h.1
    rw [size_str8, cutV_yes hi]
    simp [maxLen]
    omega
  · simp [maxLen, ByteArray.size]
theorem axR_snoc (b : List Nat) (k : Nat) : (List.range (k + 1)).map (axAt b) = (List.range k).map (axAt b) ++ [axAt b k] := by
  rw [List.range_succ, List.map_append]
  rfl

set_option maxHeartbeats 3000000 in
set_option maxRecDepth 100000 in
theorem sread_any (a : Option Addr) (cap : Nat) (xs : List Nat) (w : World) (h : Rb w a cap xs) (hlx : xs.length ≤ 1000000000) :
    Calls Tryz.prog 15 #[.slice a xs.length cap] w fun e w' => ∃ a' cap', e = .returned (.tuple #[.slice a' (rdL xs).length cap', .int .i64 (rdE xs)]) ∧ As w' a' cap' (rdL xs) ∧ Below w.heap.size w w' := by
  have k1 := h.le
  have k2 := h.cap
  unfold maxLen at k2
  have HH : Hid (Rb w a cap xs) := h
  have hnb := nmV_lt h.lim 0 2
  have HOK : Hid (okR xs = (inB xs.length 0 2 && (decide (nmV xs 0 2 ≤ 4) && decide (xs.length = 2 + 16 * nmV xs 0 2)))) := rfl
  have HBAD : Hid (rdB xs = false → rdE xs = 2 ∧ rdL xs = []) := by
    show rdB xs = false → _
    intro e
    exact ⟨by simp [rdE, e], by simp [rdL, e]⟩
  have HNO : Hid (okR xs = false → rdB xs = false) := by
    show okR xs = false → _
    intro e
    rw [rdB, e]
    rfl
  have HRB : Hid (okR xs = true → rdB xs = frA (axR xs)) := by
    show okR xs = true → _
    intro e
    rw [rdB, e]
    rfl
  have HAR : Hid (axR xs = (List.range (nmV xs 0 2)).map (axAt xs)) := rfl
  obtain ⟨n, hn⟩ : ∃ n, nmV xs 0 2 = n := ⟨_, rfl⟩
  rw [hn] at hnb HOK HAR
  have HN : Hid (nmV xs 0 2 = n) := hn
  have hnb' : n < 65536 := hnb
  by_cases hok : okR xs = true
  rotate_left
  · have hok : okR xs = false := by simpa using hok
    obtain ⟨e1, e2⟩ := HBAD.out (HNO.out hok)
    have E1 : Hid (rdE xs = 2) := e1
    have E2 : Hid (rdL xs = []) := e2
    have hcs : inB xs.length 0 2 = false ∨ (inB xs.length 0 2 = true ∧ 4 < n) ∨ (inB xs.length 0 2 = true ∧ n ≤ 4 ∧ xs.length ≠ 2 + 16 * n) := by
      rw [HOK.out] at hok
      cases hi : inB xs.length 0 2 with
      | false => exact .inl rfl
      | true =>
        refine .inr ?_
        rw [hi] at hok
        simp at hok
        by_cases h4 : n ≤ 4
        · exact .inr ⟨rfl, h4, hok h4⟩
        · exact .inl ⟨rfl, by omega⟩
    have hu := su16_any a cap xs 0 w h ⟨by decide, by decide⟩
    rw [hn] at hu
    clear hok e1 e2 hn h
    rcases hcs with hi | ⟨hi, h4⟩ | ⟨hi, h4, h5⟩
    · go_enter Tryz.func15, Tryz.ntmps15
      go_wp2_with fail
      refine hu.mono ?_
      rintro e u ⟨rfl, rfl⟩
      rw [hi]
      go_wp2
      go_ret2
      exact ⟨none, 0, by rw [E1.out, E2.out]; rfl, by rw [E2.out]; exact As.nil _ _ _ (Nat.zero_le _), Below.refl _ _⟩
    · have g : (4 : Int) < (n : Int) := by omega
      go_enter Tryz.func15, Tryz.ntmps15
      go_wp2_with fail
      refine hu.mono ?_
      rintro e u ⟨rfl, rfl⟩
      rw [hi]
      go_wp2
      go_ret2
      exact ⟨none, 0, by rw [E1.out, E2.out]; rfl, by rw [E2.out]; exact As.nil _ _ _ (Nat.zero_le _), Below.refl _ _⟩
    · have g : ¬ (4 : Int) < (n : Int) := by omega
      have g2 : ((xs.length : Int) != 2 + 16 * (n : Int)) = true := by simp; omega
      go_enter Tryz.func15, Tryz.ntmps15
      go_wp2_with fail
      refine hu.mono ?_
      rintro e u ⟨rfl, rfl⟩
      rw [hi]
      go_wp2
      go_ret2
      exact ⟨none, 0, by rw [E1.out, E2.out]; rfl, by rw [E2.out]; exact As.nil _ _ _ (Nat.zero_le _), Below.refl _ _⟩
  have hRB := HRB.out hok
  rw [HOK.out, Bool.and_eq_true, Bool.and_eq_true, decide_eq_true_iff, decide_eq_true_iff] at hok
  obtain ⟨hi, h4, h5⟩ := hok
  have g : ¬ (4 : Int) < (n : Int) := by omega
  have g2 : ((xs.length : Int) != 2 + 16 * (n : Int)) = false := by simp; omega
  have hu := su16_any a cap xs 0 w h ⟨by decide, by decide⟩
  rw [hn, hi] at hu
  have HRBE : Hid (rdB xs = frA (axR xs)) := hRB
  have HE : Hid (rdE xs = if rdB xs then 0 else 2) := rfl
  have HL : Hid (rdL xs = if rdB xs then axR xs else []) := rfl
  have hbyt := h.lim
  clear hi hn h hRB h5
  go_enter Tryz.func15, Tryz.ntmps15
  go_wp2_with fail
  refine hu.mono ?_
  rintro e u ⟨rfl, rfl⟩
  clear hu
  go_wp2
  go_loopw [6, 7] (fun v i wr => ∃ k : Nat, k ≤ n ∧ i = .int .i64 k ∧ Ao w.heap.size wr v ((List.range k).map (axAt xs)) ∧ Below w.heap.size w wr) (fun _ i _ => n - (intOf i).toNat)
  case atStart => exact ⟨0, Nat.zero_le _, rfl, Ao.nil _ _, Below.refl _ _⟩
  case round =>
    obtain ⟨k, hk, rfl, hT, hB⟩ := hrel
    obtain ⟨a2, c2, rfl, hts⟩ := hT.slice
    have hlen : ((List.range k).map (axAt xs)).length = k := by simp
    rw [hlen] at hT ⊢
    have HT : Hid (Ao w.heap.size wr (.slice a2 k c2) ((List.range k).map (axAt xs))) := hT
    have HTS : Hid (As wr a2 c2 ((List.range k).map (axAt xs))) := hts
    clear hT hts hlen
    by_cases hkn : k < n
    · have HTB : Hid (axAt xs k = ⟨tgV xs (2 + 16 * (k : Int)), sx32 (nmV xs (6 + 16 * (k : Int)) 4), sx32 (nmV xs (10 + 16 * (k : Int)) 4), sx32 (nmV xs (14 + 16 * (k : Int)) 4)⟩) := by
        show axAt xs k = _
        rw [axAt, show ((2 + 16 * k : Nat) : Int) = 2 + 16 * (k : Int) by omega, show ((6 + 16 * k : Nat) : Int) = 6 + 16 * (k : Int) by omega, show ((10 + 16 * k : Nat) : Int) = 10 + 16 * (k : Int) by omega, show ((14 + 16 * k : Nat) : Int) = 14 + 16 * (k : Int) by omega]
      have HTZ : Hid ((tgV xs (2 + 16 * (k : Int))).size ≤ maxLen) := tgV_sizeA xs _
      have HZ1 : Hid (I64 (sx32 (nmV xs (6 + 16 * (k : Int)) 4))) := sx32_i64 hbyt _
      have HZ2 : Hid (I64 (sx32 (nmV xs (10 + 16 * (k : Int)) 4))) := sx32_i64 hbyt _
      have HZ3 : Hid (I64 (sx32 (nmV xs (14 + 16 * (k : Int)) 4))) := sx32_i64 hbyt _
      have hB0 := hB.alloc hB.size (.cells #[.string ⟨#[]⟩, .int .i64 0, .int .i64 0, .int .i64 0] 23)
      have hX0 : BxA (wr.alloc (.cells #[.string ⟨#[]⟩, .int .i64 0, .int .i64 0, .int .i64 0] 23)) wr.heap.size (.string ⟨#[]⟩) (.int .i64 0) (.int .i64 0) (.int .i64 0) := heap_alloc_new wr _
      have hR0 := bl1 (w := wr) (.cells #[.string ⟨#[]⟩, .int .i64 0, .int .i64 0, .int .i64 0] 23)
      go_wp2_with fail
      refine (stag_any a cap xs (2 + 16 * (k : Int)) _ (HH.out.below hB0) ⟨by omega, by omega⟩ (by omega)).mono ?_
      rintro e v1 ⟨rfl, hb1⟩
      generalize tgV xs (2 + 16 * (k : Int)) = tx at *
      generalize tgB xs (2 + 16 * (k : Int)) = tq
      have hX1 : BxA v1 wr.heap.size (.string ⟨#[]⟩) (.int .i64 0) (.int .i64 0) (.int .i64 0) := (hb1.block wr.heap.size (by simp)).trans hX0
      have hR1 : Below wr.heap.size wr v1 := hR0.trans (hb1.mono hR0.size)
      obtain ⟨q0, q1, q2, q3, f0, f1, f2, f3⟩ := hX1.cells
      have hX2 := hX1.set0 (.string tx)
      have hR2 : Below wr.heap.size wr (v1.setCell ⟨wr.heap.size, 0, none⟩ (.string tx)) := hR1.setCell (p := ⟨wr.heap.size, 0, none⟩) (Nat.le_refl _) _
      have hB2 := hB.trans (hR2.mono hB.size)
      clear hb1 hX0 hX1 hR0 hR1 q1 q2 q3 f1 f2 f3 hB0
      go_wp2_with fail
      generalize v1.setCell ⟨wr.heap.size, 0, none⟩ (.string tx) = v2 at *
      refine (si32_any a cap xs (6 + 16 * (k : Int)) _ (HH.out.below hB2) ⟨by omega, by omega⟩).mono ?_
      rintro e v2' ⟨rfl, rfl⟩
      generalize sx32 (nmV xs (6 + 16 * (k : Int)) 4) = z1 at *
      generalize inB xs.length (6 + 16 * (k : Int)) 4 = b1
      clear q0 f0
      obtain ⟨q0, q1, q2, q3, f0, f1, f2, f3⟩ := hX2.cells
      have hX3 := hX2.set1 (.int .i64 z1)
      have hR3 : Below wr.heap.size wr (v2.setCell ⟨wr.heap.size, 1, none⟩ (.int .i64 z1)) := hR2.setCell (p := ⟨wr.heap.size, 1, none⟩) (Nat.le_refl _) _
      have hB3 := hB.trans (hR3.mono hB.size)
      clear q0 q2 q3 f0 f2 f3 hX2 hR2 hB2
      go_wp2_with fail
      generalize v2.setCell ⟨wr.heap.size, 1, none⟩ (.int .i64 z1) = v3 at *
      refine (si32_any a cap xs (10 + 16 * (k : Int)) _ (HH.out.below hB3) ⟨by omega, by omega⟩).mono ?_
      rintro e v3' ⟨rfl, rfl⟩
      generalize sx32 (nmV xs (10 + 16 * (k : Int)) 4) = z2 at *
      generalize inB xs.length (10 + 16 * (k : Int)) 4 = b2
      clear q1 f1
      obtain ⟨q0, q1, q2, q3, f0, f1, f2, f3⟩ := hX3.cells
      have hX4 := hX3.set2 (.int .i64 z2)
      have hR4 : Below wr.heap.size wr (v3.setCell ⟨wr.heap.size, 2, none⟩ (.int .i64 z2)) := hR3.setCell (p := ⟨wr.heap.size, 2, none⟩) (Nat.le_refl _) _
      have hB4 := hB.trans (hR4.mono hB.size)
      clear q0 q1 q3 f0 f1 f3 hX3 hR3 hB3
      go_wp2_with fail
      generalize v3.setCell ⟨wr.heap.size, 2, none⟩ (.int .i64 z2) = v4 at *
      refine (si32_any a cap xs (14 + 16 * (k : Int)) _ (HH.out.below hB4) ⟨by omega, by omega⟩).mono ?_
      rintro e v4' ⟨rfl, rfl⟩
      generalize sx32 (nmV xs (14 + 16 * (k : Int)) 4) = z3 at *
      generalize inB xs.length (14 + 16 * (k : Int)) 4 = b3
      clear q2 f2
      obtain ⟨q0, q1, q2, q3, f0, f1, f2, f3⟩ := hX4.cells
      have hX5 := hX4.set3 (.int .i64 z3)
      have hR5 : Below wr.heap.size wr (v4.setCell ⟨wr.heap.size, 3, none⟩ (.int .i64 z3)) := hR4.setCell (p := ⟨wr.heap.size, 3, none⟩) (Nat.le_refl _) _
      have hB5 := hB.trans (hR5.mono hB.size)
      obtain ⟨r0, r1, r2, r3, _, _, _, _⟩ := hX5.cells
      clear q0 q1 q2 f0 f1 f2 hX4 hR4 hB4 hX5
      have hT5 := (HT.out.below hR5).below (bl1 (.cells #[.string tx, .int .i64 z1, .int .i64 z2, .int .i64 z3] 23))
      have hll : ((List.range k).map (axAt xs)).length + 1 ≤ 1000000 := by simp; omega
      have hsz4 : (v4.setCell ⟨wr.heap.size, 3, none⟩ (.int .i64 z3)).heap.size = v4.heap.size := by simp [World.setCell]
      have hN := heap_alloc_new (v4.setCell ⟨wr.heap.size, 3, none⟩ (.int .i64 z3)) (.cells #[.string tx, .int .i64 z1, .int .i64 z2, .int .i64 z3] 23)
      rw [hsz4] at hN
      have n0 := cell_of_row _ v4.heap.size 0 _ _ (0, 0) hN
      have n1 := cell_of_row _ v4.heap.size 1 _ _ (0, 0) hN
      have n2 := cell_of_row _ v4.heap.size 2 _ _ (0, 0) hN
      have n3 := cell_of_row _ v4.heap.size 3 _ _ (0, 0) hN
      clear hN hsz4
      have hbs : w.heap.size ≤ ((v4.setCell ⟨wr.heap.size, 3, none⟩ (.int .i64 z3)).alloc (.cells #[.string tx, .int .i64 z1, .int .i64 z2, .int .i64 z3] 23)).heap.size := by have := hB5.size; simp at this ⊢; omega
      go_wp2_with (at_builtin; refine wpList_append_ax rfl _ _ rfl w.heap.size _ ((List.range k).map (axAt xs)) rfl hT5 v4.heap.size ⟨tx, z1, z2, z3⟩ rfl n0 n1 n2 n3 ⟨HTZ.out, HZ1.out, HZ2.out, HZ3.out⟩ hll hbs ?_)
      intro v' w9 hT9 hgrow
      have hB9 : Below w.heap.size w w9 := (hB5.alloc hB5.size _).grown hgrow hbs (fun k hk => HT.out.lo hk)
      have HT9 : Hid (Ao w.heap.size w9 v' ((List.range (k + 1)).map (axAt xs))) := by
        show Ao _ _ _ _
        rw [axR_snoc, HTB.out]
        exact hT9
      clear hgrow hT5 hT9 n0 n1 n2 n3 r0 r1 r2 r3 hbs hR5 hB5
      go_wp2
      go_roundw
      case rel => exact ⟨k + 1, by omega, by go_num, HT9.out, hB9⟩
      case measure => simp [intOf]; omega
    · obtain rfl : k = n := by omega
      have hts := HTS.out
      rw [← HAR.out] at hts
      have hln : (axR xs).length = k := by rw [axR_len, HN.out]
      have hF := sformedA_any a2 c2 (axR xs) wr hts
      rw [hln] at hF
      have HLN : Hid ((axR xs).length = k) := hln
      have HT9 : Hid (As wr a2 c2 (axR xs)) := hts
      clear hts hln
      cases hfr : frA (axR xs) with
      | true =>
        have E1 : Hid (rdE xs = 0) := by show _ = _; rw [HE.out, HRBE.out, hfr]; rfl
        have E2 : Hid (rdL xs = axR xs) := by show _ = _; rw [HL.out, HRBE.out, hfr]; rfl
        rw [hfr] at hF
        clear hfr
        go_wp2_with fail
        refine hF.mono ?_
        rintro e u ⟨rfl, hb⟩
        have hB9 := hB.trans (hb.mono hB.size)
        go_wp2
        go_ret2
        exact ⟨a2, c2, by rw [E1.out, E2.out, HLN.out]; rfl, by rw [E2.out]; exact HT9.out.below hb, hB9⟩
      | false =>
        have E1 : Hid (rdE xs = 2) := by show _ = _; rw [HE.out, HRBE.out, hfr]; rfl
        have E2 : Hid (rdL xs = []) := by show _ = _; rw [HL.out, HRBE.out, hfr]; rfl
        rw [hfr] at hF
        clear hfr
        go_wp2_with fail
        refine hF.mono ?_
        rintro e u ⟨rfl, hb⟩
        have hB9 := hB.trans (hb.mono hB.size)
        go_wp2
        go_ret2
        exact ⟨none, 0, by rw [E1.out, E2.out]; rfl, by rw [E2.out]; exact As.nil _ _ _ (Nat.zero_le _), hB9⟩

end Go.Proofs.YtanppgmhlcifiaaGreatDoor

namespace Go.Proofs.YtanppgmhlcifiaaGreatDoor
open Go.RowKit Go.Maps
set_option linter.unusedSimpArgs false
set_option linter.unusedVariables false

theorem pc_newA (w : World) (G : Nat → Prop) (hG : ∀ k, G k → k < w.heap.size) : Pc (w.alloc (.cells #[.slice none 0 0, .int .i64 0, .map none, .bool false] 69)) w.heap.size G St.zero := by
  refine ⟨fun k hk => by have := hG k hk; simp; omega, fun h => by have := hG _ h; omega, Wf.zero, .slice none 0 0, .map none, heap_alloc_new w _, (fun h => by cases h), fun _ => ⟨⟨World.ownsRow_nil _ 0 _ 1, fun g hg => by cases hg⟩, .inl ⟨rfl, rfl⟩⟩⟩
theorem Pc.moreA {w : World} {B : Nat} {G : Nat → Prop} {s : St} (h : Pc w B G s) (o : Obj) : Pc (w.alloc o) B (fun k => G k ∨ k = w.heap.size) s := by
  refine h.guard_new (by simp) (fun k hk _ => (bl1 o).block k hk) ?_
  rintro k (hk | rfl)
  · exact ⟨by have := h.1 k hk; simp; omega, fun _ => hk⟩
  · exact ⟨by simp, fun hlt => absurd hlt (Nat.lt_irrefl _)⟩
theorem BxA.kept {G : Nat → Prop} {w w' : World} {g : Nat} {a b c d : Value} (h : BxA w g a b c d) (hk : Keep G w w') (hg : G g) : BxA w' g a b c d := (hk.block g hg).trans h

set_option maxHeartbeats 2000000 in
set_option maxRecDepth 100000 in
theorem cwrite_any (a : Option Addr) (cap : Nat) (l : List Ax) (w : World) (h : As w a cap l) :
    Calls Tryz.prog 12 #[.slice a l.length cap] w fun e w' => ∃ a' cap', e = .returned (.tuple #[.slice a' (wrB l).length cap', .int .i64 (wrE l)]) ∧ Rb w' a' cap' (wrB l) ∧ Below w.heap.size w w' := by
  have k1 := h.1
  have k2 := h.2.1
  unfold maxLen at k2
  by_cases hfr : frA l = true
  rotate_left
  · have hfr : frA l = false := by simpa using hfr
    have e1 : Hid (wrE l = 1) := by show wrE l = 1; simp [wrE, hfr]
    have e2 : Hid (wrB l = []) := by show wrB l = []; simp [wrB, hfr]
    go_enter Tryz.func12, Tryz.ntmps12
    go_wp2_with fail
    refine (cformed_any a cap l _ h).mono ?_
    rintro e u ⟨rfl, hb⟩
    rw [hfr]
    go_wp2
    go_ret2
    exact ⟨none, 0, by rw [e1.out, e2.out]; rfl, by rw [e2.out]; exact Rb.nil _ _ _ (Nat.zero_le _) (fun _ => rfl), hb⟩
  have hf := frA_iff.1 hfr
  have HF : Hid (FrA l) := hf
  have hn := hf.1
  have HE1 : Hid (wrE l = 0) := by show wrE l = 0; simp [wrE, hfr]
  have HE2 : Hid (wrB l = axB l) := by show wrB l = axB l; simp [wrB, hfr]
  go_enter Tryz.func12, Tryz.ntmps12
  go_wp2_with fail
  refine (cformed_any a cap l _ h).mono ?_
  rintro e u ⟨rfl, hb⟩
  rw [hfr]
  have hA := h.below hb
  have HA : Hid (As u a cap l) := hA
  have hP0 := pc_newA u (· < u.heap.size) (fun _ h => h)
  have hB0 := bl1 (w := u) (.cells #[.slice none 0 0, .int .i64 0, .map none, .bool false] 69)
  clear h hA hfr hf
  go_wp2_with fail
  refine (put16_any u.heap.size _ _ (l.length : Int) _ hP0 ⟨by omega, by omega⟩ (by decide)).mono ?_
  rintro e u1 ⟨rfl, hP1, hK1⟩
  rw [show St.zero = ⟨[], [], false⟩ from rfl, put16A (by omega) (by omega)] at hP1
  have hB1 : Below u.heap.size u u1 := hB0.trans (hK1.below (fun k hk => hk))
  have hI : Pc u1 u.heap.size (· < u.heap.size) (stW l 0) := by
    simpa [stW, axs] using hP1
  clear hP0 hP1 hK1 hB0
  generalize hBB : u.heap.size = B at *
  have HBB : Hid (u.heap.size = B) := hBB
  clear hBB
  go_wp2
  go_loopw [18] (fun i wr => ∃ k : Nat, k ≤ l.length ∧ i = .int .i64 k ∧ Pc wr B (· < B) (stW l k) ∧ Below B u wr) (fun i _ => l.length - (intOf i).toNat)
  case atStart => exact ⟨0, Nat.zero_le _, rfl, hI, hB1⟩
  case round =>
    obtain ⟨k, hk, rfl, hP, hB⟩ := hrel
    by_cases hkn : k < l.length
    · have at_ := HA.out.at (wr := wr) (by rw [HBB.out]; exact hB) k hkn
      have hw := HA.out.w hkn
      have ho := onA_iff.1 (HF.out.2.1 _ (getA_mem hkn))
      obtain ⟨s, hs⟩ : ∃ s, l.getD k Ax.none = s := ⟨_, rfl⟩
      rw [hs] at at_ hw ho
      obtain ⟨tx, lo, us, hi⟩ := s
      dsimp only at at_ ho
      obtain ⟨hgd, o1, o2, o3, o4⟩ := ho
      have htx : tx.size ≤ maxLen := hw.1
      obtain ⟨b0, hb0⟩ : ∃ b0, be2 (l.length : Nat) ++ axs (l.take k) = b0 := ⟨_, rfl⟩
      have HLN : Hid (b0.length = 2 + 16 * k) := by show b0.length = _; rw [← hb0]; exact stW_len HF.out hk
      have HG4 : Hid ((sb tx).length = 4) := gdA_len hgd
      have HSU : Hid (_) := stW_succ hkn hs hb0
      rw [stW, hb0] at hP
      obtain ⟨b, off, ea, hbB, d0, d1, d2, d3⟩ := at_
      subst ea
      have hwz : B ≤ wr.heap.size := by have := hB.size; rw [HBB.out] at this; exact this
      have hP1 := hP.moreA (.cells #[.string tx, .int .i64 lo, .int .i64 us, .int .i64 hi] 23)
      have hX1 := BxA.new wr (.string tx) (.int .i64 lo) (.int .i64 us) (.int .i64 hi)
      have hBa := hB.alloc hwz (.cells #[.string tx, .int .i64 lo, .int .i64 us, .int .i64 hi] 23)
      clear hw hs hb0 hI hP hB
      go_wp2_with fail
      generalize wr.alloc (.cells #[.string tx, .int .i64 lo, .int .i64 us, .int .i64 hi] 23) = v1 at *
      clear d0 d1 d2 d3
      generalize wr.heap.size = g at *
      refine (putTag_any B _ _ tx _ hP1 htx (by have := HLN.out; show b0.length + 4 ≤ _; omega)).mono ?_
      rintro e u2 ⟨rfl, hP2, hK2⟩
      rw [tagA hgd] at hP2
      have hB2 := hBa.trans (hK2.below (fun k hk => .inl hk))
      have hX2 := hX1.kept hK2 (.inr rfl)
      obtain ⟨d0, d1, d2, d3, _⟩ := hX2.cells
      clear hP1 hK2 hX1 hBa
      go_wp2_with fail
      refine (put32_any B _ _ lo _ hP2 ⟨by omega, by omega⟩ (by have := HLN.out; have := HG4.out; simp; omega)).mono ?_
      rintro e u3 ⟨rfl, hP3, hK3⟩
      rw [put32A (by omega) (by omega)] at hP3
      have hB3 := hB2.trans (hK3.below (fun k hk => .inl hk))
      have hX3 := hX2.kept hK3 (.inr rfl)
      clear d0 d1 d2 d3
      obtain ⟨d0, d1, d2, d3, _⟩ := hX3.cells
      clear hP2 hK3 hX2 hB2
      go_wp2_with fail
      refine (put32_any B _ _ us _ hP3 ⟨by omega, by omega⟩ (by have := HLN.out; have := HG4.out; simp [be4]; omega)).mono ?_
      rintro e u4 ⟨rfl, hP4, hK4⟩
      rw [put32A (by omega) (by omega)] at hP4
      have hB4 := hB3.trans (hK4.below (fun k hk => .inl hk))
      have hX4 := hX3.kept hK4 (.inr rfl)
      clear d0 d1 d2 d3
      obtain ⟨d0, d1, d2, d3, _⟩ := hX4.cells
      clear hP3 hK4 hX3 hB3
      go_wp2_with fail
      refine (put32_any B _ _ hi _ hP4 ⟨by omega, by omega⟩ (by have := HLN.out; have := HG4.out; simp [be4]; omega)).mono ?_
      rintro e u5 ⟨rfl, hP5, hK5⟩
      rw [put32A (by omega) (by omega), ← HSU.out] at hP5
      have hB5 := hB4.trans (hK5.below (fun k hk => .inl hk))
      have hP6 : Pc u5 B (· < B) (stW l (k + 1)) := hP5.guard (fun k hk => ⟨hP5.1 k (.inl hk), .inl hk⟩)
      clear hP4 hK5 hX4 hB4 hP5 d0 d1 d2 d3
      go_wp2
      go_roundw
      case rel => exact ⟨k + 1, by omega, by go_num, hP6, hB5⟩
      case measure => simp [intOf]; omega
    · obtain rfl : k = l.length := by omega
      have hl := stW_len HF.out (Nat.le_refl _)
      have hall := all_any B _ _ _ hP (by show (be2 (l.length : Nat) ++ axs (l.take l.length)).length ≤ _; omega)
      have ea : allB (stW l l.length) = axB l := by simp [allB, stW, axB]
      have eb : allE (stW l l.length) = 0 := rfl
      rw [ea, eb] at hall
      have hbw := hb.size
      rw [HBB.out] at hbw
      have hBw : Below w.heap.size w wr := hb.trans (hB.mono hbw)
      clear hI hP ea eb hl
      generalize axB l = fl at *
      go_wp2_with fail
      refine hall.mono ?_
      rintro e u9 ⟨a9, c9, rfl, hr9, hb9⟩
      have hB9 := hBw.trans (hb9.mono hBw.size)
      clear hall
      go_wp2
      go_ret2
      exact ⟨a9, c9, by rw [HE1.out, HE2.out]; rfl, by rw [HE2.out]; exact hr9.rd, hB9⟩

/-- The axis whose bytes begin at a place. -/
def axP (xs : List Nat) (p : Int) : Ax := ⟨tgV xs p, sx32 (nmV xs (p + 4) 4), sx32 (nmV xs (p + 8) 4), sx32 (nmV xs (p + 12) 4)⟩
theorem axP_at (xs : List Nat) (k : Nat) : axP xs (2 + 16 * (k : Int)) = axAt xs k := by
  rw [axP, axAt, show ((2 + 16 * k : Nat) : Int) = 2 + 16 * (k : Int) by omega, show ((6 + 16 * k : Nat) : Int) = 2 + 16 * (k : Int) + 4 by omega, show ((10 + 16 * k : Nat) : Int) = 2 + 16 * (k : Int) + 8 by omega, show ((14 + 16 * k : Nat) : Int) = 2 + 16 * (k : Int) + 12 by omega]

set_option maxHeartbeats 1000000 in
set_option maxRecDepth 100000 in
theorem axisAt_any (a : Option Addr) (cap : Nat) (xs : List Nat) (p : Int) (w : World) (h : Rb w a cap xs) (hp1 : 0 ≤ p) (hp2 : p ≤ 1000000000) (hl : xs.length ≤ 1000000000) :
    Calls Tryz.prog 49 #[.slice a xs.length cap, .int .i64 p] w fun e w' => e = .returned (.agg (axC (axP xs p))) ∧ Below w.heap.size w w' := by
  unfold axC axP
  dsimp only
  obtain ⟨tx, e0⟩ : ∃ x, tgV xs p = x := ⟨_, rfl⟩
  obtain ⟨z1, e1⟩ : ∃ x, sx32 (nmV xs (p + 4) 4) = x := ⟨_, rfl⟩
  obtain ⟨z2, e2⟩ : ∃ x, sx32 (nmV xs (p + 8) 4) = x := ⟨_, rfl⟩
  obtain ⟨z3, e3⟩ : ∃ x, sx32 (nmV xs (p + 12) 4) = x := ⟨_, rfl⟩
  rw [e0, e1, e2, e3]
  have HV : Hid (tgV xs p = tx ∧ sx32 (nmV xs (p + 4) 4) = z1 ∧ sx32 (nmV xs (p + 8) 4) = z2 ∧ sx32 (nmV xs (p + 12) 4) = z3) := ⟨e0, e1, e2, e3⟩
  clear e0 e1 e2 e3
  have hB := bl1 (w := w) (.cells #[.string ⟨#[]⟩, .int .i64 0, .int .i64 0, .int .i64 0] 23)
  have hX := BxA.new w (.string ⟨#[]⟩) (.int .i64 0) (.int .i64 0) (.int .i64 0)
  have hR := h.below hB
  go_enter Tryz.func49, Tryz.ntmps49
  go_wp2_with fail
  generalize w.alloc (.cells #[.string ⟨#[]⟩, .int .i64 0, .int .i64 0, .int .i64 0] 23) = v0 at *
  refine (tag_any a cap xs p _ hR ⟨by omega, by omega⟩ hl).mono ?_
  rintro e v1 ⟨rfl, hb1⟩
  rw [HV.out.1]
  generalize tgB xs p = tq at *
  have hX1 := hX.below hb1
  have hR1 := hR.below hb1
  have hB1 := hB.trans (hb1.mono hB.size)
  clear hX hR hB hb1 h
  go_wp2_with fail
  refine (i32_any a cap xs (p + 4) _ hR1 ⟨by omega, by omega⟩).mono ?_
  rintro e v2 ⟨rfl, rfl⟩
  rw [HV.out.2.1]
  generalize inB xs.length (p + 4) 4 = b1 at *
  go_wp2_with fail
  refine (i32_any a cap xs (p + 8) _ hR1 ⟨by omega, by omega⟩).mono ?_
  rintro e v3 ⟨rfl, rfl⟩
  rw [HV.out.2.2.1]
  generalize inB xs.length (p + 8) 4 = b2 at *
  go_wp2_with fail
  refine (i32_any a cap xs (p + 12) _ hR1 ⟨by omega, by omega⟩).mono ?_
  rintro e v4 ⟨rfl, rfl⟩
  rw [HV.out.2.2.2]
  generalize inB xs.length (p + 12) 4 = b3 at *
  obtain ⟨q0, q1, q2, q3, f0, f1, f2, f3⟩ := hX1.cells
  have hs := hX1.lt
  clear hR1
  go_wp2
  refine retA (v := .agg #[.string tx, .int .i64 z1, .int .i64 z2, .int .i64 z3]) hX1 rfl (fun U hU => by obtain ⟨r1, r2, r3, r4, _⟩ := hU.cells; simp [results, Tryz.results49, go_sem, r1, r2, r3, r4]) (fun U hU => ⟨rfl, hU _ _ hB1 (by omega)⟩)

end Go.Proofs.YtanppgmhlcifiaaGreatDoor

namespace Go.Proofs.YtanppgmhlcifiaaGreatDoor
open Go.RowKit Go.Maps
set_option linter.unusedSimpArgs false
set_option linter.unusedVariables false

theorem rdB_code (xs : List Nat) : rdB xs = (inB xs.length 0 2 && (decide (xs.length = 2 + 16 * nmV xs 0 2) && frA (axR xs))) := by
  rw [rdB, okR]
  by_cases h : nmV xs 0 2 ≤ 4
  · rw [decide_eq_true h, Bool.true_and, Bool.and_assoc]
  · have hf : frA (axR xs) = false := frA_no (fun hh => h (by have := hh.1; rwa [axR_len] at this))
    rw [hf]
    simp
theorem axL_nil : axL [] = [] := rfl

set_option maxHeartbeats 3000000 in
set_option maxRecDepth 100000 in
theorem cread_any (a : Option Addr) (cap : Nat) (xs : List Nat) (w : World) (h : Rb w a cap xs) (hlx : xs.length ≤ 1000000000) :
    Calls Tryz.prog 14 #[.slice a xs.length cap] w fun e w' => ∃ a' cap', e = .returned (.tuple #[.slice a' (rdL xs).length cap', .int .i64 (rdE xs)]) ∧ As w' a' cap' (rdL xs) ∧ Below w.heap.size w w' := by
  have k1 := h.le
  have k2 := h.cap
  unfold maxLen at k2
  have HH : Hid (Rb w a cap xs) := h
  have hnb := nmV_lt h.lim 0 2
  have HRB : Hid (rdB xs = (inB xs.length 0 2 && (decide (xs.length = 2 + 16 * nmV xs 0 2) && frA (axR xs)))) := rdB_code xs
  have HBAD : Hid (rdB xs = false → rdE xs = 2 ∧ rdL xs = []) := by
    show rdB xs = false → _
    intro e
    exact ⟨by simp [rdE, e], by simp [rdL, e]⟩
  have HAR : Hid (axR xs = (List.range (nmV xs 0 2)).map (axAt xs)) := rfl
  obtain ⟨n, hn⟩ : ∃ n, nmV xs 0 2 = n := ⟨_, rfl⟩
  rw [hn] at hnb HRB HAR
  have HN : Hid (nmV xs 0 2 = n) := hn
  have hnb' : n < 65536 := hnb
  have hu := u16_any a cap xs 0 w h ⟨by decide, by decide⟩
  rw [hn] at hu
  have hbyt := h.lim
  clear hn h hnb
  have hc : inB xs.length 0 2 = false ∨ (inB xs.length 0 2 = true ∧ xs.length ≠ 2 + 16 * n) ∨ (inB xs.length 0 2 = true ∧ xs.length = 2 + 16 * n) := by
    cases inB xs.length 0 2 with
    | false => exact .inl rfl
    | true =>
      by_cases h5 : xs.length = 2 + 16 * n
      · exact .inr (.inr ⟨rfl, h5⟩)
      · exact .inr (.inl ⟨rfl, h5⟩)
  rcases hc with hi | ⟨hi, h5⟩ | ⟨hi, h5⟩
  · obtain ⟨e1, e2⟩ := HBAD.out (by rw [HRB.out, hi]; rfl)
    have E1 : Hid (rdE xs = 2) := e1
    have E2 : Hid (rdL xs = []) := e2
    clear e1 e2
    go_enter Tryz.func14, Tryz.ntmps14
    go_wp2_with fail
    refine hu.mono ?_
    rintro e u ⟨rfl, rfl⟩
    rw [hi]
    go_wp2
    go_ret2
    exact ⟨none, 0, by rw [E1.out, E2.out]; rfl, by rw [E2.out]; exact As.nil _ _ _ (Nat.zero_le _), Below.refl _ _⟩
  · obtain ⟨e1, e2⟩ := HBAD.out (by rw [HRB.out, hi, decide_eq_false h5]; rfl)
    have E1 : Hid (rdE xs = 2) := e1
    have E2 : Hid (rdL xs = []) := e2
    have g2 : ((xs.length : Int) != 2 + (n : Int) * 16) = true := by simp; omega
    clear e1 e2
    go_enter Tryz.func14, Tryz.ntmps14
    go_wp2_with fail
    refine hu.mono ?_
    rintro e u ⟨rfl, rfl⟩
    rw [hi]
    go_wp2
    go_ret2
    exact ⟨none, 0, by rw [E1.out, E2.out]; rfl, by rw [E2.out]; exact As.nil _ _ _ (Nat.zero_le _), Below.refl _ _⟩
  have g2 : ((xs.length : Int) != 2 + (n : Int) * 16) = false := by simp; omega
  have HRBE : Hid (rdB xs = frA (axR xs)) := by show _ = _; rw [HRB.out, hi, decide_eq_true h5]; rfl
  have HE : Hid (rdE xs = if rdB xs then 0 else 2) := rfl
  have HL : Hid (rdL xs = if rdB xs then axR xs else []) := rfl
  have H5 : Hid (xs.length = 2 + 16 * n) := h5
  rw [hi] at hu
  obtain ⟨i0, hi0, hz0, hz1, hz2⟩ := info_parts info_ax
  obtain ⟨w1, hmk, hown, hgrow⟩ := run_makeSlice_owned w w.heap.size 39 23 i0 _ 4 Tryz.underlying39 hi0 hz0 hz1 .i64 .i64 n (by omega) (by rw [hz2]; omega) (by unfold maxLen; omega) (Nat.le_refl _)
  have hAo : Ao w.heap.size w1 (.slice (some ⟨w.heap.size, 0, none⟩) 0 n) [] := ⟨fun t ht => (by cases ht), hown⟩
  have hB1 : Below w.heap.size w w1 := (Below.refl _ _).grown hgrow (Nat.le_refl _) (fun k hk => by cases hk)
  clear hi h5 hown hgrow hi0 hz0 hz1 hz2
  go_enter Tryz.func14, Tryz.ntmps14
  go_wp2_with fail
  refine hu.mono ?_
  rintro e u ⟨rfl, rfl⟩
  clear hu
  go_wp2
  go_loopw [6, 7] (fun v i wr => ∃ k : Nat, k ≤ n ∧ i = .int .i64 (2 + 16 * (k : Int)) ∧ Ao w.heap.size wr v ((List.range k).map (axAt xs)) ∧ Below w.heap.size w wr) (fun _ i _ => xs.length - (intOf i).toNat)
  case atStart => exact ⟨0, Nat.zero_le _, rfl, hAo, hB1⟩
  case round =>
    obtain ⟨k, hk, rfl, hT, hB⟩ := hrel
    obtain ⟨a2, c2, rfl, hts⟩ := hT.slice
    have hlen : ((List.range k).map (axAt xs)).length = k := by simp
    rw [hlen] at hT ⊢
    have HT : Hid (Ao w.heap.size wr (.slice a2 k c2) ((List.range k).map (axAt xs))) := hT
    have HTS : Hid (As wr a2 c2 ((List.range k).map (axAt xs))) := hts
    clear hT hts hlen hAo hB1 hmk
    obtain ⟨m, hm⟩ : ∃ m, xs.length = m := ⟨_, rfl⟩
    have HM : Hid (xs.length = m) := hm
    have h5a : m ≤ 2 + 16 * n := by have := H5.out; omega
    have h5b : 2 + 16 * n ≤ m := by have := H5.out; omega
    rw [hm] at g2 hlx k1 ⊢
    clear hm
    by_cases hkn : k < n
    · have gg : 2 + 16 * (k : Int) < (m : Int) := by omega
      have hat := fun W hW => axisAt_any a cap xs (2 + 16 * (k : Int)) W hW (by omega) (by omega) (by rw [HM.out]; exact hlx)
      have HTZ : Hid (Axw (axAt xs k)) := ⟨tgV_sizeA xs _, sx32_i64 hbyt _, sx32_i64 hbyt _, sx32_i64 hbyt _⟩
      simp only [axP_at] at hat
      obtain ⟨t, ht⟩ : ∃ t, axAt xs k = t := ⟨_, rfl⟩
      have HTB : Hid (axAt xs k = t) := ht
      rw [ht] at hat HTZ
      clear ht
      obtain ⟨tx, z1, z2, z3⟩ := t
      unfold axC at hat
      dsimp only at hat
      rw [HM.out] at hat
      go_wp2_with fail
      refine (hat _ (HH.out.below hB)).mono ?_
      rintro e v4 ⟨rfl, hb4⟩
      have hT5 := (HT.out.below hb4).below (bl1 (.cells #[.string tx, .int .i64 z1, .int .i64 z2, .int .i64 z3] 23))
      have hB5 := hB.trans (hb4.mono hB.size)
      have hll : ((List.range k).map (axAt xs)).length + 1 ≤ 1000000 := by simp; omega
      have hN := heap_alloc_new v4 (.cells #[.string tx, .int .i64 z1, .int .i64 z2, .int .i64 z3] 23)
      have n0 := cell_of_row _ v4.heap.size 0 _ _ (0, 0) hN
      have n1 := cell_of_row _ v4.heap.size 1 _ _ (0, 0) hN
      have n2 := cell_of_row _ v4.heap.size 2 _ _ (0, 0) hN
      have n3 := cell_of_row _ v4.heap.size 3 _ _ (0, 0) hN
      clear hN hat hb4
      have hbs : w.heap.size ≤ (v4.alloc (.cells #[.string tx, .int .i64 z1, .int .i64 z2, .int .i64 z3] 23)).heap.size := by have := hB5.size; simp at this ⊢; omega
      go_wp2_with (at_builtin; refine wpList_append_ax rfl _ _ rfl w.heap.size _ ((List.range k).map (axAt xs)) rfl hT5 v4.heap.size ⟨tx, z1, z2, z3⟩ rfl n0 n1 n2 n3 HTZ.out hll hbs ?_)
      intro v' w9 hT9 hgrow
      have hB9 : Below w.heap.size w w9 := (hB5.alloc hB5.size _).grown hgrow hbs (fun k hk => HT.out.lo hk)
      have HT9 : Hid (Ao w.heap.size w9 v' ((List.range (k + 1)).map (axAt xs))) := by
        show Ao _ _ _ _
        rw [axR_snoc, HTB.out]
        exact hT9
      clear hgrow hT5 hT9 n0 n1 n2 n3 hbs hB5
      go_wp2
      go_roundw
      case rel => exact ⟨k + 1, by omega, by go_num, HT9.out, hB9⟩
      case measure => simp [intOf]; omega
    · obtain rfl : k = n := by omega
      have gg : ¬ 2 + 16 * (k : Int) < (m : Int) := by omega
      have hts := HTS.out
      rw [← HAR.out] at hts
      have hln : (axR xs).length = k := by rw [axR_len, HN.out]
      have hF := cformed_any a2 c2 (axR xs) wr hts
      rw [hln] at hF
      have HLN : Hid ((axR xs).length = k) := hln
      have HT9 : Hid (As wr a2 c2 (axR xs)) := hts
      clear hts hln
      cases hfr : frA (axR xs) with
      | true =>
        have E1 : Hid (rdE xs = 0) := by show _ = _; rw [HE.out, HRBE.out, hfr]; rfl
        have E2 : Hid (rdL xs = axR xs) := by show _ = _; rw [HL.out, HRBE.out, hfr]; rfl
        rw [hfr] at hF
        clear hfr
        go_wp2_with fail
        refine hF.mono ?_
        rintro e u ⟨rfl, hb⟩
        have hB9 := hB.trans (hb.mono hB.size)
        go_wp2
        go_ret2
        exact ⟨a2, c2, by rw [E1.out, E2.out, HLN.out]; rfl, by rw [E2.out]; exact HT9.out.below hb, hB9⟩
      | false =>
        have E1 : Hid (rdE xs = 2) := by show _ = _; rw [HE.out, HRBE.out, hfr]; rfl
        have E2 : Hid (rdL xs = []) := by show _ = _; rw [HL.out, HRBE.out, hfr]; rfl
        rw [hfr] at hF
        clear hfr
        go_wp2_with fail
        refine hF.mono ?_
        rintro e u ⟨rfl, hb⟩
        have hB9 := hB.trans (hb.mono hB.size)
        go_wp2
        go_ret2
        exact ⟨none, 0, by rw [E1.out, E2.out]; rfl, by rw [E2.out]; exact As.nil _ _ _ (Nat.zero_le _), hB9⟩

end Go.Proofs.YtanppgmhlcifiaaGreatDoor

namespace Go.Proofs.YtanppgmhlcifiaaGreatDoor
open Go.RowKit Go.Maps
set_option linter.unusedSimpArgs false
set_option linter.unusedVariables false
set_option maxHeartbeats 1000000 in
set_option maxRecDepth 100000 in
theorem ssameA_any (a b : Option Addr) (ca cb : Nat) (l : List Ax) (w : World) (ha : As w a ca l) (hb : As w b cb l) :
    Calls Tryz.prog 17 #[.slice a l.length ca, .slice b l.length cb] w fun e w' => e = .returned (.bool true) ∧ Below w.heap.size w w' := by
  have k1 := ha.1
  have k2 := ha.2.1
  unfold maxLen at k2
  have hne : ((l.length : Int) != (l.length : Int)) = false := by simp
  have HA : Hid (As w a ca l) := ha
  have HB : Hid (As w b cb l) := hb
  clear ha hb
  go_enter Tryz.func17, Tryz.ntmps17
  go_wp2
  go_loopw [5] (fun i wr => ∃ k : Nat, k ≤ l.length ∧ i = .int .i64 k ∧ Below w.heap.size w wr) (fun i _ => l.length - (intOf i).toNat)
  case atStart => exact ⟨0, Nat.zero_le _, rfl, Below.refl _ _⟩
  case round =>
    obtain ⟨k, hk, rfl, hnx⟩ := hrel
    by_cases hkn : k < l.length
    · obtain ⟨b1, o1, rfl, _, c0, c1, c2, c3⟩ := HA.out.at hnx k hkn
      obtain ⟨b2, o2, rfl, _, d0, d1, d2, d3⟩ := HB.out.at hnx k hkn
      generalize l.getD k Ax.none = s at *
      obtain ⟨tx, lo, us, hi⟩ := s
      dsimp only at *
      have htt : (tx.toList == tx.toList) = true := by simp
      have i1 : (0 : Int) ≤ (k : Int) := by omega
      have i2 : (k : Int) < (l.length : Int) := by omega
      go_wp2_with fail
      go_quiet (fail)
      go_wp2
      go_roundw
      case rel => exact ⟨k + 1, by omega, by go_num, below_drewN hnx _⟩
      case measure => simp [intOf]; omega
    · go_wp2
      go_ret
      exact ⟨rfl, hnx⟩

end Go.Proofs.YtanppgmhlcifiaaGreatDoor
