/-
  foundryref06: Write: the walk.
  foundryref06: Read, Same, SameInts: the walks.
  axes.Write, axes.axisAt: the walks.
  axes.Read: the walk.
  axes.clamped: the walk.
-/
import Derived.Test.YtanppgmhlcifiaaDoorZ16
import Derived.Test.YtanppgmhlcifiaaDoorZ12
import Derived.Laws.MakeOwn
import Derived.Test.YtanppgmhlcifiaaDoorZ15
namespace Go.Proofs.YtanppgmhlcifiaaDoor
open Go.RowKit Go.Maps
set_option linter.unusedSimpArgs false
set_option linter.unusedVariables false

/-- A page with k axes. -/
def stW (l : List Ax) (k : Nat) : St := ⟨be2 (l.length : Nat) ++ axs (l.take k), [], false⟩
theorem stW_len {l : List Ax} {k : Nat} (h : FrA l) (hk : k ≤ l.length) : (be2 (l.length : Nat) ++ axs (l.take k)).length = 2 + 16 * k := by
  rw [List.length_append, axs_len (fun t ht => h.tag (List.mem_of_mem_take ht)), List.length_take_of_le hk]
  rfl
theorem put32A {bs : List Nat} {ws : List Int} {n : Int} (h1 : -2147483648 ≤ n) (h2 : n ≤ 4294967295) : (St.mk bs ws false).put32 n = ⟨bs ++ be4 n, ws, false⟩ := by simp [St.put32, h1, h2, St.app]
theorem put16A {bs : List Nat} {ws : List Int} {n : Int} (h1 : -32768 ≤ n) (h2 : n ≤ 65535) : (St.mk bs ws false).put16 n = ⟨bs ++ be2 n, ws, false⟩ := by simp [St.put16, h1, h2, St.app]
theorem tagA {bs : List Nat} {ws : List Int} {xs : List Nat} (h : gd xs = true) : (St.mk bs ws false).tag xs = ⟨bs ++ xs, ws, false⟩ := by simp [St.tag, h, St.app]
theorem stW_succ {l : List Ax} {k : Nat} {tx : ByteArray} {lo us hi : Int} (hk : k < l.length) (ht : l.getD k Ax.none = ⟨tx, lo, us, hi⟩) {b0 : List Nat} (hb : be2 (l.length : Nat) ++ axs (l.take k) = b0) :
    stW l (k + 1) = ⟨b0 ++ sb tx ++ be4 lo ++ be4 us ++ be4 hi, [], false⟩ := by
  rw [stW, takeA_succ hk, ht, axs_append, axs, axs, axE, ← hb]
  simp
end Go.Proofs.YtanppgmhlcifiaaDoor

namespace Go.Proofs.YtanppgmhlcifiaaDoor
open Go.RowKit Go.Maps
set_option linter.unusedSimpArgs false
set_option linter.unusedVariables false

theorem sx32_i64 {xs : List Nat} (h : Byt xs) (p : Int) : I64 (sx32 (nmV xs p 4)) := by
  have := nmV_lt h p 4
  have h2 : nmV xs p 4 < 4294967296 := this
  unfold sx32 I64
  split <;> omega
theorem tgV_sizeA (xs : List Nat) (p : Int) : (tgV xs p).size ≤ maxLen := by
  unfold tgV
  split
  · rename_i h
    have hi : inB xs.length p 4 = true := by simp [tgB] at h; exact h.1
    rw [size_str8, cutV_yes hi]
    simp [maxLen]
    omega
  · simp [maxLen, ByteArray.size]
theorem axR_snoc (b : List Nat) (k : Nat) : (List.range (k + 1)).map (axAt b) = (List.range k).map (axAt b) ++ [axAt b k] := by
  rw [List.range_succ, List.map_append]
  rfl

end Go.Proofs.YtanppgmhlcifiaaDoor

namespace Go.Proofs.YtanppgmhlcifiaaDoor
open Go.RowKit Go.Maps
set_option linter.unusedSimpArgs false
set_option linter.unusedVariables false

theorem pc_newA (w : World) (G : Nat → Prop) (hG : ∀ k, G k → k < w.heap.size) : Pc (w.alloc (.cells #[.slice none 0 0, .int .i64 0, .map none, .bool false] 60)) w.heap.size G St.zero := by
  refine ⟨fun k hk => by have := hG k hk; simp; omega, fun h => by have := hG _ h; omega, Wf.zero, .slice none 0 0, .map none, heap_alloc_new w _, (fun h => by cases h), fun _ => ⟨⟨World.ownsRow_nil _ 0 _ 1, fun g hg => by cases hg⟩, .inl ⟨rfl, rfl⟩⟩⟩
theorem Pc.moreA {w : World} {B : Nat} {G : Nat → Prop} {s : St} (h : Pc w B G s) (o : Obj) : Pc (w.alloc o) B (fun k => G k ∨ k = w.heap.size) s := by
  refine h.guard_new (by simp) (fun k hk _ => (bl1 o).block k hk) ?_
  rintro k (hk | rfl)
  · exact ⟨by have := h.1 k hk; simp; omega, fun _ => hk⟩
  · exact ⟨by simp, fun hlt => absurd hlt (Nat.lt_irrefl _)⟩
theorem BxA.kept {G : Nat → Prop} {w w' : World} {g : Nat} {a b c d : Value} (h : BxA w g a b c d) (hk : Keep G w w') (hg : G g) : BxA w' g a b c d := (hk.block g hg).trans h

set_option maxHeartbeats 2000000 in
set_option maxRecDepth 100000 in
theorem cwrite_any (a : Option Addr) (cap : Nat) (l : List Ax) (w : World) (h : As w a cap l) :
    Calls Tryd.prog 15 #[.slice a l.length cap] w fun e w' => ∃ a' cap', e = .returned (.tuple #[.slice a' (wrB l).length cap', .int .i64 (wrE l)]) ∧ Rb w' a' cap' (wrB l) ∧ Below w.heap.size w w' := by
  have k1 := h.1
  have k2 := h.2.1
  unfold maxLen at k2
  by_cases hfr : frA l = true
  rotate_left
  · have hfr : frA l = false := by simpa using hfr
    have e1 : Hid (wrE l = 1) := by show wrE l = 1; simp [wrE, hfr]
    have e2 : Hid (wrB l = []) := by show wrB l = []; simp [wrB, hfr]
    go_enter Tryd.func15, Tryd.ntmps15
    go_wp2_with fail
    refine (cformed_any a cap l _ h).mono ?_
    rintro e u ⟨rfl, hb⟩
    rw [hfr]
    go_wp2
    go_ret2
    exact ⟨none, 0, by rw [e1.out, e2.out]; rfl, by rw [e2.out]; exact Rb.nil _ _ _ (Nat.zero_le _) (fun _ => rfl), hb⟩
  have hf := frA_iff.1 hfr
  have HF : Hid (FrA l) := hf
  have hn := hf.1
  have HE1 : Hid (wrE l = 0) := by show wrE l = 0; simp [wrE, hfr]
  have HE2 : Hid (wrB l = axB l) := by show wrB l = axB l; simp [wrB, hfr]
  go_enter Tryd.func15, Tryd.ntmps15
  go_wp2_with fail
  refine (cformed_any a cap l _ h).mono ?_
  rintro e u ⟨rfl, hb⟩
  rw [hfr]
  have hA := h.below hb
  have HA : Hid (As u a cap l) := hA
  have hP0 := pc_newA u (· < u.heap.size) (fun _ h => h)
  have hB0 := bl1 (w := u) (.cells #[.slice none 0 0, .int .i64 0, .map none, .bool false] 60)
  clear h hA hfr hf
  go_wp2_with fail
  refine (put16_any u.heap.size _ _ (l.length : Int) _ hP0 ⟨by omega, by omega⟩ (by decide)).mono ?_
  rintro e u1 ⟨rfl, hP1, hK1⟩
  rw [show St.zero = ⟨[], [], false⟩ from rfl, put16A (by omega) (by omega)] at hP1
  have hB1 : Below u.heap.size u u1 := hB0.trans (hK1.below (fun k hk => hk))
  have hI : Pc u1 u.heap.size (· < u.heap.size) (stW l 0) := by
    simpa [stW, axs] using hP1
  clear hP0 hP1 hK1 hB0
  generalize hBB : u.heap.size = B at *
  have HBB : Hid (u.heap.size = B) := hBB
  clear hBB
  go_wp2
  go_loopw [18] (fun i wr => ∃ k : Nat, k ≤ l.length ∧ i = .int .i64 k ∧ Pc wr B (· < B) (stW l k) ∧ Below B u wr) (fun i _ => l.length - (intOf i).toNat)
  case atStart => exact ⟨0, Nat.zero_le _, rfl, hI, hB1⟩
  case round =>
    obtain ⟨k, hk, rfl, hP, hB⟩ := hrel
    by_cases hkn : k < l.length
    · have at_ := HA.out.at (wr := wr) (by rw [HBB.out]; exact hB) k hkn
      have hw := HA.out.w hkn
      have ho := onA_iff.1 (HF.out.2.1 _ (getA_mem hkn))
      obtain ⟨s, hs⟩ : ∃ s, l.getD k Ax.none = s := ⟨_, rfl⟩
      rw [hs] at at_ hw ho
      obtain ⟨tx, lo, us, hi⟩ := s
      dsimp only at at_ ho
      obtain ⟨hgd, o1, o2, o3, o4⟩ := ho
      have htx : tx.size ≤ maxLen := hw.1
      obtain ⟨b0, hb0⟩ : ∃ b0, be2 (l.length : Nat) ++ axs (l.take k) = b0 := ⟨_, rfl⟩
      have HLN : Hid (b0.length = 2 + 16 * k) := by show b0.length = _; rw [← hb0]; exact stW_len HF.out hk
      have HG4 : Hid ((sb tx).length = 4) := gdA_len hgd
      have HSU : Hid (_) := stW_succ hkn hs hb0
      rw [stW, hb0] at hP
      obtain ⟨b, off, ea, hbB, d0, d1, d2, d3⟩ := at_
      subst ea
      have hwz : B ≤ wr.heap.size := by have := hB.size; rw [HBB.out] at this; exact this
      have hP1 := hP.moreA (.cells #[.string tx, .int .i64 lo, .int .i64 us, .int .i64 hi] 40)
      have hX1 := BxA.new wr (.string tx) (.int .i64 lo) (.int .i64 us) (.int .i64 hi)
      have hBa := hB.alloc hwz (.cells #[.string tx, .int .i64 lo, .int .i64 us, .int .i64 hi] 40)
      clear hw hs hb0 hI hP hB
      go_wp2_with fail
      generalize wr.alloc (.cells #[.string tx, .int .i64 lo, .int .i64 us, .int .i64 hi] 40) = v1 at *
      clear d0 d1 d2 d3
      generalize wr.heap.size = g at *
      refine (putTag_any B _ _ tx _ hP1 htx (by have := HLN.out; show b0.length + 4 ≤ _; omega)).mono ?_
      rintro e u2 ⟨rfl, hP2, hK2⟩
      rw [tagA hgd] at hP2
      have hB2 := hBa.trans (hK2.below (fun k hk => .inl hk))
      have hX2 := hX1.kept hK2 (.inr rfl)
      obtain ⟨d0, d1, d2, d3, _⟩ := hX2.cells
      clear hP1 hK2 hX1 hBa
      go_wp2_with fail
      refine (put32_any B _ _ lo _ hP2 ⟨by omega, by omega⟩ (by have := HLN.out; have := HG4.out; simp; omega)).mono ?_
      rintro e u3 ⟨rfl, hP3, hK3⟩
      rw [put32A (by omega) (by omega)] at hP3
      have hB3 := hB2.trans (hK3.below (fun k hk => .inl hk))
      have hX3 := hX2.kept hK3 (.inr rfl)
      clear d0 d1 d2 d3
      obtain ⟨d0, d1, d2, d3, _⟩ := hX3.cells
      clear hP2 hK3 hX2 hB2
      go_wp2_with fail
      refine (put32_any B _ _ us _ hP3 ⟨by omega, by omega⟩ (by have := HLN.out; have := HG4.out; simp [be4]; omega)).mono ?_
      rintro e u4 ⟨rfl, hP4, hK4⟩
      rw [put32A (by omega) (by omega)] at hP4
      have hB4 := hB3.trans (hK4.below (fun k hk => .inl hk))
      have hX4 := hX3.kept hK4 (.inr rfl)
      clear d0 d1 d2 d3
      obtain ⟨d0, d1, d2, d3, _⟩ := hX4.cells
      clear hP3 hK4 hX3 hB3
      go_wp2_with fail
      refine (put32_any B _ _ hi _ hP4 ⟨by omega, by omega⟩ (by have := HLN.out; have := HG4.out; simp [be4]; omega)).mono ?_
      rintro e u5 ⟨rfl, hP5, hK5⟩
      rw [put32A (by omega) (by omega), ← HSU.out] at hP5
      have hB5 := hB4.trans (hK5.below (fun k hk => .inl hk))
      have hP6 : Pc u5 B (· < B) (stW l (k + 1)) := hP5.guard (fun k hk => ⟨hP5.1 k (.inl hk), .inl hk⟩)
      clear hP4 hK5 hX4 hB4 hP5 d0 d1 d2 d3
      go_wp2
      go_roundw
      case rel => exact ⟨k + 1, by omega, by go_num, hP6, hB5⟩
      case measure => simp [intOf]; omega
    · obtain rfl : k = l.length := by omega
      have hl := stW_len HF.out (Nat.le_refl _)
      have hall := all_any B _ _ _ hP (by show (be2 (l.length : Nat) ++ axs (l.take l.length)).length ≤ _; omega)
      have ea : allB (stW l l.length) = axB l := by simp [allB, stW, axB]
      have eb : allE (stW l l.length) = 0 := rfl
      rw [ea, eb] at hall
      have hbw := hb.size
      rw [HBB.out] at hbw
      have hBw : Below w.heap.size w wr := hb.trans (hB.mono hbw)
      clear hI hP ea eb hl
      generalize axB l = fl at *
      go_wp2_with fail
      refine hall.mono ?_
      rintro e u9 ⟨a9, c9, rfl, hr9, hb9⟩
      have hB9 := hBw.trans (hb9.mono hBw.size)
      clear hall
      go_wp2
      go_ret2
      exact ⟨a9, c9, by rw [HE1.out, HE2.out]; rfl, by rw [HE2.out]; exact hr9.rd, hB9⟩

/-- The axis whose bytes begin at a place. -/
def axP (xs : List Nat) (p : Int) : Ax := ⟨tgV xs p, sx32 (nmV xs (p + 4) 4), sx32 (nmV xs (p + 8) 4), sx32 (nmV xs (p + 12) 4)⟩
theorem axP_at (xs : List Nat) (k : Nat) : axP xs (2 + 16 * (k : Int)) = axAt xs k := by
  rw [axP, axAt, show ((2 + 16 * k : Nat) : Int) = 2 + 16 * (k : Int) by omega, show ((6 + 16 * k : Nat) : Int) = 2 + 16 * (k : Int) + 4 by omega, show ((10 + 16 * k : Nat) : Int) = 2 + 16 * (k : Int) + 8 by omega, show ((14 + 16 * k : Nat) : Int) = 2 + 16 * (k : Int) + 12 by omega]

set_option maxHeartbeats 1000000 in
set_option maxRecDepth 100000 in
theorem axisAt_any (a : Option Addr) (cap : Nat) (xs : List Nat) (p : Int) (w : World) (h : Rb w a cap xs) (hp1 : 0 ≤ p) (hp2 : p ≤ 1000000000) (hl : xs.length ≤ 1000000000) :
    Calls Tryd.prog 35 #[.slice a xs.length cap, .int .i64 p] w fun e w' => e = .returned (.agg (axC (axP xs p))) ∧ Below w.heap.size w w' := by
  unfold axC axP
  dsimp only
  obtain ⟨tx, e0⟩ : ∃ x, tgV xs p = x := ⟨_, rfl⟩
  obtain ⟨z1, e1⟩ : ∃ x, sx32 (nmV xs (p + 4) 4) = x := ⟨_, rfl⟩
  obtain ⟨z2, e2⟩ : ∃ x, sx32 (nmV xs (p + 8) 4) = x := ⟨_, rfl⟩
  obtain ⟨z3, e3⟩ : ∃ x, sx32 (nmV xs (p + 12) 4) = x := ⟨_, rfl⟩
  rw [e0, e1, e2, e3]
  have HV : Hid (tgV xs p = tx ∧ sx32 (nmV xs (p + 4) 4) = z1 ∧ sx32 (nmV xs (p + 8) 4) = z2 ∧ sx32 (nmV xs (p + 12) 4) = z3) := ⟨e0, e1, e2, e3⟩
  clear e0 e1 e2 e3
  have hB := bl1 (w := w) (.cells #[.string ⟨#[]⟩, .int .i64 0, .int .i64 0, .int .i64 0] 40)
  have hX := BxA.new w (.string ⟨#[]⟩) (.int .i64 0) (.int .i64 0) (.int .i64 0)
  have hR := h.below hB
  go_enter Tryd.func35, Tryd.ntmps35
  go_wp2_with fail
  generalize w.alloc (.cells #[.string ⟨#[]⟩, .int .i64 0, .int .i64 0, .int .i64 0] 40) = v0 at *
  refine (tag_any a cap xs p _ hR ⟨by omega, by omega⟩ hl).mono ?_
  rintro e v1 ⟨rfl, hb1⟩
  rw [HV.out.1]
  generalize tgB xs p = tq at *
  have hX1 := hX.below hb1
  have hR1 := hR.below hb1
  have hB1 := hB.trans (hb1.mono hB.size)
  clear hX hR hB hb1 h
  go_wp2_with fail
  refine (i32_any a cap xs (p + 4) _ hR1 ⟨by omega, by omega⟩).mono ?_
  rintro e v2 ⟨rfl, rfl⟩
  rw [HV.out.2.1]
  generalize inB xs.length (p + 4) 4 = b1 at *
  go_wp2_with fail
  refine (i32_any a cap xs (p + 8) _ hR1 ⟨by omega, by omega⟩).mono ?_
  rintro e v3 ⟨rfl, rfl⟩
  rw [HV.out.2.2.1]
  generalize inB xs.length (p + 8) 4 = b2 at *
  go_wp2_with fail
  refine (i32_any a cap xs (p + 12) _ hR1 ⟨by omega, by omega⟩).mono ?_
  rintro e v4 ⟨rfl, rfl⟩
  rw [HV.out.2.2.2]
  generalize inB xs.length (p + 12) 4 = b3 at *
  obtain ⟨q0, q1, q2, q3, f0, f1, f2, f3⟩ := hX1.cells
  have hs := hX1.lt
  clear hR1
  go_wp2
  refine retA (v := .agg #[.string tx, .int .i64 z1, .int .i64 z2, .int .i64 z3]) hX1 rfl (fun U hU => by obtain ⟨r1, r2, r3, r4, _⟩ := hU.cells; simp [results, Tryd.results35, go_sem, r1, r2, r3, r4]) (fun U hU => ⟨rfl, hU _ _ hB1 (by omega)⟩)

end Go.Proofs.YtanppgmhlcifiaaDoor

namespace Go.Proofs.YtanppgmhlcifiaaDoor
open Go.RowKit Go.Maps
set_option linter.unusedSimpArgs false
set_option linter.unusedVariables false

theorem rdB_code (xs : List Nat) : rdB xs = (inB xs.length 0 2 && (decide (xs.length = 2 + 16 * nmV xs 0 2) && frA (axR xs))) := by
  rw [rdB, okR]
  by_cases h : nmV xs 0 2 ≤ 4
  · rw [decide_eq_true h, Bool.true_and, Bool.and_assoc]
  · have hf : frA (axR xs) = false := frA_no (fun hh => h (by have := hh.1; rwa [axR_len] at this))
    rw [hf]
    simp
theorem axL_nil : axL [] = [] := rfl

set_option maxHeartbeats 3000000 in
set_option maxRecDepth 100000 in
theorem cread_any (a : Option Addr) (cap : Nat) (xs : List Nat) (w : World) (h : Rb w a cap xs) (hlx : xs.length ≤ 1000000000) :
    Calls Tryd.prog 16 #[.slice a xs.length cap] w fun e w' => ∃ a' cap', e = .returned (.tuple #[.slice a' (rdL xs).length cap', .int .i64 (rdE xs)]) ∧ As w' a' cap' (rdL xs) ∧ Below w.heap.size w w' := by
  have k1 := h.le
  have k2 := h.cap
  unfold maxLen at k2
  have HH : Hid (Rb w a cap xs) := h
  have hnb := nmV_lt h.lim 0 2
  have HRB : Hid (rdB xs = (inB xs.length 0 2 && (decide (xs.length = 2 + 16 * nmV xs 0 2) && frA (axR xs)))) := rdB_code xs
  have HBAD : Hid (rdB xs = false → rdE xs = 2 ∧ rdL xs = []) := by
    show rdB xs = false → _
    intro e
    exact ⟨by simp [rdE, e], by simp [rdL, e]⟩
  have HAR : Hid (axR xs = (List.range (nmV xs 0 2)).map (axAt xs)) := rfl
  obtain ⟨n, hn⟩ : ∃ n, nmV xs 0 2 = n := ⟨_, rfl⟩
  rw [hn] at hnb HRB HAR
  have HN : Hid (nmV xs 0 2 = n) := hn
  have hnb' : n < 65536 := hnb
  have hu := u16_any a cap xs 0 w h ⟨by decide, by decide⟩
  rw [hn] at hu
  have hbyt := h.lim
  clear hn h hnb
  have hc : inB xs.length 0 2 = false ∨ (inB xs.length 0 2 = true ∧ xs.length ≠ 2 + 16 * n) ∨ (inB xs.length 0 2 = true ∧ xs.length = 2 + 16 * n) := by
    cases inB xs.length 0 2 with
    | false => exact .inl rfl
    | true =>
      by_cases h5 : xs.length = 2 + 16 * n
      · exact .inr (.inr ⟨rfl, h5⟩)
      · exact .inr (.inl ⟨rfl, h5⟩)
  rcases hc with hi | ⟨hi, h5⟩ | ⟨hi, h5⟩
  · obtain ⟨e1, e2⟩ := HBAD.out (by rw [HRB.out, hi]; rfl)
    have E1 : Hid (rdE xs = 2) := e1
    have E2 : Hid (rdL xs = []) := e2
    clear e1 e2
    go_enter Tryd.func16, Tryd.ntmps16
    go_wp2_with fail
    refine hu.mono ?_
    rintro e u ⟨rfl, rfl⟩
    rw [hi]
    go_wp2
    go_ret2
    exact ⟨none, 0, by rw [E1.out, E2.out]; rfl, by rw [E2.out]; exact As.nil _ _ _ (Nat.zero_le _), Below.refl _ _⟩
  · obtain ⟨e1, e2⟩ := HBAD.out (by rw [HRB.out, hi, decide_eq_false h5]; rfl)
    have E1 : Hid (rdE xs = 2) := e1
    have E2 : Hid (rdL xs = []) := e2
    have g2 : ((xs.length : Int) != 2 + (n : Int) * 16) = true := by simp; omega
    clear e1 e2
    go_enter Tryd.func16, Tryd.ntmps16
    go_wp2_with fail
    refine hu.mono ?_
    rintro e u ⟨rfl, rfl⟩
    rw [hi]
    go_wp2
    go_ret2
    exact ⟨none, 0, by rw [E1.out, E2.out]; rfl, by rw [E2.out]; exact As.nil _ _ _ (Nat.zero_le _), Below.refl _ _⟩
  have g2 : ((xs.length : Int) != 2 + (n : Int) * 16) = false := by simp; omega
  have HRBE : Hid (rdB xs = frA (axR xs)) := by show _ = _; rw [HRB.out, hi, decide_eq_true h5]; rfl
  have HE : Hid (rdE xs = if rdB xs then 0 else 2) := rfl
  have HL : Hid (rdL xs = if rdB xs then axR xs else []) := rfl
  have H5 : Hid (xs.length = 2 + 16 * n) := h5
  rw [hi] at hu
  obtain ⟨i0, hi0, hz0, hz1, hz2⟩ := info_parts info_ax
  obtain ⟨w1, hmk, hown, hgrow⟩ := run_makeSlice_owned w w.heap.size 22 40 i0 _ 4 Tryd.underlying22 hi0 hz0 hz1 .i64 .i64 n (by omega) (by rw [hz2]; omega) (by unfold maxLen; omega) (Nat.le_refl _)
  have hAo : Ao w.heap.size w1 (.slice (some ⟨w.heap.size, 0, none⟩) 0 n) [] := ⟨fun t ht => (by cases ht), hown⟩
  have hB1 : Below w.heap.size w w1 := (Below.refl _ _).grown hgrow (Nat.le_refl _) (fun k hk => by cases hk)
  clear hi h5 hown hgrow hi0 hz0 hz1 hz2
  go_enter Tryd.func16, Tryd.ntmps16
  go_wp2_with fail
  refine hu.mono ?_
  rintro e u ⟨rfl, rfl⟩
  clear hu
  go_wp2
  go_loopw [6, 7] (fun v i wr => ∃ k : Nat, k ≤ n ∧ i = .int .i64 (2 + 16 * (k : Int)) ∧ Ao w.heap.size wr v ((List.range k).map (axAt xs)) ∧ Below w.heap.size w wr) (fun _ i _ => xs.length - (intOf i).toNat)
  case atStart => exact ⟨0, Nat.zero_le _, rfl, hAo, hB1⟩
  case round =>
    obtain ⟨k, hk, rfl, hT, hB⟩ := hrel
    obtain ⟨a2, c2, rfl, hts⟩ := hT.slice
    have hlen : ((List.range k).map (axAt xs)).length = k := by simp
    rw [hlen] at hT ⊢
    have HT : Hid (Ao w.heap.size wr (.slice a2 k c2) ((List.range k).map (axAt xs))) := hT
    have HTS : Hid (As wr a2 c2 ((List.range k).map (axAt xs))) := hts
    clear hT hts hlen hAo hB1 hmk
    obtain ⟨m, hm⟩ : ∃ m, xs.length = m := ⟨_, rfl⟩
    have HM : Hid (xs.length = m) := hm
    have h5a : m ≤ 2 + 16 * n := by have := H5.out; omega
    have h5b : 2 + 16 * n ≤ m := by have := H5.out; omega
    rw [hm] at g2 hlx k1 ⊢
    clear hm
    by_cases hkn : k < n
    · have gg : 2 + 16 * (k : Int) < (m : Int) := by omega
      have hat := fun W hW => axisAt_any a cap xs (2 + 16 * (k : Int)) W hW (by omega) (by omega) (by rw [HM.out]; exact hlx)
      have HTZ : Hid (Axw (axAt xs k)) := ⟨tgV_sizeA xs _, sx32_i64 hbyt _, sx32_i64 hbyt _, sx32_i64 hbyt _⟩
      simp only [axP_at] at hat
      obtain ⟨t, ht⟩ : ∃ t, axAt xs k = t := ⟨_, rfl⟩
      have HTB : Hid (axAt xs k = t) := ht
      rw [ht] at hat HTZ
      clear ht
      obtain ⟨tx, z1, z2, z3⟩ := t
      unfold axC at hat
      dsimp only at hat
      rw [HM.out] at hat
      go_wp2_with fail
      refine (hat _ (HH.out.below hB)).mono ?_
      rintro e v4 ⟨rfl, hb4⟩
      have hT5 := (HT.out.below hb4).below (bl1 (.cells #[.string tx, .int .i64 z1, .int .i64 z2, .int .i64 z3] 40))
      have hB5 := hB.trans (hb4.mono hB.size)
      have hll : ((List.range k).map (axAt xs)).length + 1 ≤ 1000000 := by simp; omega
      have hN := heap_alloc_new v4 (.cells #[.string tx, .int .i64 z1, .int .i64 z2, .int .i64 z3] 40)
      have n0 := cell_of_row _ v4.heap.size 0 _ _ (0, 0) hN
      have n1 := cell_of_row _ v4.heap.size 1 _ _ (0, 0) hN
      have n2 := cell_of_row _ v4.heap.size 2 _ _ (0, 0) hN
      have n3 := cell_of_row _ v4.heap.size 3 _ _ (0, 0) hN
      clear hN hat hb4
      have hbs : w.heap.size ≤ (v4.alloc (.cells #[.string tx, .int .i64 z1, .int .i64 z2, .int .i64 z3] 40)).heap.size := by have := hB5.size; simp at this ⊢; omega
      go_wp2_with (at_builtin; refine wpList_append_ax rfl _ _ rfl w.heap.size _ ((List.range k).map (axAt xs)) rfl hT5 v4.heap.size ⟨tx, z1, z2, z3⟩ rfl n0 n1 n2 n3 HTZ.out hll hbs ?_)
      intro v' w9 hT9 hgrow
      have hB9 : Below w.heap.size w w9 := (hB5.alloc hB5.size _).grown hgrow hbs (fun k hk => HT.out.lo hk)
      have HT9 : Hid (Ao w.heap.size w9 v' ((List.range (k + 1)).map (axAt xs))) := by
        show Ao _ _ _ _
        rw [axR_snoc, HTB.out]
        exact hT9
      clear hgrow hT5 hT9 n0 n1 n2 n3 hbs hB5
      go_wp2
      go_roundw
      case rel => exact ⟨k + 1, by omega, by go_num, HT9.out, hB9⟩
      case measure => simp [intOf]; omega
    · obtain rfl : k = n := by omega
      have gg : ¬ 2 + 16 * (k : Int) < (m : Int) := by omega
      have hts := HTS.out
      rw [← HAR.out] at hts
      have hln : (axR xs).length = k := by rw [axR_len, HN.out]
      have hF := cformed_any a2 c2 (axR xs) wr hts
      rw [hln] at hF
      have HLN : Hid ((axR xs).length = k) := hln
      have HT9 : Hid (As wr a2 c2 (axR xs)) := hts
      clear hts hln
      cases hfr : frA (axR xs) with
      | true =>
        have E1 : Hid (rdE xs = 0) := by show _ = _; rw [HE.out, HRBE.out, hfr]; rfl
        have E2 : Hid (rdL xs = axR xs) := by show _ = _; rw [HL.out, HRBE.out, hfr]; rfl
        rw [hfr] at hF
        clear hfr
        go_wp2_with fail
        refine hF.mono ?_
        rintro e u ⟨rfl, hb⟩
        have hB9 := hB.trans (hb.mono hB.size)
        go_wp2
        go_ret2
        exact ⟨a2, c2, by rw [E1.out, E2.out, HLN.out]; rfl, by rw [E2.out]; exact HT9.out.below hb, hB9⟩
      | false =>
        have E1 : Hid (rdE xs = 2) := by show _ = _; rw [HE.out, HRBE.out, hfr]; rfl
        have E2 : Hid (rdL xs = []) := by show _ = _; rw [HL.out, HRBE.out, hfr]; rfl
        rw [hfr] at hF
        clear hfr
        go_wp2_with fail
        refine hF.mono ?_
        rintro e u ⟨rfl, hb⟩
        have hB9 := hB.trans (hb.mono hB.size)
        go_wp2
        go_ret2
        exact ⟨none, 0, by rw [E1.out, E2.out]; rfl, by rw [E2.out]; exact As.nil _ _ _ (Nat.zero_le _), hB9⟩

end Go.Proofs.YtanppgmhlcifiaaDoor

namespace Go.Proofs.YtanppgmhlcifiaaDoor
open Go.RowKit Go.Maps
set_option linter.unusedSimpArgs false
set_option linter.unusedVariables false

theorem Ct.eq {w : World} {v : Value} {k : Nat} {q r : Rat} (h : Ct w v k q) (e : q = r) : Ct w v k r := e ▸ h
theorem Ct.le {w : World} {v : Value} {k k' : Nat} {q : Rat} (h : Ct w v k q) (hk : k ≤ k') : Ct w v k' q := by
  obtain ⟨n, xs, ys, h1, h2, h3, h4⟩ := h
  exact ⟨n, xs, ys, h1, by omega, by omega, h4⟩

set_option maxHeartbeats 2000000 in
set_option maxRecDepth 100000 in
theorem clamped_any (k : Nat) (q : Rat) (v : Value) (w : World) (h : Ct w v k q) (hk : k ≤ 100000000) (hk2 : 2 ≤ k) :
    Calls Tryd.prog 46 #[v] w fun e w' => ∃ v', e = .returned v' ∧ Ct w' v' k (clQ q) ∧ Below w.heap.size w w' := by
  have hX := h
  obtain ⟨n, xs, ys, ⟨a, c, a', c', rfl, _, _⟩, hz1⟩ := h
  clear hz1
  obtain ⟨W, hW, B1, B2, hbW⟩ := boxes2 44 44 w (.bool n) (.slice a xs.length c) (.slice a' ys.length c') (.bool false) (.slice none 0 0) (.slice none 0 0)
  go_enter Tryd.func46, Tryd.ntmps46
  go_wp2_with fail
  rw [← hW]
  clear hW
  replace hX := hX.below hbW
  obtain ⟨p00, p01, p02, _⟩ := B1.cells
  obtain ⟨p10, p11, p12, _⟩ := B2.cells
  refine (whole_any (-1) _ (by decide) (by decide)).mono ?_
  rintro e u1 ⟨v1, rfl, hF1, hb1⟩
  replace hX := hX.below hb1
  replace B1 := B1.below hb1
  replace B2 := B2.below hb1
  replace hbW : Below w.heap.size w u1 := hbW.trans (hb1.mono hbW.size)
  clear hb1
  clear p00 p01 p02 p10 p11 p12
  obtain ⟨p00, p01, p02, _⟩ := B1.cells
  obtain ⟨p10, p11, p12, _⟩ := B2.cells
  go_wp2_with fail
  refine (whole_any 1 _ (by decide) (by decide)).mono ?_
  rintro e u2 ⟨v2, rfl, hF2, hb2⟩
  replace hX := hX.below hb2
  replace hF1 := hF1.below hb2
  replace B1 := B1.below hb2
  replace B2 := B2.below hb2
  replace hbW : Below w.heap.size w u2 := hbW.trans (hb2.mono hbW.size)
  clear hb2
  clear p00 p01 p02 p10 p11 p12
  obtain ⟨p00, p01, p02, _⟩ := B1.cells
  obtain ⟨p10, p11, p12, _⟩ := B2.cells
  have hL := hF1.ct
  have hM := hF2.ct
  obtain ⟨n1, x1, y1, ⟨a1, c1, b1, d1, rfl, _, _⟩, _⟩ := hF1
  obtain ⟨n2, x2, y2, ⟨a2, c2, b2, d2, rfl, _, _⟩, _⟩ := hF2
  have hs1 := B1.lt
  have hs2 := B2.lt
  go_wp2_with fail
  obtain ⟨W2, hW2, B3, B4, hb3⟩ := boxes2 44 44 u2 (.bool n1) (.slice a1 x1.length c1) (.slice b1 y1.length d1) (.bool n2) (.slice a2 x2.length c2) (.slice b2 y2.length d2)
  rw [← hW2]
  clear hW2
  replace hX := hX.below hb3
  replace hL := hL.below hb3
  replace hM := hM.below hb3
  replace B1 := B1.below hb3
  replace B2 := B2.below hb3
  replace hbW : Below w.heap.size w W2 := hbW.trans (hb3.mono hbW.size)
  clear hb3
  generalize hg : u2.heap.size = g at *
  clear p00 p01 p02 p10 p11 p12
  obtain ⟨p00, p01, p02, _⟩ := B1.cells
  obtain ⟨p10, p11, p12, _⟩ := B2.cells
  obtain ⟨p20, p21, p22, _⟩ := B3.cells
  obtain ⟨p30, p31, p32, _⟩ := B4.cells
  clear hg
  obtain ⟨s1, hs1'⟩ : ∃ s, sgnQ (q - ((-1 : Int) : Rat)) = s := ⟨_, rfl⟩
  have HS1 : Hid (sgnQ (q - ((-1 : Int) : Rat)) = s1) := hs1'
  obtain ⟨s2, hs2'⟩ : ∃ s, sgnQ (q - ((1 : Int) : Rat)) = s := ⟨_, rfl⟩
  have HS2 : Hid (sgnQ (q - ((1 : Int) : Rat)) = s2) := hs2'
  clear hs1' hs2'
  refine (qcmp_any k 2 q ((-1 : Int) : Rat) _ _ _ hX hL hk (by decide) hk2 (by decide)).mono ?_
  rintro e u3 ⟨rfl, hb3⟩
  replace hX := hX.below hb3
  replace hL := hL.below hb3
  replace hM := hM.below hb3
  replace B1 := B1.below hb3
  replace B2 := B2.below hb3
  replace B3 := B3.below hb3
  replace B4 := B4.below hb3
  replace hbW : Below w.heap.size w u3 := hbW.trans (hb3.mono hbW.size)
  clear hb3
  clear p00 p01 p02 p10 p11 p12 p20 p21 p22 p30 p31 p32
  obtain ⟨p00, p01, p02, _⟩ := B1.cells
  obtain ⟨p10, p11, p12, _⟩ := B2.cells
  obtain ⟨p20, p21, p22, _⟩ := B3.cells
  obtain ⟨p30, p31, p32, _⟩ := B4.cells
  rw [HS1.out]
  by_cases h1 : q < ((-1 : Int) : Rat)
  · have g1 : s1 < 0 := by rw [← HS1.out]; exact sgn_neg.2 h1
    have hR : Ct u3 (.agg #[.bool n1, .slice a1 x1.length c1, .slice b1 y1.length d1]) k (clQ q) := (hL.eq (r := clQ q) (by unfold clQ; rw [if_pos h1])).le hk2
    clear p00 p01 p02 p10 p11 p12 p20 p21 p22 p30 p31 p32
    obtain ⟨q1, q2, q3, q4, q5, q6⟩ := B2.cells
    obtain ⟨r1, r2, r3, _⟩ := B3.cells
    have hs := B2.lt
    obtain ⟨n', xs', ys', ⟨e1, f1, e2, f2, ee, hx', hy'⟩, hF⟩ := hR
    have ee' := ee
    simp only [Value.agg.injEq] at ee'
    injection congrArg Array.toList ee' with i1 i2
    injection i2 with i2 i3
    injection i3 with i3 i4
    rw [i1] at r1
    rw [i2] at r2
    rw [i3] at r3
    clear ee ee' i1 i2 i3 i4
    go_wp2
    refine ret3 (v := .agg #[.bool n', .slice e1 xs'.length f1, .slice e2 ys'.length f2]) B2 rfl (fun U hU => by obtain ⟨r1, r2, r3, _⟩ := hU.cells; simp [results, Tryd.results46, go_sem, r1, r2, r3]) (fun U hU hK => ⟨_, rfl, ⟨_, _, _, ⟨_, _, _, _, rfl, hK _ _ _ hx', hK _ _ _ hy'⟩, hF⟩, hU _ _ hbW (by omega)⟩)
  have g1 : ¬ s1 < 0 := by rw [← HS1.out]; exact fun hh => h1 (sgn_neg.1 hh)
  go_wp2_with fail
  refine (qcmp_any k 2 q ((1 : Int) : Rat) _ _ _ hX hM hk (by decide) hk2 (by decide)).mono ?_
  rintro e u4 ⟨rfl, hb4⟩
  replace hX := hX.below hb4
  replace hL := hL.below hb4
  replace hM := hM.below hb4
  replace B1 := B1.below hb4
  replace B2 := B2.below hb4
  replace B3 := B3.below hb4
  replace B4 := B4.below hb4
  replace hbW : Below w.heap.size w u4 := hbW.trans (hb4.mono hbW.size)
  clear hb4
  clear p00 p01 p02 p10 p11 p12 p20 p21 p22 p30 p31 p32
  obtain ⟨p00, p01, p02, _⟩ := B1.cells
  obtain ⟨p10, p11, p12, _⟩ := B2.cells
  obtain ⟨p20, p21, p22, _⟩ := B3.cells
  obtain ⟨p30, p31, p32, _⟩ := B4.cells
  rw [HS2.out]
  by_cases h2 : ((1 : Int) : Rat) < q
  · have g2 : 0 < s2 := by rw [← HS2.out]; exact sgn_pos.2 h2
    have hR : Ct u4 (.agg #[.bool n2, .slice a2 x2.length c2, .slice b2 y2.length d2]) k (clQ q) := (hM.eq (r := clQ q) (by unfold clQ; rw [if_neg h1, if_pos h2])).le hk2
    clear p00 p01 p02 p10 p11 p12 p20 p21 p22 p30 p31 p32
    obtain ⟨q1, q2, q3, q4, q5, q6⟩ := B2.cells
    obtain ⟨r1, r2, r3, _⟩ := B4.cells
    have hs := B2.lt
    obtain ⟨n', xs', ys', ⟨e1, f1, e2, f2, ee, hx', hy'⟩, hF⟩ := hR
    have ee' := ee
    simp only [Value.agg.injEq] at ee'
    injection congrArg Array.toList ee' with i1 i2
    injection i2 with i2 i3
    injection i3 with i3 i4
    rw [i1] at r1
    rw [i2] at r2
    rw [i3] at r3
    clear ee ee' i1 i2 i3 i4
    go_wp2
    refine ret3 (v := .agg #[.bool n', .slice e1 xs'.length f1, .slice e2 ys'.length f2]) B2 rfl (fun U hU => by obtain ⟨r1, r2, r3, _⟩ := hU.cells; simp [results, Tryd.results46, go_sem, r1, r2, r3]) (fun U hU hK => ⟨_, rfl, ⟨_, _, _, ⟨_, _, _, _, rfl, hK _ _ _ hx', hK _ _ _ hy'⟩, hF⟩, hU _ _ hbW (by omega)⟩)
  have g2 : ¬ 0 < s2 := by rw [← HS2.out]; exact fun hh => h2 (sgn_pos.1 hh)
  have hR : Ct u4 (.agg #[.bool n, .slice a xs.length c, .slice a' ys.length c']) k (clQ q) := hX.eq (r := clQ q) (by unfold clQ; rw [if_neg h1, if_neg h2])
  clear p00 p01 p02 p10 p11 p12 p20 p21 p22 p30 p31 p32
  obtain ⟨q1, q2, q3, q4, q5, q6⟩ := B2.cells
  obtain ⟨r1, r2, r3, _⟩ := B1.cells
  have hs := B2.lt
  obtain ⟨n', xs', ys', ⟨e1, f1, e2, f2, ee, hx', hy'⟩, hF⟩ := hR
  have ee' := ee
  simp only [Value.agg.injEq] at ee'
  injection congrArg Array.toList ee' with i1 i2
  injection i2 with i2 i3
  injection i3 with i3 i4
  rw [i1] at r1
  rw [i2] at r2
  rw [i3] at r3
  clear ee ee' i1 i2 i3 i4
  go_wp2
  refine ret3 (v := .agg #[.bool n', .slice e1 xs'.length f1, .slice e2 ys'.length f2]) B2 rfl (fun U hU => by obtain ⟨r1, r2, r3, _⟩ := hU.cells; simp [results, Tryd.results46, go_sem, r1, r2, r3]) (fun U hU hK => ⟨_, rfl, ⟨_, _, _, ⟨_, _, _, _, rfl, hK _ _ _ hx', hK _ _ _ hy'⟩, hF⟩, hU _ _ hbW (by omega)⟩)

end Go.Proofs.YtanppgmhlcifiaaDoor
