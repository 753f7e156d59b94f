/-
  outline.markOf: the walk; steps and flags, in the code's words.
  One cell of a block. Nothing here is a walk.
  outline.steps, outline.flagsOf: the walks.
-/
import Derived.Test.YtdojgkejpfdaeaaZ13
import Derived.Test.YtdojgkejpfdaeaaZ2
import Derived.Test.YtdojgkejpfdaeaaZ7
import Derived.Deep.CutRange
namespace Go.Proofs.Ytdojgkejpfdaeaa
open Go.RowKit Go.Maps
set_option linter.unusedSimpArgs false
set_option linter.unusedVariables false

def axI (d sh sm : Int) : Int := if d = 0 then sm else if 0 < d ∧ d < 256 then sh + sm else if d < 0 ∧ -256 < d then sh else 0
theorem axI_x (d : Int) : axI d 2 16 = (axF d 2 16 : Int) := by unfold axI axF; split <;> (try split) <;> (try split) <;> rfl
theorem axI_y (d : Int) : axI d 4 32 = (axF d 4 32 : Int) := by unfold axI axF; split <;> (try split) <;> (try split) <;> rfl
theorem axI_cases (d sh sm : Int) : axI d sh sm = sm ∨ axI d sh sm = sh + sm ∨ axI d sh sm = sh ∨ axI d sh sm = 0 := by
  unfold axI; split <;> (try split) <;> (try split) <;> simp
theorem or_xy (d e : Int) : bits BinOp.or IntKind.i64 (axI d 2 16) (axI e 4 32) = axI d 2 16 + axI e 4 32 ∧ bits BinOp.or IntKind.i64 (axI d 2 16 + axI e 4 32) 1 = axI d 2 16 + axI e 4 32 + 1 ∧ 0 ≤ axI d 2 16 + axI e 4 32 ∧ axI d 2 16 + axI e 4 32 ≤ 62 := by
  rcases axI_cases d 2 16 with h | h | h | h <;> rcases axI_cases e 4 32 with k | k | k | k <;> rw [h, k] <;> decide
theorem or_x : bits BinOp.or IntKind.i64 2 16 = 2 + 16 := by decide
theorem or_y : bits BinOp.or IntKind.i64 4 32 = 4 + 32 := by decide

set_option maxHeartbeats 400000 in
set_option maxRecDepth 100000 in
theorem cmark_any (d sh sm : Int) (w : World) (hor : bits BinOp.or IntKind.i64 sh sm = sh + sm) :
    Calls Try.prog 41 #[.int .i64 d, .int .i64 sh, .int .i64 sm] w fun e w' => e = .returned (.int .i64 (axI d sh sm)) ∧ w = w' := by
  by_cases h0 : d = 0
  · have HE : Hid (axI d sh sm = sm) := if_pos h0
    have g1 : (d == 0) = true := by simp [h0]
    clear h0
    go_enter Try.func41, Try.ntmps41
    go_wp2
    go_ret
    exact ⟨by rw [HE.out]; rfl, rfl⟩
  have g1 : (d == 0) = false := by simp [h0]
  by_cases h1 : 0 < d
  · have g2 : decide (0 < d) = true := decide_eq_true h1
    have g4 : decide (d < 0) = false := decide_eq_false (by omega)
    by_cases h2 : d ≤ 255
    · have HE : Hid (axI d sh sm = sh + sm) := by show _ = _; rw [axI, if_neg h0, if_pos (by omega)]
      have g3 : decide (d ≤ 255) = true := decide_eq_true h2
      clear h0 h1 h2
      go_enter Try.func41, Try.ntmps41
      go_wp2
      go_ret
      exact ⟨by rw [HE.out]; rfl, rfl⟩
    · have HE : Hid (axI d sh sm = 0) := by show _ = _; rw [axI, if_neg h0, if_neg (by omega), if_neg (by omega)]
      have g3 : decide (d ≤ 255) = false := decide_eq_false h2
      clear h0 h1 h2
      go_enter Try.func41, Try.ntmps41
      go_wp2
      go_ret
      exact ⟨by rw [HE.out]; rfl, rfl⟩
  · have g2 : decide (0 < d) = false := decide_eq_false h1
    have g4 : decide (d < 0) = true := decide_eq_true (by omega)
    by_cases h2 : -255 ≤ d
    · have HE : Hid (axI d sh sm = sh) := by show _ = _; rw [axI, if_neg h0, if_neg (by omega), if_pos (by omega)]
      have g3 : decide (-255 ≤ d) = true := decide_eq_true h2
      clear h0 h1 h2
      go_enter Try.func41, Try.ntmps41
      go_wp2
      go_ret
      exact ⟨by rw [HE.out]; rfl, rfl⟩
    · have HE : Hid (axI d sh sm = 0) := by show _ = _; rw [axI, if_neg h0, if_neg (by omega), if_neg (by omega)]
      have g3 : decide (-255 ≤ d) = false := decide_eq_false h2
      clear h0 h1 h2
      go_enter Try.func41, Try.ntmps41
      go_wp2
      go_ret
      exact ⟨by rw [HE.out]; rfl, rfl⟩

/-- The steps. -/
def stX (l : List Pn) : List Int := (difs 0 0 l).map (fun t => t.1)
def stY (l : List Pn) : List Int := (difs 0 0 l).map (fun t => t.2.1)
def ahP (l : List Pn) (k : Nat) : Pn := if k = 0 then Pn.none else l.getD (k - 1) Pn.none
theorem stX_len (l : List Pn) : (stX l).length = l.length := by unfold stX; rw [List.length_map, difs_len]
theorem stY_len (l : List Pn) : (stY l).length = l.length := by unfold stY; rw [List.length_map, difs_len]
theorem map_getD {α β : Type} (f : α → β) (l : List α) (k : Nat) (d : α) (e : β) (hk : k < l.length) : (l.map f).getD k e = f (l.getD k d) := by simp [List.getD, hk]
theorem stX_get {l : List Pn} {k : Nat} (hk : k < l.length) : (stX l).getD k 0 = (l.getD k Pn.none).x - (ahP l k).x := by
  unfold stX ahP
  rw [map_getD _ _ _ (0, 0, false) _ (by rw [difs_len]; exact hk), difs_get l 0 0 k hk]
  by_cases h0 : k = 0
  · simp [h0, Pn.none]
  · simp [h0]
theorem stY_get {l : List Pn} {k : Nat} (hk : k < l.length) : (stY l).getD k 0 = (l.getD k Pn.none).y - (ahP l k).y := by
  unfold stY ahP
  rw [map_getD _ _ _ (0, 0, false) _ (by rw [difs_len]; exact hk), difs_get l 0 0 k hk]
  by_cases h0 : k = 0
  · simp [h0, Pn.none]
  · simp [h0]
theorem flL_get {l : List Pn} {k : Nat} (hk : k < l.length) : (flL l).getD k 0 = axI ((stX l).getD k 0) 2 16 + axI ((stY l).getD k 0) 4 32 + (if (l.getD k Pn.none).on then 1 else 0) := by
  have hd : k < (difs 0 0 l).length := by rw [difs_len]; exact hk
  unfold flL stX stY
  rw [map_getD _ _ _ (0, 0, false) _ hd, map_getD _ _ _ (0, 0, false) _ hd, map_getD _ _ _ (0, 0, false) _ hd, axI_x, axI_y]
  have := difs_get l 0 0 k hk
  have h2 : ((difs 0 0 l).getD k (0, 0, false)).2.2 = (l.getD k Pn.none).on := by rw [this]
  unfold flg
  rw [h2]
  cases (l.getD k Pn.none).on <;> simp
def PnF (p : Pn) : Prop := (-32768 ≤ p.x ∧ p.x ≤ 32767) ∧ (-32768 ≤ p.y ∧ p.y ≤ 32767)
theorem ahP_F {l : List Pn} (h : ∀ k, k < l.length → PnF (l.getD k Pn.none)) {k : Nat} (hk : k ≤ l.length) : PnF (ahP l k) := by
  unfold ahP
  split
  · exact ⟨by decide, by decide⟩
  · exact h _ (by omega)
theorem ahP_succ (l : List Pn) (k : Nat) : ahP l (k + 1) = l.getD k Pn.none := by unfold ahP; rw [if_neg (by omega), Nat.add_sub_cancel]

end Go.Proofs.Ytdojgkejpfdaeaa

namespace Go.Proofs.Ytdojgkejpfdaeaa
open Go.RowKit
set_option linter.unusedVariables false

/-- One cell of a block. -/
def Cl (w : World) (g o : Nat) (v : Value) : Prop := g < w.heap.size ∧ w.cell? ⟨g, o, none⟩ = some v
theorem Cl.below {w w' : World} {g o : Nat} {v : Value} (h : Cl w g o v) (hb : Below w.heap.size w w') : Cl w' g o v := ⟨Nat.lt_of_lt_of_le h.1 hb.size, (hb.cell (p := ⟨g, o, none⟩) h.1).trans h.2⟩

end Go.Proofs.Ytdojgkejpfdaeaa

namespace Go.Proofs.Ytdojgkejpfdaeaa
open Go.RowKit Go.Maps
set_option linter.unusedSimpArgs false
set_option linter.unusedVariables false

theorem Bk.set3 {t : TypeId} {w : World} {g : Nat} {x y z : Value} (h : Bk t w g [x, y, z]) (x' y' z' : Value) : Bk t (((w.setCell ⟨g, 0, none⟩ x').setCell ⟨g, 1, none⟩ y').setCell ⟨g, 2, none⟩ z') g [x', y', z'] := ((h.set 0 x').set 1 y').set 2 z'
theorem below_s3 {B g : Nat} {a w : World} (h : Below B a w) (hb : B ≤ g) (x' y' z' : Value) : Below B a (((w.setCell ⟨g, 0, none⟩ x').setCell ⟨g, 1, none⟩ y').setCell ⟨g, 2, none⟩ z') :=
  ((h.setCell (p := ⟨g, 0, none⟩) hb x').setCell (p := ⟨g, 1, none⟩) hb y').setCell (p := ⟨g, 2, none⟩) hb z'
theorem Gi.set3 {base : Nat} {w : World} {v : Value} {l : List Int} {t : TypeId} {g : Nat} {x y z : Value} (h : Gi base w v l) (hb : Bk t w g [x, y, z]) (ht : t ≠ 3) (x' y' z' : Value) : Gi base (((w.setCell ⟨g, 0, none⟩ x').setCell ⟨g, 1, none⟩ y').setCell ⟨g, 2, none⟩ z') v l :=
  ((h.set hb ht 0 x').set (hb.set 0 x') ht 1 y').set ((hb.set 0 x').set 1 y') ht 2 z'
/-- One more of a list's beginning. -/
theorem take_more {l : List Int} {k : Nat} {z : Int} (hk : k < l.length) (hz : l.getD k 0 = z) : l.take (k + 1) = l.take k ++ [z] := by rw [take_snoc (d := 0) hk, hz]

set_option maxHeartbeats 4000000 in
set_option maxRecDepth 100000 in
theorem csteps_any (S : Nat → Prop) (a : Option Addr) (cap : Nat) (l : List Pn) (w : World) (h : Gr PnE S w a cap l) (hl : l.length ≤ 1000) (hF : ∀ k, k < l.length → PnF (l.getD k Pn.none)) :
    Calls Try.prog 17 #[.slice a l.length cap] w fun e w' => ∃ a1 c1 a2 c2, e = .returned (.tuple #[.slice a1 (stX l).length c1, .slice a2 (stY l).length c2]) ∧ Ri w' a1 c1 (stX l) ∧ Ri w' a2 c2 (stY l) ∧
      (∀ b o, a1 = some ⟨b, o, none⟩ → w.heap.size ≤ b ∧ b < w'.heap.size) ∧ (∀ b o, a2 = some ⟨b, o, none⟩ → w.heap.size ≤ b ∧ b < w'.heap.size) ∧ Below w.heap.size w w' := by
  have HH : Hid (Gr PnE S w a cap l) := h
  have HF : Hid (∀ k, k < l.length → PnF (l.getD k Pn.none)) := hF
  obtain ⟨W, hW, X0, hbW⟩ : ∃ W, W = w.alloc (.cells #[.int .i64 0, .int .i64 0, .bool false] 38) ∧ Bk 38 W w.heap.size (pnC (ahP l 0)) ∧ Below w.heap.size w W := ⟨_, rfl, Bk.new _ _ _, bl1 _⟩
  have HX0 : Hid (Bk 38 W w.heap.size (pnC (ahP l 0))) := X0
  have HBW : Hid (Below w.heap.size w W) := hbW
  clear h hF X0 hbW
  go_enter Try.func17, Try.ntmps17
  go_wp2
  rw [← hW]
  clear hW
  go_loopw [4, 5, 11] (fun v4 v5 i wr => ∃ k : Nat, k ≤ l.length ∧ i = .int .i64 k ∧ Gi w.heap.size wr v4 ((stX l).take k) ∧ Gi w.heap.size wr v5 ((stY l).take k) ∧ (∀ g, v4.ownBlock = some g → v5.ownBlock ≠ some g) ∧ Bk 38 wr w.heap.size (pnC (ahP l k)) ∧ Below w.heap.size w wr) (fun _ _ i _ => l.length - (intOf i).toNat)
  case atStart => exact ⟨0, Nat.zero_le _, rfl, Gi.nil _ _, Gi.nil _ _, (fun g hg => by cases hg), HX0.out, HBW.out⟩
  case round =>
    clear HX0 HBW
    obtain ⟨k, hk, rfl, hT4, hT5, hap, hX, hB⟩ := hrel
    obtain ⟨a4, c4, rfl, hr4, hb4⟩ := hT4.slice
    obtain ⟨a5, c5, rfl, hr5, hb5⟩ := hT5.slice
    by_cases hkn : k < l.length
    rotate_left
    · obtain rfl : k = l.length := by omega
      have HB4 : Hid (∀ b o, a4 = some ⟨b, o, none⟩ → w.heap.size ≤ b ∧ b < wr.heap.size) := hb4
      have HB5 : Hid (∀ b o, a5 = some ⟨b, o, none⟩ → w.heap.size ≤ b ∧ b < wr.heap.size) := hb5
      rw [List.take_of_length_le (by rw [stX_len]; exact Nat.le_refl _)] at hr4 ⊢
      rw [List.take_of_length_le (by rw [stY_len]; exact Nat.le_refl _)] at hr5 ⊢
      have g1 : ¬ (l.length : Int) < (l.length : Int) := by omega
      clear hT4 hT5 hap hX hb4 hb5
      go_wp2
      go_ret2
      exact ⟨a4, c4, a5, c5, rfl, hr4, hr5, HB4.out, HB5.out, hB⟩
    obtain ⟨b, off, ea, hb, ⟨w0, w1⟩, q0, q1, q2⟩ := HH.out.pn hB k hkn
    subst ea
    have HSX : Hid (_) := take_more (l := stX l) (by rw [stX_len]; exact hkn) (stX_get hkn)
    have HSY : Hid (_) := take_more (l := stY l) (by rw [stY_len]; exact hkn) (stY_get hkn)
    have hfa := ahP_F HF.out hk
    have hfp := HF.out k hkn
    have HA1 : Hid (_) := ahP_succ l k
    have hl4 : ((stX l).take k).length + 1 ≤ 1000000 := by rw [List.length_take, stX_len]; omega
    have hl5 : ((stY l).take k).length + 1 ≤ 1000000 := by rw [List.length_take, stY_len]; omega
    generalize ahP l k = p0 at *
    generalize l.getD k Pn.none = p at *
    obtain ⟨x, y, on⟩ := p
    obtain ⟨x0, y0, on0⟩ := p0
    unfold PnF at hfa hfp
    unfold pnC at hX
    dsimp only at w0 w1 q0 q1 q2 hfa hfp hX HSX HSY
    obtain ⟨dx, hdx⟩ : ∃ d, x - x0 = d := ⟨_, rfl⟩
    obtain ⟨dy, hdy⟩ : ∃ d, y - y0 = d := ⟨_, rfl⟩
    have hdxi : I64 dx := ⟨by omega, by omega⟩
    have hdyi : I64 dy := ⟨by omega, by omega⟩
    have hdx1 : -9223372036854775808 ≤ dx ∧ dx ≤ 9223372036854775807 := hdxi
    have hdy1 : -9223372036854775808 ≤ dy ∧ dy ≤ 9223372036854775807 := hdyi
    rw [hdx] at HSX
    rw [hdy] at HSY
    have i1 : (0 : Int) ≤ (k : Int) := by omega
    have i2 : (k : Int) < (l.length : Int) := by omega
    clear hfa hfp hr4 hr5 hb4 hb5
    have hb1 := bl2 (w := wr) (.cells #[.int .i64 x, .int .i64 y, .bool on] 38) (.cells #[.int .i64 dx] 3)
    have hB1 : Below w.heap.size w ((wr.alloc (.cells #[.int .i64 x, .int .i64 y, .bool on] 38)).alloc (.cells #[.int .i64 dx] 3)) := hB.trans (hb1.mono hB.size)
    have hT4a := hT4.below hb1
    have hT5a := hT5.below hb1
    have hXa := hX.below hb1
    have hY : Bk 38 ((wr.alloc (.cells #[.int .i64 x, .int .i64 y, .bool on] 38)).alloc (.cells #[.int .i64 dx] 3)) wr.heap.size [.int .i64 x, .int .i64 y, .bool on] := (Bk.new _ _ _).below (bl1 _)
    have hN := Bk.new1 3 wr (.cells #[.int .i64 x, .int .i64 y, .bool on] 38) [.int .i64 dx]
    have n0 := hN.cell 0 (by simp)
    have hgl : wr.heap.size + 1 < ((wr.alloc (.cells #[.int .i64 x, .int .i64 y, .bool on] 38)).alloc (.cells #[.int .i64 dx] 3)).heap.size := hN.lt
    have hbs := hB1.size
    have n4 : (Value.slice a4 ((stX l).take k).length c4).ownBlock ≠ some wr.heap.size := fun e => by have := (hT4.lo e).2; omega
    have n4x : (Value.slice a4 ((stX l).take k).length c4).ownBlock ≠ some w.heap.size := hT4a.ne hXa (by decide)
    obtain ⟨x6, y6, z6, _⟩ := hX.three
    obtain ⟨x7, y7, z7, _⟩ := (hX.below (bl1 (.cells #[.int .i64 x, .int .i64 y, .bool on] 38))).three
    have hX7 : w.heap.size < wr.heap.size := hX.lt
    clear hN
    generalize (stX l).take k = L4 at *
    generalize (stY l).take k = L5 at *
    go_wp2_with (at_builtin; refine wpList_append_gi rfl _ _ rfl w.heap.size _ L4 rfl hT4a (wr.heap.size + 1) dx rfl hgl n0 hdxi hl4 hbs ?_)
    intro v4 w4 hT4b hgrow hown
    have hB4 : Below w.heap.size w w4 := hB1.grown hgrow hbs (fun k hk => (hT4a.lo hk).1)
    have hT5b := hT5a.grown hgrow (fun g hg e => hap g e hg)
    have hXb := hXa.grown hgrow n4x
    have hYb := hY.grown hgrow n4
    have hap2 : ∀ g, v4.ownBlock = some g → (Value.slice a5 L5.length c5).ownBlock ≠ some g := fun g hg e => by
      rcases hown with ho | ho
      · exact hap g (ho.symm.trans hg) e
      · rw [ho] at hg
        cases hg
        exact absurd (hT5a.lo e).2 (by simp)
    have HAP2 : Hid (∀ g, v4.ownBlock = some g → (Value.slice a5 L5.length c5).ownBlock ≠ some g) := hap2
    rw [← HSX.out] at hT4b
    clear hgrow hown hT4a hT5a hXa hY n0 hgl hbs n4 n4x hb1 hB1 hT4 hT5 hX hB hap hap2 HSX hl4 q0 q1 q2 x6 y6 z6 x7 y7 z7
    have hb2 := bl1 (w := w4) (.cells #[.int .i64 dy] 3)
    have hB5 : Below w.heap.size w (w4.alloc (.cells #[.int .i64 dy] 3)) := hB4.trans (hb2.mono hB4.size)
    have hT4c := hT4b.below hb2
    have hT5c := hT5b.below hb2
    have hXc := hXb.below hb2
    have hYc := hYb.below hb2
    have hN := Bk.new 3 w4 [.int .i64 dy]
    have n0 := hN.cell 0 (by simp)
    have hgl : w4.heap.size < (w4.alloc (.cells #[.int .i64 dy] 3)).heap.size := hN.lt
    have hbs := hB5.size
    have n5x : (Value.slice a5 L5.length c5).ownBlock ≠ some w.heap.size := hT5c.ne hXc (by decide)
    have n5y : (Value.slice a5 L5.length c5).ownBlock ≠ some wr.heap.size := hT5c.ne hYc (by decide)
    obtain ⟨x6, y6, z6, _⟩ := hXb.three
    obtain ⟨x8, y8, z8, _⟩ := hYb.three
    clear hN
    go_wp2_with (at_builtin; refine wpList_append_gi rfl _ _ rfl w.heap.size _ L5 rfl hT5c w4.heap.size dy rfl hgl n0 hdyi hl5 hbs ?_)
    intro v5 w5 hT5d hgrow hown
    have hB6 : Below w.heap.size w w5 := hB5.grown hgrow hbs (fun k hk => (hT5c.lo hk).1)
    have hT4d := hT4c.grown hgrow (fun g hg e => HAP2.out g hg e)
    have hXd := hXc.grown hgrow n5x
    have hYd := hYc.grown hgrow n5y
    have HAP3 : Hid (∀ g, v4.ownBlock = some g → v5.ownBlock ≠ some g) := fun g hg e => by
      rcases hown with ho | ho
      · exact HAP2.out g hg (ho.symm.trans e)
      · rw [ho] at e
        cases e
        exact absurd (hT4c.lo hg).2 (by simp)
    rw [← HSY.out] at hT5d
    clear hgrow hown hT4b hT5b hXb hYb hT4c hT5c hXc hYc n0 hgl hbs n5x n5y hb2 hB4 hB5 HSY hl5 x6 y6 z6 x8 y8 z8 HAP2
    obtain ⟨x8, y8, z8, _⟩ := hYd.three
    obtain ⟨x6, y6, z6, f0, f1, f2⟩ := hXd.three
    have hXe := hXd.set3 (.int .i64 x) (.int .i64 y) (.bool on)
    have hT4e := hT4d.set3 hXd (by decide) (.int .i64 x) (.int .i64 y) (.bool on)
    have hT5e := hT5d.set3 hXd (by decide) (.int .i64 x) (.int .i64 y) (.bool on)
    have hB7 := below_s3 hB6 (Nat.le_refl _) (.int .i64 x) (.int .i64 y) (.bool on)
    clear hXd hYd hT4d hT5d hB6
    go_wp2
    go_roundw
    case rel => exact ⟨k + 1, by omega, by go_num, hT4e, hT5e, HAP3.out, by rw [HA1.out]; exact hXe, hB7⟩
    case measure => simp [intOf]; omega

set_option maxHeartbeats 4000000 in
set_option maxRecDepth 100000 in
theorem cflags_any (S : Nat → Prop) (a : Option Addr) (cap : Nat) (a1 : Option Addr) (c1 : Nat) (a2 : Option Addr) (c2 : Nat) (l : List Pn) (w : World) (h : Gr PnE S w a cap l) (hx : Ri w a1 c1 (stX l)) (hy : Ri w a2 c2 (stY l)) (hl : l.length ≤ 1000) :
    Calls Try.prog 22 #[.slice a l.length cap, .slice a1 (stX l).length c1, .slice a2 (stY l).length c2] w fun e w' => ∃ a3 c3, e = .returned (.slice a3 (flL l).length c3) ∧ Ri w' a3 c3 (flL l) ∧ (∀ b o, a3 = some ⟨b, o, none⟩ → w.heap.size ≤ b ∧ b < w'.heap.size) ∧ Below w.heap.size w w' := by
  have HH : Hid (Gr PnE S w a cap l) := h
  have HX : Hid (Ri w a1 c1 (stX l)) := hx
  have HY : Hid (Ri w a2 c2 (stY l)) := hy
  have hlx := stX_len l
  have hly := stY_len l
  have HLX : Hid ((stX l).length = l.length) := hlx
  have HLY : Hid ((stY l).length = l.length) := hly
  rw [hlx, hly]
  clear h hx hy hlx hly
  go_enter Try.func22, Try.ntmps22
  go_wp2
  go_loopw [7, 13] (fun v i wr => ∃ k : Nat, k ≤ l.length ∧ i = .int .i64 k ∧ Gi w.heap.size wr v ((flL l).take k) ∧ Below w.heap.size w wr) (fun _ i _ => l.length - (intOf i).toNat)
  case atStart => exact ⟨0, Nat.zero_le _, rfl, Gi.nil _ _, Below.refl _ _⟩
  case round =>
    obtain ⟨k, hk, rfl, hG7, hB⟩ := hrel
    obtain ⟨a7, c7, rfl, hr7, hb7⟩ := hG7.slice
    by_cases hkn : k < l.length
    rotate_left
    · obtain rfl : k = l.length := by omega
      have HB7 : Hid (∀ b o, a7 = some ⟨b, o, none⟩ → w.heap.size ≤ b ∧ b < wr.heap.size) := hb7
      rw [List.take_of_length_le (by rw [flL_len]; exact Nat.le_refl _)] at hr7 ⊢
      have g1 : ¬ (l.length : Int) < (l.length : Int) := by omega
      clear hG7 hb7
      go_wp2
      go_ret
      exact ⟨a7, c7, rfl, hr7, HB7.out, hB⟩
    obtain ⟨b, off, ea, hb, ⟨w0, w1⟩, q0, q1, q2⟩ := HH.out.pn hB k hkn
    have bp1 := bl1 (w := wr) (.cells #[.int .i64 (l.getD k Pn.none).x, .int .i64 (l.getD k Pn.none).y, .bool (l.getD k Pn.none).on] 38)
    have hB1 := hB.trans (bp1.mono hB.size)
    obtain ⟨b1, o1, e1, hb1, d1⟩ := HX.out.at hB1 k (by rw [HLX.out]; exact hkn)
    obtain ⟨b2, o2, e2, hb2, d2⟩ := HY.out.at hB1 k (by rw [HLY.out]; exact hkn)
    subst ea e1 e2
    have HFL := take_more (l := flL l) (by rw [flL_len]; exact hkn) (flL_get hkn)
    obtain ⟨o1a, o2a, o3a, o4a⟩ := or_xy ((stX l).getD k 0) ((stY l).getD k 0)
    have hmx := fun U => cmark_any ((stX l).getD k 0) 2 16 U or_x
    have hmy := fun U => cmark_any ((stY l).getD k 0) 4 32 U or_y
    have hll : ((flL l).take k).length + 1 ≤ 1000000 := by rw [List.length_take, flL_len]; omega
    have hX := Bk.new 38 wr [.int .i64 (l.getD k Pn.none).x, .int .i64 (l.getD k Pn.none).y, .bool (l.getD k Pn.none).on]
    have hX : Bk 38 (wr.alloc (.cells #[.int .i64 (l.getD k Pn.none).x, .int .i64 (l.getD k Pn.none).y, .bool (l.getD k Pn.none).on] 38)) wr.heap.size [.int .i64 (l.getD k Pn.none).x, .int .i64 (l.getD k Pn.none).y, .bool (l.getD k Pn.none).on] := hX
    replace hG7 := hG7.below bp1
    generalize l.getD k Pn.none = p at *
    obtain ⟨x, y, on⟩ := p
    dsimp only at w0 w1 q0 q1 q2 hX hB1 d1 d2 hG7
    generalize axI ((stX l).getD k 0) 2 16 = fx at *
    generalize axI ((stY l).getD k 0) 4 32 = fy at *
    generalize (stX l).getD k 0 = dx at *
    generalize (stY l).getD k 0 = dy at *
    obtain ⟨W, hW⟩ : ∃ W, W = wr.alloc (.cells #[.int .i64 x, .int .i64 y, .bool on] 38) := ⟨_, rfl⟩
    have HFL : Hid (_) := HFL
    rw [← hW] at hX hB1 d1 d2 hG7
    generalize (flL l).take k = L7 at *
    obtain ⟨r, hr⟩ : ∃ r, fx + fy = r := ⟨_, rfl⟩
    rw [hr] at o1a o2a o3a o4a HFL
    have A1 : Cl W b1 (o1 + k) (.int .i64 dx) := ⟨World.block_lt_of_cell? W _ d1, d1⟩
    have A2 : Cl W b2 (o2 + k) (.int .i64 dy) := ⟨World.block_lt_of_cell? W _ d2, d2⟩
    have i1 : (0 : Int) ≤ (k : Int) := by omega
    have i2 : (k : Int) < (l.length : Int) := by omega
    clear hr7 hb7 hB bp1 hr
    go_upto_region 5 with fail
    rw [← hW]
    clear hW q0 q1 q2
    refine wp_region_held_drew (S := (fun u => u.cell? ⟨b1, o1 + k, none⟩ = some (.int .i64 dx) ∧ u.cell? ⟨b2, o2 + k, none⟩ = some (.int .i64 dy))) (by kernel_rfl) ?_ (fun hHeld => ?_)
    · (try dsimp only)
      go_keep
    have hdr : Below W.heap.size W W.drew := Below.drew1
    generalize W.drew = ud at hdr hHeld ⊢
    replace A1 := A1.below hdr
    replace A2 := A2.below hdr
    replace hX := hX.below hdr
    replace hG7 := hG7.below hdr
    replace hB1 := hB1.trans (hdr.mono hB1.size)
    clear hdr d1 d2
    refine hT 0 hHeld ?_
    refine hT 1 hHeld ?_
    refine hT 2 hHeld ?_
    refine hT 3 hHeld ?_
    refine hT 5 hHeld ?_
    refine hT 6 hHeld ?_
    refine hT 7 hHeld ?_
    refine hT 8 hHeld ?_
    refine hCall (i := 4) rfl (by kernel_rfl) (by rfl) (fun K hK => ?_)
    go_simp
    refine (hmx _).mono ?_
    rintro e u1 ⟨rfl, rfl⟩
    go_wp2_with fail
    refine hK.out _ _ ?_ (fun hHeld => ?_)
    · (try dsimp only)
      exact ⟨A1.2, A2.2⟩
    clear hK K
    try simp only [Act.put, List.setIfInBounds_toArray, List.set_cons_zero, List.set_cons_succ]
    refine hCall (i := 9) rfl (by kernel_rfl) (by rfl) (fun K hK => ?_)
    go_simp
    refine (hmy _).mono ?_
    rintro e u1 ⟨rfl, rfl⟩
    go_wp2_with fail
    refine hK.out _ _ ?_ (fun hHeld => ?_)
    · (try dsimp only)
      exact ⟨A1.2, A2.2⟩
    clear hK K
    try simp only [Act.put, List.setIfInBounds_toArray, List.set_cons_zero, List.set_cons_succ]
    refine hT 10 hHeld ?_
    refine hT 11 hHeld ?_
    refine wpAnyH_done (by kernel_rfl) ?_ _
    clear hHeld hmx hmy A1 A2
    obtain ⟨x8, y8, z8, _⟩ := hX.three
    obtain ⟨n, hn⟩ : ∃ n, (if on = true then r + 1 else r) = n := ⟨_, rfl⟩
    have HFN : Hid ((flL l).take (k + 1) = L7 ++ [n]) := by
      show _ = _
      rw [HFL.out, ← hn]
      cases on <;> simp
    have hni : I64 n := by rw [← hn]; constructor <;> split <;> omega
    have HN : Hid ((on = true → r + 1 = n) ∧ (on = false → r = n)) := by rw [← hn]; constructor <;> intro h <;> simp [h]
    clear HFL hn
    have bp2 := bl1 (w := ud) (.cells #[.int .i64 n] 3)
    have hT5 := hG7.below bp2
    have hN := Bk.new 3 ud [.int .i64 n]
    have n0 := hN.cell 0 (by simp)
    have hgl : ud.heap.size < (ud.alloc (.cells #[.int .i64 n] 3)).heap.size := hN.lt
    have hB5 := hB1.trans (bp2.mono hB1.size)
    have hbs := hB5.size
    clear hN bp2
    cases on with
    | true =>
      obtain rfl := HN.out.1 rfl
      go_wp2_with (at_builtin; refine wpList_append_gi rfl _ _ rfl w.heap.size _ L7 rfl hT5 ud.heap.size (r + 1) rfl hgl n0 hni hll hbs ?_)
      intro v9 w9 hT9 hgrow _
      have hB9 : Below w.heap.size w w9 := hB5.grown hgrow hbs (fun k hk => (hT5.lo hk).1)
      rw [← HFN.out] at hT9
      clear hgrow hT5 n0 hgl hbs HFN HN hB5
      go_wp2
      go_roundw
      case rel => exact ⟨k + 1, by omega, by go_num, hT9, hB9⟩
      case measure => simp [intOf]; omega
    | false =>
      obtain rfl := HN.out.2 rfl
      go_wp2_with (at_builtin; refine wpList_append_gi rfl _ _ rfl w.heap.size _ L7 rfl hT5 ud.heap.size r rfl hgl n0 hni hll hbs ?_)
      intro v9 w9 hT9 hgrow _
      have hB9 : Below w.heap.size w w9 := hB5.grown hgrow hbs (fun k hk => (hT5.lo hk).1)
      rw [← HFN.out] at hT9
      clear hgrow hT5 n0 hgl hbs HFN HN hB5
      go_wp2
      go_roundw
      case rel => exact ⟨k + 1, by omega, by go_num, hT9, hB9⟩
      case measure => simp [intOf]; omega

end Go.Proofs.Ytdojgkejpfdaeaa
