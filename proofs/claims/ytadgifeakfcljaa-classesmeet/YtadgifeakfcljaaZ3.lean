/-
  A block of cells, known whole (Bk). Nothing here is a walk.
  foundryref06.SameInts: the walk.
  foundrylaw19.awake, few; foundryref06.SameInts of any two rows: the walks.
  Regions that draw their order, step by step: the kit's own laws with the operation taken out of a written list. Nothing here is a walk.
  slices.Backward over a row of ints, and what it gives: the walks of the iterator.
-/
import Derived.Test.YtadgifeakfcljaaZ1
import Derived.Test.YtadgifeakfcljaaZ2
import Derived.BigQuiet
import Derived.Deep.QuietTactic
import Derived.WalkSmall
import Derived.Outline
import Derived.Deep.CutBlock
import Derived.Deep.CutRange
import Derived.Test.YtadgifeakfcljaaChecked
import Derived.Deep.RegionHeld3
import Derived.WalkKit
import Derived.RangeFuncNested
import Derived.RangeFuncBound
import Derived.RangeFuncCalls
import Derived.RangeFuncLeaves
import Derived.RangeFuncBox
import Derived.Shelf.Abstract
import Derived.Shelf.RegionOpen
import Derived.OwnWalkIn
import Derived.TacticsInMore
import Derived.LoopNIn
import Derived.LoopIn
namespace Go.Proofs.Ytadgifeakfcljaa
open Go.RowKit Go.Maps
set_option linter.unusedSimpArgs false
set_option linter.unusedVariables false

/-- A block that holds these cells, and may be written. -/
def Bk (t : TypeId) (w : World) (g : Nat) (cs : List Value) : Prop := w.heap[g]? = some (.cells cs.toArray t (0, 0))
theorem Bk.lt {t : TypeId} {w : World} {g : Nat} {cs : List Value} (h : Bk t w g cs) : g < w.heap.size := (Array.getElem?_eq_some_iff.1 h).1
theorem Bk.below {t : TypeId} {w w' : World} {g : Nat} {cs : List Value} (h : Bk t w g cs) (hb : Below w.heap.size w w') : Bk t w' g cs := (hb.block g h.lt).trans h
theorem Bk.kept {t : TypeId} {G : Nat → Prop} {w w' : World} {g : Nat} {cs : List Value} (h : Bk t w g cs) (hk : Keep G w w') (hg : G g) : Bk t w' g cs := (hk.block g hg).trans h
theorem Bk.new (t : TypeId) (w : World) (cs : List Value) : Bk t (w.alloc (.cells cs.toArray t)) w.heap.size cs := heap_alloc_new w _
theorem Bk.new1 (t : TypeId) (w : World) (o : Obj) (cs : List Value) : Bk t ((w.alloc o).alloc (.cells cs.toArray t)) (w.heap.size + 1) cs := by
  have h := Bk.new t (w.alloc o) cs
  simpa using h
theorem Bk.cell {t : TypeId} {w : World} {g : Nat} {cs : List Value} (h : Bk t w g cs) (j : Nat) (hj : j < cs.length) : w.cell? ⟨g, j, none⟩ = cs[j]? := by
  rw [cell_of_row w g j _ _ (0, 0) h]
  simp
theorem Bk.fz {t : TypeId} {w : World} {g : Nat} {cs : List Value} (h : Bk t w g cs) (j : Nat) : w.frozen? ⟨g, j, none⟩ = false := frozen_of_row w g j _ _ h
theorem Bk.two {t : TypeId} {w : World} {g : Nat} {x y : Value} (h : Bk t w g [x, y]) : w.cell? ⟨g, 0, none⟩ = some x ∧ w.cell? ⟨g, 1, none⟩ = some y ∧ w.frozen? ⟨g, 0, none⟩ = false ∧ w.frozen? ⟨g, 1, none⟩ = false :=
  ⟨h.cell 0 (by simp), h.cell 1 (by simp), h.fz 0, h.fz 1⟩
theorem Bk.three {t : TypeId} {w : World} {g : Nat} {x y z : Value} (h : Bk t w g [x, y, z]) : w.cell? ⟨g, 0, none⟩ = some x ∧ w.cell? ⟨g, 1, none⟩ = some y ∧ w.cell? ⟨g, 2, none⟩ = some z ∧ w.frozen? ⟨g, 0, none⟩ = false ∧ w.frozen? ⟨g, 1, none⟩ = false ∧ w.frozen? ⟨g, 2, none⟩ = false :=
  ⟨h.cell 0 (by simp), h.cell 1 (by simp), h.cell 2 (by simp), h.fz 0, h.fz 1, h.fz 2⟩
theorem Bk.four {t : TypeId} {w : World} {g : Nat} {x y z u : Value} (h : Bk t w g [x, y, z, u]) : w.cell? ⟨g, 0, none⟩ = some x ∧ w.cell? ⟨g, 1, none⟩ = some y ∧ w.cell? ⟨g, 2, none⟩ = some z ∧ w.cell? ⟨g, 3, none⟩ = some u ∧ w.frozen? ⟨g, 0, none⟩ = false ∧ w.frozen? ⟨g, 1, none⟩ = false ∧ w.frozen? ⟨g, 2, none⟩ = false ∧ w.frozen? ⟨g, 3, none⟩ = false :=
  ⟨h.cell 0 (by simp), h.cell 1 (by simp), h.cell 2 (by simp), h.cell 3 (by simp), h.fz 0, h.fz 1, h.fz 2, h.fz 3⟩
theorem Bk.set {t : TypeId} {w : World} {g : Nat} {cs : List Value} (h : Bk t w g cs) (j : Nat) (z : Value) : Bk t (w.setCell ⟨g, j, none⟩ z) g (cs.set j z) := by
  have := heap_setCell_same w g j _ _ z h
  unfold Bk
  rw [this]
  simp
theorem Bk.other {t : TypeId} {w : World} {g b : Nat} {cs : List Value} (h : Bk t w g cs) (j : Nat) (z : Value) (hb : g ≠ b) : Bk t (w.setCell ⟨b, j, none⟩ z) g cs := (Below.heap_setCell _ _ _ _ (fun e => hb e)).trans h
theorem Bk.grown {t : TypeId} {w w' : World} {g : Nat} {cs : List Value} {v : Option Nat} (h : Bk t w g cs) (hg : w.grownBy w' v) (hv : v ≠ some g) : Bk t w' g cs := (hg.block g h.lt (fun e => hv e.symm)).trans h

end Go.Proofs.Ytadgifeakfcljaa

namespace Go.Proofs.Ytadgifeakfcljaa
open Go.RowKit Go.Maps
set_option linter.unusedSimpArgs false
set_option linter.unusedVariables false

set_option maxHeartbeats 1000000 in
set_option maxRecDepth 100000 in
theorem ssameI_any (a b : Option Addr) (ca cb : Nat) (zs : List Int) (w : World) (ha : Ri w a ca zs) (hb : Ri w b cb zs) :
    Calls Try.prog 18 #[.slice a zs.length ca, .slice b zs.length cb] w fun e w' => e = .returned (.bool true) ∧ Below w.heap.size w w' := by
  have k1 := ha.2.1
  have k2 := ha.2.2.1
  unfold maxLen at k2
  have hne : ((zs.length : Int) != (zs.length : Int)) = false := by simp
  have HA : Hid (Ri w a ca zs) := ha
  have HB : Hid (Ri w b cb zs) := hb
  clear ha hb
  go_enter Try.func18, Try.ntmps18
  go_wp2
  go_loopw [5] (fun i wr => ∃ k : Nat, k ≤ zs.length ∧ i = .int .i64 k ∧ Below w.heap.size w wr) (fun i _ => zs.length - (intOf i).toNat)
  case atStart => exact ⟨0, Nat.zero_le _, rfl, Below.refl _ _⟩
  case round =>
    obtain ⟨k, hk, rfl, hnx⟩ := hrel
    by_cases hkn : k < zs.length
    · obtain ⟨b1, o1, rfl, _, c1⟩ := HA.out.at hnx k hkn
      obtain ⟨b2, o2, rfl, _, c2⟩ := HB.out.at hnx k hkn
      obtain ⟨x, hx⟩ : ∃ x, zs.getD k 0 = x := ⟨_, rfl⟩
      rw [hx] at c1 c2
      have hxx : ((x : Int) != (x : Int)) = false := by simp
      clear hx
      have i1 : (0 : Int) ≤ (k : Int) := by omega
      have i2 : (k : Int) < (zs.length : Int) := by omega
      go_wp2_with fail
      go_quiet (fail)
      go_wp2
      go_roundw
      case rel => exact ⟨k + 1, by omega, by go_num, below_drewN hnx _⟩
      case measure => simp [intOf]; omega
    · go_wp2
      go_ret
      exact ⟨rfl, hnx⟩

end Go.Proofs.Ytadgifeakfcljaa

namespace Go.Proofs.Ytadgifeakfcljaa
open Go.RowKit Go.Maps
set_option linter.unusedSimpArgs false
set_option linter.unusedVariables false

theorem bk_bools {S : Nat → Prop} {t : TypeId} {w : World} {g : Nat} {ms : List Bool} (h : Bk t w g (ms.map Value.bool)) (hl : ms.length ≤ 1000) : Gr El.bool S w (some ⟨g, 0, none⟩) ms.length ms := by
  refine ⟨Nat.le_refl _, by unfold maxLen; omega, (fun e => by cases e), fun i hi => ⟨g, 0, [.bool (ms.getD i false)], rfl, h.lt, rfl, fun j hj => ?_⟩⟩
  obtain rfl : j = 0 := by simp [El.bool] at hj; exact hj
  show w.cell? ⟨g, 0 + i * 1 + 0, none⟩ = _
  rw [Nat.zero_add, Nat.mul_one, Nat.add_zero, h.cell i (by rw [List.length_map]; exact hi)]
  simp [List.getD, hi]
theorem bk_ints {t : TypeId} {w : World} {g : Nat} {zs : List Int} (h : Bk t w g (zs.map (Value.int .i64))) (hz : ∀ z ∈ zs, I64 z) (hl : zs.length ≤ 1000) : Ri w (some ⟨g, 0, none⟩) zs.length zs := by
  refine ⟨hz, Nat.le_refl _, by unfold maxLen; omega, .inr ⟨g, 0, rfl, h.lt, fun i hi => ?_⟩⟩
  rw [Nat.zero_add, h.cell i (by rw [List.length_map]; exact hi)]
  simp [List.getD, hi]

set_option maxHeartbeats 2000000 in
set_option maxRecDepth 100000 in
theorem awake19_any (w : World) :
    Calls Try.prog 8 #[] w fun e w' => e = .returned (.bool true) ∧ Below w.heap.size w w' := by
  obtain ⟨U, hU, X1, hbU⟩ : ∃ U, U = w.alloc (.cells #[.bool false, .bool true] 4) ∧ Bk 4 U w.heap.size [.bool false, .bool true] ∧ Below w.heap.size w U := ⟨_, rfl, Bk.new _ _ _, bl1 _⟩
  have hmk := cmark_any (fun _ => True) (some ⟨w.heap.size, 0, none⟩) 2 [false, true] 1 U (bk_bools (ms := [false, true]) X1 (by decide)) ⟨by decide, by decide⟩
  rw [show mkB [false, true] 1 = true from by decide] at hmk
  replace hmk : Calls Try.prog 14 #[.slice (some ⟨w.heap.size, 0, none⟩) 2 2, .int .i64 1] U fun e w' => e = .returned (.bool true) ∧ Below U.heap.size U w' := hmk
  clear X1
  go_enter Try.func8, Try.ntmps8
  go_wp2_with fail
  rw [← hU]
  clear hU
  refine hmk.mono ?_
  rintro e u ⟨rfl, hb⟩
  have hBu := hbU.trans (hb.mono hbU.size)
  obtain ⟨V, hV, X2, X3, hbV⟩ : ∃ V, V = (u.alloc (.cells #[.int .i64 0, .int .i64 1, .int .i64 0] 3)).alloc (.cells #[.bool false, .bool true] 4) ∧ Bk 3 V u.heap.size [.int .i64 0, .int .i64 1, .int .i64 0] ∧ Bk 4 V (u.heap.size + 1) [.bool false, .bool true] ∧ Below u.heap.size u V := ⟨_, rfl, (Bk.new _ _ _).below (bl1 _), Bk.new1 _ _ _ _, bl2 _ _⟩
  have hnx := cnext_any (fun _ => True) (some ⟨u.heap.size, 0, none⟩) 3 [0, 1, 0] (some ⟨u.heap.size + 1, 0, none⟩) 2 [false, true] 0 true V (bk_ints (zs := [0, 1, 0]) X2 (fun z hz => by
    simp at hz
    rcases hz with rfl | rfl | rfl <;> exact ⟨by decide, by decide⟩) (by decide)) (bk_bools (ms := [false, true]) X3 (by decide)) ⟨by decide, by decide⟩
  rw [show nxQ [false, true] [0, 1, 0] true 0 = 2 from by decide] at hnx
  replace hnx : Calls Try.prog 10 #[.slice (some ⟨u.heap.size, 0, none⟩) 3 3, .slice (some ⟨u.heap.size + 1, 0, none⟩) 2 2, .int .i64 0, .bool true] V fun e w' => e = .returned (.int .i64 2) ∧ Below V.heap.size V w' := hnx
  have hBV := hBu.trans (hbV.mono hBu.size)
  clear X2 X3 hmk hb hbV hBu
  go_wp2_with fail
  rw [← hV]
  clear hV
  refine hnx.mono ?_
  rintro e u2 ⟨rfl, hb2⟩
  have hfin := hBV.trans (hb2.mono hBV.size)
  clear hnx
  go_wp2
  go_ret
  exact ⟨rfl, hfin⟩

/-- Whether a line is of a size that is looked at. -/
def feB (L : List Int) (ms : List Bool) : Bool := decide (L.length ≤ 200) && decide (ms.length ≤ 1000)
theorem feB_iff {L : List Int} {ms : List Bool} : feB L ms = true ↔ L.length ≤ 200 ∧ ms.length ≤ 1000 := by unfold feB; rw [Bool.and_eq_true, decide_eq_true_iff, decide_eq_true_iff]

set_option maxHeartbeats 1000000 in
set_option maxRecDepth 100000 in
theorem few19_any (a : Option Addr) (ca : Nat) (L : List Int) (b : Option Addr) (cb : Nat) (ms : List Bool) (w : World) (k1 : L.length ≤ 9223372036854775807) (k2 : ms.length ≤ 9223372036854775807) :
    Calls Try.prog 9 #[.agg #[.slice a L.length ca, .slice b ms.length cb]] w fun e w' => e = .returned (.bool (feB L ms)) ∧ Below w.heap.size w w' := by
  obtain ⟨U, hU, X1, hbU⟩ : ∃ U, U = w.alloc (.cells #[.slice a L.length ca, .slice b ms.length cb] 25) ∧ Bk 25 U w.heap.size [.slice a L.length ca, .slice b ms.length cb] ∧ Below w.heap.size w U := ⟨_, rfl, Bk.new _ _ _, bl1 _⟩
  obtain ⟨x0, x1, -⟩ := X1.two
  have d2 : decide ((ms.length : Int) ≤ 1000) = decide (ms.length ≤ 1000) := by rw [Bool.eq_iff_iff, decide_eq_true_iff, decide_eq_true_iff]; omega
  by_cases f1 : L.length ≤ 200
  · have d1 : decide ((L.length : Int) ≤ 200) = true := decide_eq_true (by omega)
    have HF : Hid (feB L ms = decide (ms.length ≤ 1000)) := by show _ = _; unfold feB; rw [decide_eq_true f1]; rfl
    clear f1 X1
    go_enter Try.func9, Try.ntmps9
    go_upto_region 1 with fail
    rw [← hU]
    clear hU
    go_wp2
    go_ret
    exact ⟨rt_bool HF.out.symm, hbU⟩
  · have d1 : decide ((L.length : Int) ≤ 200) = false := decide_eq_false (by omega)
    have HF : Hid (feB L ms = false) := by show _ = _; unfold feB; rw [decide_eq_false f1]; rfl
    clear f1 X1 d2
    go_enter Try.func9, Try.ntmps9
    go_upto_region 1 with fail
    rw [← hU]
    clear hU
    go_wp2
    go_ret
    exact ⟨rt_bool HF.out.symm, hbU⟩

theorem two_cY {n b p q : Nat} {w U : World} {v0 v1 : Value} (hb : Below n w U) (hlt : b < n) (hC : w.cell? ⟨b, p, none⟩ = some v0 ∧ w.cell? ⟨b, q, none⟩ = some v1) : U.cell? ⟨b, p, none⟩ = some v0 ∧ U.cell? ⟨b, q, none⟩ = some v1 :=
  ⟨(hb.cell (p := ⟨b, p, none⟩) hlt).trans hC.1, (hb.cell (p := ⟨b, q, none⟩) hlt).trans hC.2⟩

end Go.Proofs.Ytadgifeakfcljaa

namespace Go.Proofs.Ytadgifeakfcljaa
open Go.RowKit

/-- The operation at a place of a list. -/
def nth : List Oper → Nat → Option Oper
  | [], _ => none
  | o :: _, 0 => some o
  | _ :: l, n + 1 => nth l n
theorem nth_eq : ∀ (l : List Oper) (i : Nat), nth l i = l.toArray[i]? := by
  intro l
  induction l with
  | nil => intro i; simp [nth]
  | cons o l ih =>
    intro i
    cases i with
    | zero => simp [nth]
    | succ i => simp [nth, ih i]

theorem hTake {P : Program} {md : Region.Mode} {l : List Oper} {Q : Exit → Act → World → Prop} {S : World → Prop} {i : Nat} {o : Oper} {v : Value} {fuel : Nat} {listed : Array Bool} {a : Act} {w : World} (hi : nth l i = some o)
    (hs : Region.noSelect l.toArray = true) (hf : Region.free md l.toArray listed i = true) (hr : (Region.ready md l.toArray listed).contains i = true)
    (hQ : ∀ c a w, Q (.panic c) (a.put o.dst v) w → Q (.panic c) a w) (hy : YieldsIf P l.toArray S o v a) (hS : S w)
    (h : wpAnyH P md l.toArray Q S fuel (listed.setIfInBounds i true) (a.put o.dst v) w) : wpAnyH P md l.toArray Q S (fuel + 1) listed a w :=
  wpAnyH_take ((nth_eq l i).symm.trans hi) hs hf hr hQ hy hS h

theorem hCall {P : Program} {md : Region.Mode} {l : List Oper} {Q : Exit → Act → World → Prop} {S : World → Prop} {i : Nat} {o : Oper} {fuel : Nat} {listed : Array Bool} {a : Act} {w : World} (hi : nth l i = some o)
    (hr : Region.ready md l.toArray listed = [i]) (hw : Region.wanted o (yielded l.toArray a.tmps) = true)
    (h : ∀ K : Act → World → Prop, Shut (∀ a w, S w → (S w → wpAnyH P md l.toArray Q S fuel (listed.setIfInBounds i true) a w) → K a w) → Oper.wp P o a w K Q) :
    wpAnyH P md l.toArray Q S (fuel + 1) listed a w :=
  wpAnyH_ready hr (by simp) (AllReadyH.cons ((nth_eq l i).symm.trans hi) (fun K hK => by rw [if_pos hw]; exact h K hK) AllReadyH.nil)

theorem hCons {P : Program} {md : Region.Mode} {l : List Oper} {Q : Exit → Act → World → Prop} {S : World → Prop} {i : Nat} {o : Oper} {fuel : Nat} {listed : Array Bool} {a : Act} {w : World} {rs : List Nat} (hi : nth l i = some o)
    (hw : Region.wanted o (yielded l.toArray a.tmps) = true)
    (h : ∀ K : Act → World → Prop, Shut (∀ a w, S w → (S w → wpAnyH P md l.toArray Q S fuel (listed.setIfInBounds i true) a w) → K a w) → Oper.wp P o a w K Q)
    (hs : AllReadyH P md l.toArray Q S fuel listed a w rs) : AllReadyH P md l.toArray Q S fuel listed a w (i :: rs) :=
  AllReadyH.cons ((nth_eq l i).symm.trans hi) (fun K hK => by rw [if_pos hw]; exact h K hK) hs

/-- An operation that is carried out and only reads. -/
theorem hT {P : Program} {md : Region.Mode} {l : List Oper} {Q : Exit → Act → World → Prop} {S : World → Prop} (i : Nat) {o : Oper} {v : Value} {fuel : Nat} {listed : Array Bool} {a a2 : Act} {w : World} (hS : S w)
    (h : wpAnyH P md l.toArray Q S fuel (listed.setIfInBounds i true) a2 w)
    (hi : nth l i = some o := by rfl) (hs : Region.noSelect l.toArray = true := by kernel_rfl) (hf : Region.free md l.toArray listed i = true := by kernel_rfl) (hr : (Region.ready md l.toArray listed).contains i = true := by kernel_rfl)
    (hQ : ∀ c a w, Q (.panic c) (a.put o.dst v) w → Q (.panic c) a w := by exact fun _ _ _ h => h) (hw : Region.wanted o (yielded l.toArray a.tmps) = true := by rfl)
    (hy : ∀ w9, S w9 → (execOp a.eval o).run P w9 = .ok (.value v) w9 := by intro w9 hSw; (try dsimp only at hSw); go_simp; try with_reducible rfl)
    (ha : a.put o.dst v = a2 := by (try simp only [Act.put, List.setIfInBounds_toArray, List.set_cons_zero, List.set_cons_succ]); try rfl) : wpAnyH P md l.toArray Q S (fuel + 1) listed a w := by
  subst ha
  exact wpAnyH_take ((nth_eq l i).symm.trans hi) hs hf hr hQ (Or.inl ⟨hw, hy⟩) hS h

/-- An operation that is not wanted. -/
theorem hN {P : Program} {md : Region.Mode} {l : List Oper} {Q : Exit → Act → World → Prop} {S : World → Prop} (i : Nat) {o : Oper} {fuel : Nat} {listed : Array Bool} {a a2 : Act} {w : World} (hS : S w)
    (h : wpAnyH P md l.toArray Q S fuel (listed.setIfInBounds i true) a2 w)
    (hi : nth l i = some o := by rfl) (hs : Region.noSelect l.toArray = true := by kernel_rfl) (hf : Region.free md l.toArray listed i = true := by kernel_rfl) (hr : (Region.ready md l.toArray listed).contains i = true := by kernel_rfl)
    (hQ : ∀ c a w, Q (.panic c) (a.put o.dst undef) w → Q (.panic c) a w := by exact fun _ _ _ h => h) (hw : Region.wanted o (yielded l.toArray a.tmps) = false := by rfl)
    (ha : a.put o.dst undef = a2 := by (try simp only [Act.put, List.setIfInBounds_toArray, List.set_cons_zero, List.set_cons_succ]); try rfl) : wpAnyH P md l.toArray Q S (fuel + 1) listed a w := by
  subst ha
  exact wpAnyH_take ((nth_eq l i).symm.trans hi) hs hf hr hQ (Or.inr ⟨hw, rfl⟩) hS h

end Go.Proofs.Ytadgifeakfcljaa

namespace Go.Proofs.Ytadgifeakfcljaa
open Go.RowKit Go.Maps Go.Shelf
set_option linter.unusedSimpArgs false
set_option linter.unusedVariables false
attribute [local go_sem] Oper.semAt_some

/-- The places of a row that are there. -/
abbrev Ix19 (n : Nat) := { j : Nat // j < n }
/-- What has come when r rounds are over. -/
def dnL (n r : Nat) : List Nat := (List.range r).map (fun j => n - 1 - j)
theorem dnL_succ (n r : Nat) : dnL n (r + 1) = dnL n r ++ [n - 1 - r] := by simp [dnL, List.range_succ]
theorem dnL_len (n r : Nat) : (dnL n r).length = r := by simp [dnL]
theorem dnL_mem {n r i : Nat} : i ∈ dnL n r ↔ ∃ j, j < r ∧ n - 1 - j = i := by simp [dnL]
def vals19 {n : Nat} (xs : List (Ix19 n)) : List Nat := xs.map (fun x => x.1)
theorem vals19_app {n : Nat} (xs : List (Ix19 n)) (x : Ix19 n) : vals19 (xs ++ [x]) = vals19 xs ++ [x.1] := by simp [vals19]

set_option maxRecDepth 100000 in
set_option maxHeartbeats 2000000 in
set_option maxRecDepth 100000 in
theorem back1_in (F : Fence) (n : Nat) (hf : F.fn 26) (hro : F.round = none) (hn : 1 ≤ n) (l Bs n₀ b off len cap : Nat) (f : Nat → Int) (hreach : len ≤ 9223372036854775807) (hb : b < n₀) (hBn : Bs < n₀) (J Jx : List (Ix19 len) → World → Prop)
    (hY : ∀ (pre : List (Ix19 len)) (x : Ix19 len) W, J pre W → pre.length < len → YieldAt F (n - 1) Try.prog l #[.int .i64 (x.1 : Int), .int .i64 (f x.1)] W fun e W' =>
      (e = .returned (.bool true) ∧ J (pre ++ [x]) W' ∧ Below n₀ W W') ∨ (e = .returned (.bool false) ∧ Jx (pre ++ [x]) W'))
    (W : World) (hBs : W.cell? ⟨Bs, 0, none⟩ = some (.slice (some ⟨b, off, none⟩) len cap)) (hc : ∀ j, j < len → W.cell? ⟨b, off + j, none⟩ = some (.int .i64 (f j))) (h0 : J [] W) :
    CallsIn F n Try.prog 26 #[.func (.yield l) #[] #[], .pointer (some ⟨Bs, 0, none⟩)] W fun e W' => (∃ v, e = .returned v) ∧
      ((∃ ys : List (Ix19 len), vals19 ys = dnL len len ∧ J ys W') ∨ (∃ pre : List (Ix19 len), (∃ k, k ≤ len ∧ vals19 pre = dnL len k) ∧ Jx pre W')) := by
  refine callsIn_of_wp Try.func26 rfl hf ?_ hro
  simp only [Try.ntmps26, List.size_toArray, List.length_cons, List.length_nil, Nat.reduceAdd, Nat.reduceSub, Array.replicate_succ, Array.replicate_zero, List.push_toArray, List.append_toArray, List.nil_append, List.cons_append]
  gi_wp2
  gi_loopw [3] (fun i wr => ∃ (r : Nat) (z : Int) (pre : List (Ix19 len)), r ≤ len ∧ Hid (z = (len : Int) - 1 - (r : Int)) ∧ i = .int .i64 z ∧ Hid (vals19 pre = dnL len r) ∧ J pre wr ∧ Below n₀ W wr)
    (fun i _ => (intOf i + 1).toNat)
  case atStart => exact ⟨0, (len : Int) - 1, [], Nat.zero_le _, (by show _ = _; omega), rfl, rfl, h0, Below.refl _ _⟩
  case round =>
    obtain ⟨r, z, pre, hr, HZ, rfl, HP, hJs, hnx⟩ := hrel
    have cB := (hnx.cell (p := ⟨Bs, 0, none⟩) hBn).trans hBs
    by_cases hlt : r < len
    · obtain ⟨j, hj⟩ : ∃ j : Nat, len - 1 - r = j := ⟨_, rfl⟩
      obtain rfl : z = (j : Int) := by have := HZ.out; omega
      have hjl : j < len := by omega
      have c0 := (hnx.cell (p := ⟨b, off + j, none⟩) hb).trans (hc j hjl)
      have HPL : Hid (pre.length < len) := by
        have h1 : (vals19 pre).length = r := by rw [HP.out, dnL_len]
        show _ < _
        rw [← h1] at hlt
        simpa [vals19] using hlt
      have HP2 : Hid (vals19 (pre ++ [⟨j, hjl⟩]) = dnL len (r + 1)) := by show _ = _; rw [vals19_app, HP.out, dnL_succ, hj]
      have HZ2 : Hid ((j : Int) - 1 = (len : Int) - 1 - ((r + 1 : Nat) : Int)) := by show _ = _; have := HZ.out; omega
      have i1 : (0 : Int) ≤ (j : Int) := by omega
      have i2 : (j : Int) < (len : Int) := by omega
      have hYY := hY pre ⟨j, hjl⟩ wr hJs HPL.out
      dsimp only at hYY
      obtain ⟨fn, tmps, assign, body, hy, hR⟩ := hYY
      clear hj HZ HP HPL hY
      gi_wp2
      refine hR.mono ?_
      rintro e W3 (⟨rfl, hJ3, hk3⟩ | ⟨rfl, hJx3⟩)
      · gi_wp2
        go_roundw
        case rel => exact ⟨r + 1, _, _, by omega, HZ2, rfl, HP2, hJ3, hnx.trans hk3⟩
        case measure => simp [intOf]
      · gi_wp2
        refine bodyPost_ret (results_none rfl _ _ _) rfl ?_
        exact ⟨⟨_, rfl⟩, .inr ⟨_, ⟨r + 1, by omega, HP2.out⟩, hJx3⟩⟩
    · obtain rfl : r = len := by omega
      obtain rfl : z = -1 := by have := HZ.out; omega
      clear HZ hY
      gi_wp2
      go_end0
      exact ⟨⟨_, rfl⟩, .inl ⟨_, HP.out, hJs⟩⟩

set_option maxHeartbeats 1000000 in
set_option maxRecDepth 100000 in
theorem back_in (F : Fence) (n : Nat) (hf : F.fn 23) (hro : F.round = none) (a : Option Addr) (len cap : Nat) (w : World) :
    CallsIn F n Try.prog 23 #[.slice a len cap] w fun e w' => e = .returned (.func (.func 26) #[] #[.pointer (some ⟨w.heap.size, 0, none⟩)]) ∧ w' = w.alloc (.cells #[.slice a len cap] 22) := by
  refine callsIn_of_wp Try.func23 rfl hf ?_ hro
  simp only [Try.ntmps23, List.size_toArray, List.length_cons, List.length_nil, Nat.reduceAdd, Nat.reduceSub, Array.replicate_succ, Array.replicate_zero, List.push_toArray, List.append_toArray, List.nil_append, List.cons_append]
  gi_wp2
  go_ret
  exact ⟨rfl, rfl⟩

theorem back_stops (F : Fence) (n : Nat) (hf : F.fn 26) (hro : F.round = none) (hn : 1 ≤ n) (Bs n₀ b off len cap : Nat) (f : Nat → Int) (hreach : len ≤ 9223372036854775807) (w : World) (hBs : Bs < w.heap.size) (hBn : Bs < n₀) (hb : b < n₀) (hn₀ : n₀ ≤ w.heap.size)
    (hc : w.cell? ⟨Bs, 0, none⟩ = some (.slice (some ⟨b, off, none⟩) len cap)) (hI : ∀ j, j < len → w.cell? ⟨b, off + j, none⟩ = some (.int .i64 (f j))) :
    SeqStopsK F n Try.prog 26 #[.pointer (some ⟨Bs, 0, none⟩)] (fun x : Ix19 len => #[Value.int .i64 (x.1 : Int), Value.int .i64 (f x.1)]) (Below n₀) (fun ys => vals19 ys = dnL len len)
      (fun pre => ∃ k, k ≤ len ∧ vals19 pre = dnL len k) len w := fun l J Jx W hW _ _ hY h0 =>
  back1_in F n hf hro hn l Bs n₀ b off len cap f hreach hb hBn J Jx hY W ((hW.cell (p := ⟨Bs, 0, none⟩) hBs).trans hc) (fun j hj => (hW.cell (p := ⟨b, off + j, none⟩) (Nat.lt_of_lt_of_le hb hn₀)).trans (hI j hj)) h0

end Go.Proofs.Ytadgifeakfcljaa
