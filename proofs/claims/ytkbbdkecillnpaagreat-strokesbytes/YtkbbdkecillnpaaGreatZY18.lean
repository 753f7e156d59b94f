/-
  store.Fits, store.Formed: the walks.
  Regions that draw their order, step by step: the kit's own laws with the operation taken out of a written list. Nothing here is a walk.
  strokes.argsOf, isDrawing, stepFits, Formed: the walks.
  Rows of fractions: read (Rz), of the call's own (Ro), and how they grow: no cell of such a row is an integer, so no limb lies in it.
  Sums of fractions, half by half; what the laws of stores ask of mathematics; a part of a row of fractions that is read.
-/
import Derived.Test.YtkbbdkecillnpaaGreatZY17
import Derived.Test.YtkbbdkecillnpaaGreatChecked
import Derived.Deep.RegionHeld3
import Derived.WalkKit
import Derived.Test.YtkbbdkecillnpaaGreatZY8
import Derived.Deep.CutBlock
import Derived.Deep.CutRange
import Derived.BigQuiet
import Derived.Deep.QuietTactic
import Derived.WalkSmall
import Derived.Outline
import Derived.Test.YtkbbdkecillnpaaGreatZY14
import Derived.Test.YtkbbdkecillnpaaGreatZY1
import Derived.Laws.MakeOwn
import Derived.Test.YtkbbdkecillnpaaGreatZY16
import Derived.Test.YtkbbdkecillnpaaGreatZY15
namespace Go.Proofs.YtkbbdkecillnpaaGreat
open Go.RowKit Go.Maps
set_option linter.unusedSimpArgs false
set_option linter.unusedVariables false

set_option maxHeartbeats 2000000 in
set_option maxRecDepth 100000 in
theorem cfits_any (a : Option Addr) (ca : Nat) (b : Option Addr) (cb : Nat) (s : Sr) (x r : Int) (w : World) (hl : s.rw.length ≤ 9223372036854775807) (hx : I64 x) (hr : I64 r) :
    Calls Tryz.prog 46 #[.agg #[.slice a s.rg.length ca, .slice b s.rw.length cb], .agg #[.int .i64 x, .int .i64 r]] w fun e w' => e = .returned (.bool (fiS s x r)) ∧ Below w.heap.size w w' := by
  obtain ⟨W, hW, X1, X2, hbW⟩ : ∃ W, W = (w.alloc (.cells #[.slice a s.rg.length ca, .slice b s.rw.length cb] 26)).alloc (.cells #[.int .i64 x, .int .i64 r] 79) ∧
      BxS W w.heap.size (.slice a s.rg.length ca) (.slice b s.rw.length cb) ∧ BxL W (w.heap.size + 1) (.int .i64 x) (.int .i64 r) ∧ Below w.heap.size w W := ⟨_, rfl, (BxS.new _ _ _).below (bl1 _), BxL.new1 _ _ _ _, bl2 _ _⟩
  have hif := fun U => cisField_any x U hx
  have hhr := fun U => chasRow_any (.slice a s.rg.length ca) b cb s r U hl rfl
  cases hf : fdB x with
  | false =>
    have HE : Hid (fiS s x r = false) := by show _ = _; rw [fiS, hf, Bool.false_and]
    simp only [hf] at hif
    clear hf
    go_enter Tryz.func46, Tryz.ntmps46
    go_wp2_with fail
    rw [← hW]
    clear hW
    refine (hif _).mono ?_
    rintro e u1 ⟨rfl, rfl⟩
    obtain ⟨c0, c1, _⟩ := X1.cells
    obtain ⟨d0, d1, _⟩ := X2.cells
    go_wp2
    go_ret
    exact ⟨rt_bool HE.out.symm, hbW⟩
  | true =>
    simp only [hf] at hif
    by_cases h1 : r = -1
    · have HE : Hid (fiS s x r = true) := by show _ = _; rw [fiS, hf, Bool.true_and, decide_eq_true h1, Bool.true_or]
      have g1 : (r == -1) = true := by simp [h1]
      clear hf h1
      go_enter Tryz.func46, Tryz.ntmps46
      go_wp2_with fail
      rw [← hW]
      clear hW
      refine (hif _).mono ?_
      rintro e u1 ⟨rfl, rfl⟩
      obtain ⟨c0, c1, _⟩ := X1.cells
      obtain ⟨d0, d1, _⟩ := X2.cells
      go_wp2
      go_ret
      exact ⟨rt_bool HE.out.symm, hbW⟩
    · have g1 : (r == -1) = false := by simp [h1]
      have HE : Hid (fiS s x r = (hrB s r && decide (r < 400))) := by show _ = _; rw [fiS, hf, Bool.true_and, decide_eq_false h1, Bool.false_or, hrB, Bool.and_assoc]
      clear hf h1
      cases hh : hrB s r with
      | false =>
        have HE2 : Hid (fiS s x r = false) := by show _ = _; rw [HE.out, hh, Bool.false_and]
        simp only [hh] at hhr
        clear hh
        go_enter Tryz.func46, Tryz.ntmps46
        go_wp2_with fail
        rw [← hW]
        clear hW
        refine (hif _).mono ?_
        rintro e u1 ⟨rfl, rfl⟩
        obtain ⟨c0, c1, _⟩ := X1.cells
        obtain ⟨d0, d1, _⟩ := X2.cells
        go_wp2_with fail
        refine (hhr _).mono ?_
        rintro e u2 ⟨rfl, hb2⟩
        replace X2 := X2.below hb2
        replace hbW := hbW.trans (hb2.mono hbW.size)
        clear c0 c1 d0 d1 hb2
        obtain ⟨d0, d1, _⟩ := X2.cells
        go_wp2
        go_ret
        exact ⟨rt_bool HE2.out.symm, hbW⟩
      | true =>
        have HE2 : Hid (fiS s x r = decide (r < 400)) := by show _ = _; rw [HE.out, hh, Bool.true_and]
        simp only [hh] at hhr
        clear hh
        go_enter Tryz.func46, Tryz.ntmps46
        go_wp2_with fail
        rw [← hW]
        clear hW
        refine (hif _).mono ?_
        rintro e u1 ⟨rfl, rfl⟩
        obtain ⟨c0, c1, _⟩ := X1.cells
        obtain ⟨d0, d1, _⟩ := X2.cells
        go_wp2_with fail
        refine (hhr _).mono ?_
        rintro e u2 ⟨rfl, hb2⟩
        replace X2 := X2.below hb2
        replace hbW := hbW.trans (hb2.mono hbW.size)
        clear c0 c1 d0 d1 hb2
        obtain ⟨d0, d1, _⟩ := X2.cells
        go_wp2
        go_ret
        exact ⟨rt_bool HE2.out.symm, hbW⟩

theorem stB_no {s : Sr} {n : Int} (h : ¬ ((0 ≤ n ∧ n ≤ 4) ∧ s.rg.length ≤ 40 ∧ s.rw.length ≤ 400 ∧ (∀ l ∈ s.rg, rgB l n = true) ∧ (∀ r ∈ s.rw, r.length = s.rg.length ∧ r.all fdB = true))) : stB s n = false := by
  rw [Bool.eq_false_iff]
  intro e
  unfold stB roB at e
  simp only [Bool.and_eq_true, decide_eq_true_iff, List.all_eq_true (p := fun l => rgB l n), List.all_eq_true (p := fun (r : List Int) => decide (r.length = s.rg.length) && r.all fdB)] at e
  exact h e
theorem stB_yes {s : Sr} {n : Int} (h1 : 0 ≤ n ∧ n ≤ 4) (h2 : s.rg.length ≤ 40) (h3 : s.rw.length ≤ 400) (h4 : ∀ j, j < s.rg.length → rgB (s.rg.getD j []) n = true) (h5 : ∀ j, j < s.rw.length → (s.rw.getD j []).length = s.rg.length ∧ (s.rw.getD j []).all fdB = true) : stB s n = true := by
  unfold stB roB
  simp only [Bool.and_eq_true, decide_eq_true_iff, List.all_eq_true (p := fun l => rgB l n), List.all_eq_true (p := fun (r : List Int) => decide (r.length = s.rg.length) && r.all fdB)]
  refine ⟨h1, h2, h3, fun l hl => ?_, fun r hr => ?_⟩
  · obtain ⟨i, hi, e⟩ := List.getElem_of_mem hl
    have := h4 i hi
    rw [getL hi, e] at this
    exact this
  · obtain ⟨i, hi, e⟩ := List.getElem_of_mem hr
    have := h5 i hi
    rw [getL hi, e] at this
    exact this

end Go.Proofs.YtkbbdkecillnpaaGreat

namespace Go.Proofs.YtkbbdkecillnpaaGreat
open Go.RowKit

/-- The operation at a place of a list. -/
def nth : List Oper → Nat → Option Oper
  | [], _ => none
  | o :: _, 0 => some o
  | _ :: l, n + 1 => nth l n
theorem nth_eq : ∀ (l : List Oper) (i : Nat), nth l i = l.toArray[i]? := by
  intro l
  induction l with
  | nil => intro i; simp [nth]
  | cons o l ih =>
    intro i
    cases i with
    | zero => simp [nth]
    | succ i => simp [nth, ih i]

theorem hTake {P : Program} {md : Region.Mode} {l : List Oper} {Q : Exit → Act → World → Prop} {S : World → Prop} {i : Nat} {o : Oper} {v : Value} {fuel : Nat} {listed : Array Bool} {a : Act} {w : World} (hi : nth l i = some o)
    (hs : Region.noSelect l.toArray = true) (hf : Region.free md l.toArray listed i = true) (hr : (Region.ready md l.toArray listed).contains i = true)
    (hQ : ∀ c a w, Q (.panic c) (a.put o.dst v) w → Q (.panic c) a w) (hy : YieldsIf P l.toArray S o v a) (hS : S w)
    (h : wpAnyH P md l.toArray Q S fuel (listed.setIfInBounds i true) (a.put o.dst v) w) : wpAnyH P md l.toArray Q S (fuel + 1) listed a w :=
  wpAnyH_take ((nth_eq l i).symm.trans hi) hs hf hr hQ hy hS h

theorem hCall {P : Program} {md : Region.Mode} {l : List Oper} {Q : Exit → Act → World → Prop} {S : World → Prop} {i : Nat} {o : Oper} {fuel : Nat} {listed : Array Bool} {a : Act} {w : World} (hi : nth l i = some o)
    (hr : Region.ready md l.toArray listed = [i]) (hw : Region.wanted o (yielded l.toArray a.tmps) = true)
    (h : ∀ K : Act → World → Prop, Shut (∀ a w, S w → (S w → wpAnyH P md l.toArray Q S fuel (listed.setIfInBounds i true) a w) → K a w) → Oper.wp P o a w K Q) :
    wpAnyH P md l.toArray Q S (fuel + 1) listed a w :=
  wpAnyH_ready hr (by simp) (AllReadyH.cons ((nth_eq l i).symm.trans hi) (fun K hK => by rw [if_pos hw]; exact h K hK) AllReadyH.nil)

theorem hCons {P : Program} {md : Region.Mode} {l : List Oper} {Q : Exit → Act → World → Prop} {S : World → Prop} {i : Nat} {o : Oper} {fuel : Nat} {listed : Array Bool} {a : Act} {w : World} {rs : List Nat} (hi : nth l i = some o)
    (hw : Region.wanted o (yielded l.toArray a.tmps) = true)
    (h : ∀ K : Act → World → Prop, Shut (∀ a w, S w → (S w → wpAnyH P md l.toArray Q S fuel (listed.setIfInBounds i true) a w) → K a w) → Oper.wp P o a w K Q)
    (hs : AllReadyH P md l.toArray Q S fuel listed a w rs) : AllReadyH P md l.toArray Q S fuel listed a w (i :: rs) :=
  AllReadyH.cons ((nth_eq l i).symm.trans hi) (fun K hK => by rw [if_pos hw]; exact h K hK) hs

/-- An operation that is carried out and only reads. -/
theorem hT {P : Program} {md : Region.Mode} {l : List Oper} {Q : Exit → Act → World → Prop} {S : World → Prop} (i : Nat) {o : Oper} {v : Value} {fuel : Nat} {listed : Array Bool} {a a2 : Act} {w : World} (hS : S w)
    (h : wpAnyH P md l.toArray Q S fuel (listed.setIfInBounds i true) a2 w)
    (hi : nth l i = some o := by rfl) (hs : Region.noSelect l.toArray = true := by kernel_rfl) (hf : Region.free md l.toArray listed i = true := by kernel_rfl) (hr : (Region.ready md l.toArray listed).contains i = true := by kernel_rfl)
    (hQ : ∀ c a w, Q (.panic c) (a.put o.dst v) w → Q (.panic c) a w := by exact fun _ _ _ h => h) (hw : Region.wanted o (yielded l.toArray a.tmps) = true := by rfl)
    (hy : ∀ w9, S w9 → (execOp a.eval o).run P w9 = .ok (.value v) w9 := by intro w9 hSw; (try dsimp only at hSw); go_simp; try with_reducible rfl)
    (ha : a.put o.dst v = a2 := by (try simp only [Act.put, List.setIfInBounds_toArray, List.set_cons_zero, List.set_cons_succ]); try rfl) : wpAnyH P md l.toArray Q S (fuel + 1) listed a w := by
  subst ha
  exact wpAnyH_take ((nth_eq l i).symm.trans hi) hs hf hr hQ (Or.inl ⟨hw, hy⟩) hS h

/-- An operation that is not wanted. -/
theorem hN {P : Program} {md : Region.Mode} {l : List Oper} {Q : Exit → Act → World → Prop} {S : World → Prop} (i : Nat) {o : Oper} {fuel : Nat} {listed : Array Bool} {a a2 : Act} {w : World} (hS : S w)
    (h : wpAnyH P md l.toArray Q S fuel (listed.setIfInBounds i true) a2 w)
    (hi : nth l i = some o := by rfl) (hs : Region.noSelect l.toArray = true := by kernel_rfl) (hf : Region.free md l.toArray listed i = true := by kernel_rfl) (hr : (Region.ready md l.toArray listed).contains i = true := by kernel_rfl)
    (hQ : ∀ c a w, Q (.panic c) (a.put o.dst undef) w → Q (.panic c) a w := by exact fun _ _ _ h => h) (hw : Region.wanted o (yielded l.toArray a.tmps) = false := by rfl)
    (ha : a.put o.dst undef = a2 := by (try simp only [Act.put, List.setIfInBounds_toArray, List.set_cons_zero, List.set_cons_succ]); try rfl) : wpAnyH P md l.toArray Q S (fuel + 1) listed a w := by
  subst ha
  exact wpAnyH_take ((nth_eq l i).symm.trans hi) hs hf hr hQ (Or.inr ⟨hw, rfl⟩) hS h

end Go.Proofs.YtkbbdkecillnpaaGreat

namespace Go.Proofs.YtkbbdkecillnpaaGreat
open Go.RowKit Go.Maps
set_option linter.unusedSimpArgs false
set_option linter.unusedVariables false

def agN (d : Int) : Int := if d = 1 then 2 else if d = 2 then 2 else if d = 3 then 6 else if d = 4 then 1 else 0
theorem agN_arD (d : Int) : (agN d = 0 ∧ arD d = -1) ∨ (1 ≤ agN d ∧ agN d ≤ 6 ∧ arD d = agN d) := by
  unfold agN arD
  repeat' split
  all_goals omega
set_option maxHeartbeats 1000000 in
set_option maxRecDepth 100000 in
theorem argsOf_any (d : Int) (w : World) (hd : I64 d) :
    Calls Tryz.prog 45 #[.int .i64 d] w fun e w' => e = .returned (.int .i64 (agN d)) ∧ w = w' := by
  by_cases h1 : d = 1
  · subst h1
    go_enter Tryz.func45, Tryz.ntmps45
    go_wp2
    go_ret
    exact ⟨rfl, rfl⟩
  by_cases h2 : d = 2
  · subst h2
    go_enter Tryz.func45, Tryz.ntmps45
    go_wp2
    go_ret
    exact ⟨rfl, rfl⟩
  by_cases h3 : d = 3
  · subst h3
    go_enter Tryz.func45, Tryz.ntmps45
    go_wp2
    go_ret
    exact ⟨rfl, rfl⟩
  by_cases h4 : d = 4
  · subst h4
    go_enter Tryz.func45, Tryz.ntmps45
    go_wp2
    go_ret
    exact ⟨rfl, rfl⟩
  have HA : Hid (agN d = 0) := by show _ = _; unfold agN; rw [if_neg h1, if_neg h2, if_neg h3, if_neg h4]
  have g1 : (d == 1) = false := beq_eq_false_iff_ne.2 h1
  have g2 : (d == 2) = false := beq_eq_false_iff_ne.2 h2
  have g3 : (d == 3) = false := beq_eq_false_iff_ne.2 h3
  have g4 : (d == 4) = false := beq_eq_false_iff_ne.2 h4
  go_enter Tryz.func45, Tryz.ntmps45
  go_wp2
  go_ret
  exact ⟨by rw [HA.out]; rfl, rfl⟩
def isD (n : Nat) (z : Int) : Bool := decide (0 ≤ z) && decide (z < (n : Int))
set_option maxHeartbeats 1000000 in
set_option maxRecDepth 100000 in
theorem isDraw_any (a : Option Addr) (n c : Nat) (z : Int) (w : World) (hz : I64 z) (hn : n ≤ 9223372036854775807) :
    Calls Tryz.prog 24 #[.slice a n c, .int .i64 z] w fun e w' => e = .returned (.bool (isD n z)) ∧ w = w' := by
  by_cases h0 : 0 ≤ z
  rotate_left
  · have HF : Hid (isD n z = false) := by show _ = _; unfold isD; rw [decide_eq_false h0]; rfl
    have g0 : decide (0 ≤ z) = false := decide_eq_false h0
    go_enter Tryz.func24, Tryz.ntmps24
    go_wp2
    go_ret
    exact ⟨rt_bool HF.out.symm, rfl⟩
  have g0 : decide (0 ≤ z) = true := decide_eq_true h0
  have HF : Hid (isD n z = decide (z < (n : Int))) := by show _ = _; unfold isD; rw [g0]; rfl
  obtain ⟨q, hq⟩ : ∃ q, decide (z < (n : Int)) = q := ⟨_, rfl⟩
  rw [hq] at HF
  go_enter Tryz.func24, Tryz.ntmps24
  go_wp2
  go_ret
  exact ⟨rt_bool HF.out.symm, rfl⟩

theorem spF_no1 {fi : Int → Int → Bool} {n : Nat} {x : Sp} (h : (x.ar.length : Int) ≠ arD x.d) : spF fi n x = false := by
  cases hf : spF fi n x with
  | false => rfl
  | true => exact absurd (spF_iff.1 hf).1 h
theorem spF_no2 {fi : Int → Int → Bool} {n : Nat} {x : Sp} {k : Nat} (hk : k < x.ar.length) (h : fi (x.ar.getD k (0, 0)).1 (x.ar.getD k (0, 0)).2 = false) : spF fi n x = false := by
  cases hf : spF fi n x with
  | false => rfl
  | true =>
    have := (spF_iff.1 hf).2.1 k hk
    rw [h] at this
    cases this
theorem spF_yes {fi : Int → Int → Bool} {n : Nat} {x : Sp} (h1 : (x.ar.length : Int) = arD x.d) (h2 : ∀ k, k < x.ar.length → fi (x.ar.getD k (0, 0)).1 (x.ar.getD k (0, 0)).2 = true) :
    spF fi n x = (!decide (x.d = 4) || (isD n (x.ar.getD 0 (0, 0)).1 && decide ((x.ar.getD 0 (0, 0)).2 = -1))) := by
  unfold spF isD
  rw [decide_eq_true h1, allD_iff (e := ((0 : Int), (0 : Int))).2 h2, Bool.true_and, Bool.true_and]
  cases decide (x.d = 4) <;> cases decide ((x.ar.getD 0 (0, 0)).2 = -1) <;> cases decide (0 ≤ (x.ar.getD 0 (0, 0)).1) <;> cases decide ((x.ar.getD 0 (0, 0)).1 < (n : Int)) <;> rfl

set_option maxHeartbeats 4000000 in
set_option maxRecDepth 100000 in
theorem stepFits_any (S : Nat → Prop) (a : Option Addr) (n c : Nat) (ga : Option Addr) (gc : Nat) (ma : Option Addr) (mc : Nat) (s : Sr) (xa : Option Addr) (xc : Nat) (x : Sp) (w : World) (hn : n ≤ 9223372036854775807) (k2 : s.rw.length ≤ 9223372036854775807) (hd : I64 x.d) (hx : Gr SlE S w xa xc x.ar) :
    Calls Tryz.prog 28 #[.slice a n c, .agg #[.slice ga s.rg.length gc, .slice ma s.rw.length mc], .agg #[.int .i64 x.d, .slice xa x.ar.length xc]] w fun e w' => e = .returned (.bool (spF (fiS s) n x)) ∧ Below w.heap.size w w' := by
  have kx := hx.lenB
  obtain ⟨W, hW, X1, X2, hbW⟩ : ∃ W, W = (w.alloc (.cells #[.slice ga s.rg.length gc, .slice ma s.rw.length mc] 26)).alloc (.cells #[.int .i64 x.d, .slice xa x.ar.length xc] 50) ∧ Bk 26 W w.heap.size [.slice ga s.rg.length gc, .slice ma s.rw.length mc] ∧ Bk 50 W (w.heap.size + 1) [.int .i64 x.d, .slice xa x.ar.length xc] ∧ Below w.heap.size w W := ⟨_, rfl, (Bk.new _ _ _).below (bl1 _), Bk.new1 _ _ _ _, bl2 _ _⟩
  obtain ⟨q0, q1, -⟩ := X2.two
  have hag := argsOf_any x.d W hd
  go_enter Tryz.func28, Tryz.ntmps28
  go_upto_region 1 with fail
  rw [← hW]
  clear hW
  go_wp2_with fail
  refine hag.mono ?_
  rintro e u1 ⟨rfl, rfl⟩
  clear hag
  by_cases hlen : (x.ar.length : Int) = arD x.d
  rotate_left
  · have HF : Hid (spF (fiS s) n x = false) := spF_no1 hlen
    rcases agN_arD x.d with ⟨e1, _⟩ | ⟨e1, _, e2⟩
    · rw [e1]
      clear e1 hlen
      go_wp2
      go_ret
      exact ⟨rt_bool HF.out.symm, hbW⟩
    · rw [e2] at hlen
      generalize agN x.d = z at *
      have g1 : (z == 0) = false := beq_eq_false_iff_ne.2 (by omega)
      have g2 : ((x.ar.length : Int) != z) = true := bne_iff_ne.2 hlen
      clear e1 e2 hlen
      go_wp2
      go_ret
      exact ⟨rt_bool HF.out.symm, hbW⟩
  rcases agN_arD x.d with ⟨_, e1⟩ | ⟨e0, _, e2⟩
  · omega
  have HLEN : Hid ((x.ar.length : Int) = arD x.d) := hlen
  rw [e2] at hlen
  have g1 : ((x.ar.length : Int) == 0) = false := beq_eq_false_iff_ne.2 (by omega)
  have g2 : ((x.ar.length : Int) != (x.ar.length : Int)) = false := by simp
  have hpos : 0 < x.ar.length := by omega
  have g3 : decide (0 < x.ar.length) = true := decide_eq_true hpos
  have hx6 : x.ar.length ≤ 6 := by omega
  rw [← hlen]
  have HX : Hid (Gr SlE S W xa xc x.ar) := hx.below hbW
  have HX1 : Hid (Bk 26 W w.heap.size [.slice ga s.rg.length gc, .slice ma s.rw.length mc]) := X1
  have HX2 : Hid (Bk 50 W (w.heap.size + 1) [.int .i64 x.d, .slice xa x.ar.length xc]) := X2
  have HBW : Hid (Below w.heap.size w W) := hbW
  clear e0 e2 hlen hx X1 X2 hbW
  go_wp2
  clear g1 g2 q0 q1
  go_loopw [25] (fun i wr => ∃ k : Nat, k ≤ x.ar.length ∧ i = .int .i64 k ∧ Hid (∀ j, j < k → fiS s (x.ar.getD j (0, 0)).1 (x.ar.getD j (0, 0)).2 = true) ∧ Below W.heap.size W wr) (fun i _ => x.ar.length - (intOf i).toNat)
  case atStart => exact ⟨0, Nat.zero_le _, rfl, (fun j hj => by omega), Below.refl _ _⟩
  case round =>
    obtain ⟨k, hk, rfl, HOK, hB⟩ := hrel
    have hBw : Below w.heap.size w wr := HBW.out.trans (hB.mono HBW.out.size)
    by_cases hkn : k < x.ar.length
    · obtain ⟨b1, off, ea, hb1, ⟨m1, m2⟩, c0, c1⟩ := HX.out.sl hB k hkn
      subst ea
      have HBad : Hid (fiS s (x.ar.getD k (0, 0)).1 (x.ar.getD k (0, 0)).2 = false → spF (fiS s) n x = false) := fun h => spF_no2 hkn h
      obtain ⟨y, hy⟩ : ∃ y, x.ar.getD k (0, 0) = y := ⟨_, rfl⟩
      have HY : Hid (x.ar.getD k (0, 0) = y) := hy
      rw [hy] at m1 m2 c0 c1 HBad
      clear hy
      have i1 : (0 : Int) ≤ (k : Int) := by omega
      have i2 : (k : Int) < (x.ar.length : Int) := by omega
      obtain ⟨U, hU, XG, hbU⟩ : ∃ U, U = wr.alloc (.cells #[.int .i64 y.1, .int .i64 y.2] 79) ∧ Bk 79 U wr.heap.size [.int .i64 y.1, .int .i64 y.2] ∧ Below wr.heap.size wr U := ⟨_, rfl, Bk.new _ _ _, bl1 _⟩
      replace hB := hB.trans (hbU.mono hB.size)
      replace hBw := hBw.trans (hbU.mono hBw.size)
      obtain ⟨y0, y1, -⟩ := XG.two
      have hX1 := HX1.out.below hB
      obtain ⟨x0, x1, -⟩ := hX1.two
      have hfi := cfits_any ga gc ma mc s y.1 y.2 U k2 m1 m2
      go_upto_region 7 with fail
      rw [← hU]
      clear hU c0 c1 hbU
      cases hf3 : fiS s y.1 y.2 with
      | false =>
        rw [hf3] at hfi
        have HF : Hid (spF (fiS s) n x = false) := HBad.out hf3
        clear hf3 HBad HOK
        go_wp2_with fail
        refine hfi.mono ?_
        rintro e u4 ⟨rfl, hb⟩
        replace hBw := hBw.trans (hb.mono hBw.size)
        clear hfi hb
        go_wp2
        go_ret
        exact ⟨rt_bool HF.out.symm, hBw⟩
      | true =>
      rw [hf3] at hfi
      have HOK2 : Hid (∀ j, j < k + 1 → fiS s (x.ar.getD j (0, 0)).1 (x.ar.getD j (0, 0)).2 = true) := fun j hj => by
        rcases Nat.lt_or_ge j k with h1 | h1
        · exact HOK.out j h1
        · rw [show j = k by omega, HY.out, hf3]
      clear hf3 HBad HOK HY
      go_wp2_with fail
      refine hfi.mono ?_
      rintro e u4 ⟨rfl, hb⟩
      replace hB := hB.trans (hb.mono hB.size)
      clear hfi hb y0 y1 x0 x1 hX1 XG hBw
      go_wp2
      go_roundw
      case rel => exact ⟨k + 1, by omega, by go_num, HOK2, hB⟩
      case measure => simp [intOf]; omega
    · have g4 : ¬ (k : Int) < (x.ar.length : Int) := by omega
      have HF : Hid (spF (fiS s) n x = (!decide (x.d = 4) || (isD n (x.ar.getD 0 (0, 0)).1 && decide ((x.ar.getD 0 (0, 0)).2 = -1)))) := spF_yes HLEN.out (fun j hj => HOK.out j (by omega))
      obtain ⟨b1, off, ea, hb1, ⟨m1, m2⟩, c0, c1⟩ := HX.out.sl hB 0 hpos
      subst ea
      rw [Nat.zero_mul, Nat.add_zero] at c0 c1
      generalize x.ar.getD 0 (0, 0) = y at *
      have hX2 := HX2.out.below hB
      obtain ⟨q0, q1, -⟩ := hX2.two
      have hisd := isDraw_any a n c y.1 wr m1 hn
      clear HOK hX2
      by_cases h4 : x.d = 4
      rotate_left
      · have g5 : (x.d != 4) = true := bne_iff_ne.2 h4
        rw [decide_eq_false h4] at HF
        clear h4 hisd
        go_wp2
        go_ret
        exact ⟨rt_bool HF.out.symm, hBw⟩
      rw [h4] at q0
      rw [decide_eq_true h4] at HF
      clear h4
      cases hq : isD n y.1 with
      | false =>
        rw [hq] at hisd HF
        clear hq
        go_wp2_with fail
        refine hisd.mono ?_
        rintro e u4 ⟨rfl, rfl⟩
        clear hisd
        go_wp2
        go_ret
        exact ⟨rt_bool HF.out.symm, hBw⟩
      | true =>
        rw [hq] at hisd HF
        clear hq
        by_cases h5 : y.2 = -1
        · rw [h5] at c1
          rw [decide_eq_true h5] at HF
          clear h5
          go_wp2_with fail
          refine hisd.mono ?_
          rintro e u4 ⟨rfl, rfl⟩
          clear hisd
          go_wp2
          go_ret
          exact ⟨rt_bool HF.out.symm, hBw⟩
        · have g6 : (y.2 == -1) = false := beq_eq_false_iff_ne.2 h5
          rw [decide_eq_false h5] at HF
          clear h5
          go_wp2_with fail
          refine hisd.mono ?_
          rintro e u4 ⟨rfl, rfl⟩
          clear hisd
          go_wp2
          go_ret
          exact ⟨rt_bool HF.out.symm, hBw⟩

end Go.Proofs.YtkbbdkecillnpaaGreat

namespace Go.Proofs.YtkbbdkecillnpaaGreat
open Go.RowKit Go.Maps
set_option linter.unusedSimpArgs false
set_option linter.unusedVariables false

/-- Whether a cell holds an integer. -/
def isI : Value → Bool
  | .int _ _ => true
  | _ => false
/-- No cell of a block is an integer. -/
def NoI (w : World) (g : Nat) : Prop := ∀ j v, w.cell? ⟨g, j, none⟩ = some v → isI v = false
theorem NoI.of {w : World} {g : Nat} {cur : Array Value} {e : TypeId} (h : w.heap[g]? = some (.cells cur e (0, 0))) (hc : ∀ c ∈ cur.toList, isI c = false) : NoI w g := by
  intro j v hv
  rw [cell_of_row w g j cur e (0, 0) h] at hv
  obtain ⟨hj, e⟩ := Array.getElem?_eq_some_iff.1 hv
  exact hc v (by rw [← e]; simp)
theorem NoI.mem {w : World} {g : Nat} {cur : Array Value} {e : TypeId} (hn : NoI w g) (h : w.heap[g]? = some (.cells cur e (0, 0))) : ∀ c ∈ cur.toList, isI c = false := by
  intro c hc
  obtain ⟨j, hj, e⟩ := List.getElem_of_mem hc
  refine hn j c ?_
  rw [cell_of_row w g j cur _ (0, 0) h, Array.getElem?_eq_getElem (by simpa using hj)]
  simpa using e
theorem NoI.below {w w' : World} {g : Nat} (h : NoI w g) (hg : g < w.heap.size) (hb : Below w.heap.size w w') : NoI w' g := by
  intro j v hv
  rw [hb.cell (p := ⟨g, j, none⟩) hg] at hv
  exact h j v hv
/-- Limbs stay, whatever becomes of a row without integers. -/
theorem Rd.grown {w w' : World} {a : Option Addr} {cap : Nat} {xs : List Nat} {row : Option Nat} (h : Rd w a cap xs) (hg : w.grownBy w' row) (hn : ∀ g, row = some g → NoI w g) : Rd w' a cap xs := by
  obtain ⟨h1, h2, h3, h5, h4⟩ := h
  refine ⟨h1, h2, h3, h5, ?_⟩
  rcases h4 with h4 | ⟨b, off, e, hb1, hc⟩
  · exact .inl h4
  · by_cases h0 : xs = []
    · exact .inl h0
    · have hl : 0 < xs.length := List.length_pos_iff.2 h0
      have hne : some b ≠ row := by
        intro e2
        have := hn b e2.symm _ _ (hc 0 hl)
        cases this
      exact .inr ⟨b, off, e, Nat.lt_of_lt_of_le hb1 hg.size, fun i hi => (World.cell?_of_block (w := w) (a := ⟨b, off + i, none⟩) (hg.block b hb1 hne)).trans (hc i hi)⟩
theorem Fr.grown {w w' : World} {v : Value} {k : Nat} {q : Rat} {row : Option Nat} (h : Fr w v k q) (hg : w.grownBy w' row) (hn : ∀ g, row = some g → NoI w g) : Fr w' v k q := by
  obtain ⟨n, xs, ys, ⟨a, c, a', c', rfl, h1, h2⟩, h3⟩ := h
  exact ⟨n, xs, ys, ⟨a, c, a', c', rfl, h1.grown hg hn, h2.grown hg hn⟩, h3⟩

/-- Fractions that are read. -/
def Rz (w : World) (a : Option Addr) (cap k : Nat) (qs : List Rat) : Prop :=
  qs.length ≤ cap ∧ cap ≤ maxLen ∧
  ∀ i, i < qs.length → ∃ b off x y z, a = some ⟨b, off, none⟩ ∧ b < w.heap.size ∧ w.cell? ⟨b, off + i * 3, none⟩ = some x ∧ w.cell? ⟨b, off + i * 3 + 1, none⟩ = some y ∧ w.cell? ⟨b, off + i * 3 + 2, none⟩ = some z ∧ Fr w (.agg #[x, y, z]) k (qs.getD i 0)
theorem Rz.at {w wr : World} {a : Option Addr} {cap k : Nat} {qs : List Rat} (h : Rz w a cap k qs) (hb : Below w.heap.size w wr) (i : Nat) (hi : i < qs.length) :
    ∃ b off x y z, a = some ⟨b, off, none⟩ ∧ b < w.heap.size ∧ wr.cell? ⟨b, off + i * 3, none⟩ = some x ∧ wr.cell? ⟨b, off + i * 3 + 1, none⟩ = some y ∧ wr.cell? ⟨b, off + i * 3 + 2, none⟩ = some z ∧ Fr wr (.agg #[x, y, z]) k (qs.getD i 0) := by
  obtain ⟨b, off, x, y, z, h1, h2, h3, h4, h5, h6⟩ := h.2.2 i hi
  exact ⟨b, off, x, y, z, h1, h2, (hb.cell (p := ⟨b, off + i * 3, none⟩) h2).trans h3, (hb.cell (p := ⟨b, off + i * 3 + 1, none⟩) h2).trans h4, (hb.cell (p := ⟨b, off + i * 3 + 2, none⟩) h2).trans h5, h6.below hb⟩
theorem Rz.below {w w' : World} {a : Option Addr} {cap k : Nat} {qs : List Rat} (h : Rz w a cap k qs) (hb : Below w.heap.size w w') : Rz w' a cap k qs := by
  refine ⟨h.1, h.2.1, fun i hi => ?_⟩
  obtain ⟨b, off, x, y, z, h1, h2, h3⟩ := h.at hb i hi
  exact ⟨b, off, x, y, z, h1, Nat.lt_of_lt_of_le h2 hb.size, h3⟩
theorem Rz.nil (w : World) (a : Option Addr) (cap k : Nat) (h : cap ≤ maxLen) : Rz w a cap k [] := ⟨Nat.zero_le _, h, fun i hi => by simp at hi⟩
theorem Rz.lenB {w : World} {a : Option Addr} {cap k : Nat} {qs : List Rat} (h : Rz w a cap k qs) : qs.length ≤ 9223372036854775807 := by
  have h1 := h.1
  have h2 := h.2.1
  unfold maxLen at h2
  omega

/-- A row of fractions of the call's own. -/
def Ro (T : TypeId) (base : Nat) (w : World) (v : Value) (k : Nat) (qs : List Rat) : Prop :=
  ∃ vs : List Value, w.ownsRow base T 3 v qs.length vs ∧ (∀ g, v.ownBlock = some g → NoI w g) ∧
    ∀ i, i < qs.length → ∃ x y z, vs[i * 3]? = some x ∧ vs[i * 3 + 1]? = some y ∧ vs[i * 3 + 2]? = some z ∧ Fr w (.agg #[x, y, z]) k (qs.getD i 0)
theorem Ro.nil (T : TypeId) (base : Nat) (w : World) (k : Nat) : Ro T base w (.slice none 0 0) k [] := ⟨[], World.ownsRow_nil w base _ 3, (fun g hg => by cases hg), fun i hi => by simp at hi⟩
theorem Ro.slice {T : TypeId} {base : Nat} {w : World} {v : Value} {k : Nat} {qs : List Rat} (h : Ro T base w v k qs) : ∃ a cap, v = .slice a qs.length cap ∧ Rz w a cap k qs := by
  obtain ⟨vs, h3, _, h4⟩ := h
  rcases h3.2 with ⟨rfl, h0⟩ | ⟨g, cap, cur, rfl, hb, hg, hc1, hc2, hc3, ht⟩
  · have : qs = [] := List.length_eq_zero_iff.1 h0
    subst this
    exact ⟨none, 0, rfl, Rz.nil _ _ _ _ (Nat.zero_le _)⟩
  · refine ⟨_, cap, rfl, hc1, hc2, fun i hi => ?_⟩
    obtain ⟨x, y, z, k0, k1, k2, k3⟩ := h4 i hi
    have hadd : ∀ j, (⟨g, 0, none⟩ : Addr).add j = ⟨g, 0 + j, none⟩ := by intro j; unfold Addr.add; split <;> simp_all
    have d0 := h3.cells (g := g) rfl (i * 3) _ k0
    have d1 := h3.cells (g := g) rfl (i * 3 + 1) _ k1
    have d2 := h3.cells (g := g) rfl (i * 3 + 2) _ k2
    rw [hadd] at d0 d1 d2
    exact ⟨g, 0, x, y, z, rfl, (Array.getElem?_eq_some_iff.1 hg).1, d0, d1, d2, k3⟩
theorem Ro.lo {T : TypeId} {base : Nat} {w : World} {v : Value} {k : Nat} {qs : List Rat} (h : Ro T base w v k qs) {g : Nat} (hg : v.ownBlock = some g) : base ≤ g ∧ g < w.heap.size := by
  obtain ⟨vs, h3, _⟩ := h
  exact World.ownsRow.lt h3 g hg
theorem Ro.below {T : TypeId} {base : Nat} {w w' : World} {v : Value} {k : Nat} {qs : List Rat} (h : Ro T base w v k qs) (hb : Below w.heap.size w w') : Ro T base w' v k qs := by
  have hlo := fun g hg => (h.lo (g := g) hg).2
  obtain ⟨vs, h3, hn, h4⟩ := h
  refine ⟨vs, ⟨h3.1, ?_⟩, fun g hg => (hn g hg).below (hlo g hg) hb, fun i hi => ?_⟩
  · rcases h3.2 with h0 | ⟨g, cap', cur, k1, k2, k3, k4⟩
    · exact .inl h0
    · exact .inr ⟨g, cap', cur, k1, k2, (hb.block g (Array.getElem?_eq_some_iff.1 k3).1).trans k3, k4⟩
  · obtain ⟨x, y, z, k0, k1, k2, k3⟩ := h4 i hi
    exact ⟨x, y, z, k0, k1, k2, k3.below hb⟩

/-- A fraction's zero. -/
def rtZ : Value := .agg #[.bool false, .slice none 0 0, .slice none 0 0]
theorem rtZ_made (n : Nat) : ∀ c ∈ (madeCells rtZ.cells n).toList, isI c = false := by
  intro c hc
  simp only [madeCells, rtZ, Value.cells, Array.toList_map, List.mem_map] at hc
  obtain ⟨j, _, rfl⟩ := hc
  have h3 : j % 3 = 0 ∨ j % 3 = 1 ∨ j % 3 = 2 := by omega
  show isI ((#[Value.bool false, .slice none 0 0, .slice none 0 0])[j % 3]!) = false
  rcases h3 with h | h | h <;> rw [h] <;> rfl
theorem rtZ_zero (n : Nat) : ∀ c ∈ (Builtin.zeroCells rtZ.cells n).toList, isI c = false := by
  intro c hc
  simp only [Builtin.zeroCells, rtZ, Value.cells, Array.toList_map, List.mem_map] at hc
  obtain ⟨j, _, rfl⟩ := hc
  have h3 : j % 3 = 0 ∨ j % 3 = 1 ∨ j % 3 = 2 := by omega
  show isI ((#[Value.bool false, .slice none 0 0, .slice none 0 0])[j % 3]!) = false
  rcases h3 with h | h | h <;> rw [h] <;> rfl
theorem Fr.noI {w : World} {x y z : Value} {k : Nat} {q : Rat} (h : Fr w (.agg #[x, y, z]) k q) : ∀ c ∈ [x, y, z], isI c = false ∧ c.oneCell' = true := by
  obtain ⟨n, xs, ys, ⟨a, c, a', c', e, h1, h2⟩, h3⟩ := h
  simp at e
  obtain ⟨rfl, rfl, rfl⟩ := e
  intro c hc
  simp at hc
  rcases hc with rfl | rfl | rfl <;> exact ⟨rfl, rfl⟩

/-- Behind an append of one fraction the row still holds no integer. -/
theorem append_noI {P : Program} {w w' : World} {v v' : Value} (base : Nat) (t ty e : TypeId) (i : TypeInfo) (ht : P.underlying t = some (.slice e)) (hi : P.info? e = some i) (hz : i.zero = some rtZ) (hsize : i.size = 3) (hby : i.bytes = 56)
    (n : Nat) (xs : List Value) (hown : w.ownsRow base e 3 v n xs) (hn : ∀ g, v.ownBlock = some g → NoI w g)
    (a : Addr) (news : List Value) (hl : news.length = 3) (hnews : ∀ j u, news[j]? = some u → w.cell? (a.add j) = some u) (h1 : ∀ u ∈ news, isI u = false ∧ u.oneCell' = true) (hlen : n + 1 ≤ 1000000)
    (hr : (Builtin.append_ #[t, t] ty #[v, .slice (some a) 1 1]).run P w = .ok v' w') : ∀ g, v'.ownBlock = some g → NoI w' g := by
  have hl' : news.length = 1 * i.size := by rw [hsize, hl]
  have hnew : ∀ u ∈ news, isI u = false := fun u hu => (h1 u hu).1
  rcases hown.2 with ⟨rfl, rfl⟩ | ⟨g, cap, cur, rfl, hbg, hg, hnc, hcm, hcs, htake⟩
  · have h2 := run_append_nil (P := P) w t ty e i rtZ ht hi hz a 1 1 news hl' hnews (by omega) (by omega) (by rw [hby]; omega)
    rw [h2] at hr
    injection hr with e1 e2
    subst e1 e2
    intro g hg
    simp [Value.ownBlock] at hg
    subst hg
    refine NoI.of (heap_alloc_new w.drew _) (fun c hc => ?_)
    rw [Array.toList_append, List.mem_append] at hc
    rcases hc with hc | hc
    · exact hnew c (by simpa using hc)
    · exact rtZ_zero _ c hc
  · have hcur := (hn g rfl).mem hg
    have hxs : ∀ c ∈ xs, isI c = false := fun c hc => hcur c (by rw [← htake] at hc; exact List.mem_of_mem_take hc)
    by_cases hroom : n + 1 ≤ cap
    · have hfit : n * i.size + news.length ≤ cur.size := by rw [hsize, hl, hcs]; omega
      have h2 := run_append_room (P := P) w t ty e i ht hi g n cap cur hg a 1 1 news hl' hnews (fun u hu => (h1 u hu).2) hroom hfit
      rw [h2] at hr
      injection hr with e1 e2
      subst e1 e2
      intro g' hg'
      simp [Value.ownBlock] at hg'
      subst hg'
      refine NoI.of (setRow_heap w g cur _ e _ hg) (fun c hc => ?_)
      simp only [List.mem_append] at hc
      rcases hc with (hc | hc) | hc
      · exact hcur c (List.mem_of_mem_take hc)
      · exact hnew c hc
      · exact hcur c (List.mem_of_mem_drop hc)
    · have holds : ∀ j u, xs[j]? = some u → w.cell? ((⟨g, 0, none⟩ : Addr).add j) = some u := hown.cells (g := g) rfl
      have h2 := run_append_grow (P := P) w t ty e i rtZ ht hi hz ⟨g, 0, none⟩ n cap xs (by rw [hsize]; exact hown.1) holds a 1 1 news hl' hnews (by omega) (by omega) (growslice_fits (by omega) (by rw [hby]; omega))
      rw [h2] at hr
      injection hr with e1 e2
      subst e1 e2
      intro g' hg'
      simp [Value.ownBlock] at hg'
      subst hg'
      refine NoI.of (heap_alloc_new w.drew _) (fun c hc => ?_)
      rw [Array.toList_append, Array.toList_append, List.mem_append, List.mem_append] at hc
      rcases hc with (hc | hc) | hc
      · exact hxs c (by simpa using hc)
      · exact hnew c (by simpa using hc)
      · exact rtZ_zero _ c hc

/-- 'append(l, x)' of a fraction that lies in a block of its own. -/
theorem append_rt {P : Program} {w : World} {v : Value} (base : Nat) (t ty e : TypeId) (i : TypeInfo) (ht : P.underlying t = some (.slice e)) (hi : P.info? e = some i) (hz : i.zero = some rtZ) (hsize : i.size = 3) (hby : i.bytes = 56)
    (k : Nat) (qs : List Rat) (q : Rat) (hown : Ro e base w v k qs) (g : Nat) (x y z : Value)
    (c0 : w.cell? ⟨g, 0, none⟩ = some x) (c1 : w.cell? ⟨g, 1, none⟩ = some y) (c2 : w.cell? ⟨g, 2, none⟩ = some z) (hF : Fr w (.agg #[x, y, z]) k q) (hlen : qs.length + 1 ≤ 1000000) (hbase : base ≤ w.heap.size) :
    ∃ v' w', (Builtin.append_ #[t, t] ty #[v, .slice (some ⟨g, 0, none⟩) 1 1]).run P w = .ok v' w' ∧ Ro e base w' v' k (qs ++ [q]) ∧ w.grownBy w' v.ownBlock := by
  obtain ⟨vs, h3, hn, h4⟩ := hown
  have hnews : ∀ j u, [x, y, z][j]? = some u → w.cell? ((⟨g, 0, none⟩ : Addr).add j) = some u := by
    intro j u hj
    match j, hj with
    | 0, hj => simp at hj; subst hj; simpa [Addr.add] using c0
    | 1, hj => simp at hj; subst hj; simpa [Addr.add] using c1
    | 2, hj => simp at hj; subst hj; simpa [Addr.add] using c2
  obtain ⟨v', w', hr, k1, k2, _, k4⟩ := run_append_own_at (P := P) w base t ty e i rtZ 3 56 ht hi hz hsize hby rfl (by decide) v qs.length vs h3 ⟨g, 0, none⟩ 1 1 [x, y, z] rfl hnews (fun u hu => (hF.noI u hu).2) (by unfold maxLen; omega) (by omega) hbase
  have hn' := append_noI base t ty e i ht hi hz hsize hby qs.length vs h3 hn ⟨g, 0, none⟩ [x, y, z] rfl hnews hF.noI hlen hr
  have hvs : vs.length = qs.length * 3 := h3.1
  refine ⟨v', w', hr, ⟨vs ++ [x, y, z], by rw [List.length_append]; exact k1, hn', fun j hj => ?_⟩, k2⟩
  by_cases hjm : j < qs.length
  · obtain ⟨x', y', z', q0, q1, q2, q3⟩ := h4 j hjm
    have e : (qs ++ [q]).getD j 0 = qs.getD j 0 := by simp [List.getD, List.getElem?_append_left hjm]
    rw [e]
    exact ⟨x', y', z', by rw [List.getElem?_append_left (by omega)]; exact q0, by rw [List.getElem?_append_left (by omega)]; exact q1, by rw [List.getElem?_append_left (by omega)]; exact q2, q3.grown k2 hn⟩
  · have hj' : j = qs.length := by simp at hj; omega
    subst hj'
    have e : (qs ++ [q]).getD qs.length 0 = q := by simp [List.getD]
    rw [e]
    refine ⟨x, y, z, ?_, ?_, ?_, hF.grown k2 hn⟩
    · rw [List.getElem?_append_right (by omega), hvs]; simp
    · rw [List.getElem?_append_right (by omega), hvs, show qs.length * 3 + 1 - qs.length * 3 = 1 by omega]; simp
    · rw [List.getElem?_append_right (by omega), hvs, show qs.length * 3 + 2 - qs.length * 3 = 2 by omega]; simp

theorem info_rt : (Tryz.prog.info? 119).map (fun i => (i.zero, i.size, i.bytes)) = some (some rtZ, 3, 56) := by kernel_rfl
/-- The same as an operation. -/
theorem wp_append_rt {w : World} {o : Oper} {a : Act} {K : Act → World → Prop} {Q : Exit → Act → World → Prop}
    (s x : Operand) (ho : o.op = .call { callee := .builtin .append, args := #[s, x], argTypes := #[142, 142] })
    (base : Nat) (v : Value) (k : Nat) (qs : List Rat) (q : Rat) (hs : a.eval s = v) (hown : Ro 119 base w v k qs) (g : Nat) (x0 x1 x2 : Value) (hx : a.eval x = .slice (some ⟨g, 0, none⟩) 1 1)
    (c0 : w.cell? ⟨g, 0, none⟩ = some x0) (c1 : w.cell? ⟨g, 1, none⟩ = some x1) (c2 : w.cell? ⟨g, 2, none⟩ = some x2) (hF : Fr w (.agg #[x0, x1, x2]) k q) (hlen : qs.length + 1 ≤ 1000000) (hbase : base ≤ w.heap.size)
    (h : ∀ v' w', Ro 119 base w' v' k (qs ++ [q]) → w.grownBy w' v.ownBlock → K (a.put o.dst v') w') : o.wp Tryz.prog a w K Q := by
  obtain ⟨i0, hi, hz0, hz1, hz2⟩ := info_parts info_rt
  obtain ⟨v', w', hr, h2, h3⟩ := append_rt (P := Tryz.prog) base 142 o.type 119 i0 Tryz.underlying142 hi hz0 hz1 hz2 k qs q hown g x0 x1 x2 c0 c1 c2 hF hlen hbase
  unfold Oper.wp execOp
  simp only [ho, resolve, invoke, builtin, Sem.run_bind, Sem.run_pure, Result.andThen_ok, List.map_toArray, List.map_cons, List.map_nil, hs, hx, hr]
  exact h v' w' h2 h3

theorem info_srt : (Tryz.prog.info? 124).map (fun i => (i.zero, i.size, i.bytes)) = some (some rtZ, 3, 56) := by kernel_rfl
end Go.Proofs.YtkbbdkecillnpaaGreat

namespace Go.Proofs.YtkbbdkecillnpaaGreat
open Go.RowKit Go.Maps
set_option linter.unusedSimpArgs false
set_option linter.unusedVariables false

def suQ : List Rat → Rat
  | [] => 0
  | q :: l => q + suQ l
theorem suQ_append (l m : List Rat) : suQ (l ++ m) = suQ l + suQ m := by
  induction l with
  | nil => rw [List.nil_append, suQ]; grind
  | cons q l ih => rw [List.cons_append, suQ, suQ, ih]; grind
theorem suQ_one (q : Rat) : suQ [q] = q := by rw [suQ, suQ]; grind
theorem suQ_half (l : List Rat) (n : Nat) : suQ (l.take n) + suQ (l.drop n) = suQ l := by rw [← suQ_append, List.take_append_drop]
theorem chK_sum {g : List (List Te)} {r cs : List Int} {k : Nat} {qs : List Rat} (h : suQ qs = chK g r cs k) : suQ (qs ++ [((r.getD k 0 : Int) : Rat) * alQ (g.getD k []) cs]) = chK g r cs (k + 1) := by
  rw [suQ_append, suQ_one, chK_succ, h]; grind
theorem chK_skip {g : List (List Te)} {r cs : List Int} {k : Nat} {qs : List Rat} (h : suQ qs = chK g r cs k) (h0 : r.getD k 0 = 0 ∨ alQ (g.getD k []) cs = 0) : suQ qs = chK g r cs (k + 1) := by
  rw [chK_succ, h]
  rcases h0 with h0 | h0
  · rw [h0]; show _ = _ + _ * ((0 : Int) : Rat); rw [Rat.intCast_zero, Rat.mul_zero, Rat.add_zero]
  · rw [h0, Rat.zero_mul, Rat.add_zero]

/-- A part of a row of fractions. -/
theorem Rz.take {w : World} {a : Option Addr} {cap k : Nat} {qs : List Rat} (h : Rz w a cap k qs) (n : Nat) : Rz w a cap k (qs.take n) := by
  refine ⟨Nat.le_trans (by simp; omega) h.1, h.2.1, fun i hi => ?_⟩
  have hi' : i < n ∧ i < qs.length := by simp at hi; omega
  have e : (qs.take n).getD i 0 = qs.getD i 0 := by simp [List.getD, List.getElem?_take, hi'.1]
  rw [e]
  exact h.2.2 i hi'.2
theorem Rz.from {w : World} {a : Option Addr} {cap k : Nat} {qs : List Rat} (h : Rz w a cap k qs) (n : Nat) (hn : n < qs.length) : Rz w (a.map (fun x => x.add (n * 3))) (cap - n) k (qs.drop n) := by
  have h1 := h.1
  refine ⟨by simp; omega, Nat.le_trans (Nat.sub_le _ _) h.2.1, fun i hi => ?_⟩
  have hi' : n + i < qs.length := by simp at hi; omega
  obtain ⟨b, off, x, y, z, rfl, hb, c0, c1, c2, hF⟩ := h.2.2 (n + i) hi'
  have hadd : (⟨b, off, none⟩ : Addr).add (n * 3) = ⟨b, off + n * 3, none⟩ := by unfold Addr.add; split <;> simp_all
  have e : (qs.drop n).getD i 0 = qs.getD (n + i) 0 := by simp [List.getD]
  rw [e]
  refine ⟨b, off + n * 3, x, y, z, congrArg some hadd, hb, ?_, ?_, ?_, hF⟩
  · rw [show off + n * 3 + i * 3 = off + (n + i) * 3 by omega]; exact c0
  · rw [show off + n * 3 + i * 3 = off + (n + i) * 3 by omega]; exact c1
  · rw [show off + n * 3 + i * 3 = off + (n + i) * 3 by omega]; exact c2

/-- A field is rounded to itself. -/
theorem fld_int {b : Int} (h1 : -32768 ≤ b) (h2 : b ≤ 32767) : fldN (((b : Int) : Rat) + 1 / 2).floor = b ∧ fldE (((b : Int) : Rat) + 1 / 2).floor = 0 := by
  have e : (((b : Int) : Rat) + 1 / 2).floor = b := by
    have h1 : b ≤ ((b : Rat) + 1 / 2).floor := by rw [Rat.le_floor_iff]; grind
    have h2 : ((b : Rat) + 1 / 2).floor < b + 1 := by rw [Rat.floor_lt_iff]; rw [Rat.intCast_add]; grind
    omega
  rw [e]
  exact ⟨if_pos ⟨h1, h2⟩, if_pos ⟨h1, h2⟩⟩
/-- What is rounded differs by at most one half, upwards where it is just between. -/
theorem near_half (q : Rat) : ((((q + 1 / 2).floor : Int) : Rat) - q ≤ 1 / 2) ∧ (-1 / 2 < (((q + 1 / 2).floor : Int) : Rat) - q) := by
  have f1 := Rat.floor_le (q + 1 / 2)
  have f2 := Rat.lt_floor_add_one (q + 1 / 2)
  generalize (q + 1 / 2).floor = z at *
  have f2' : q + 1 / 2 < (z : Rat) + 1 := by simpa using f2
  constructor <;> grind

end Go.Proofs.YtkbbdkecillnpaaGreat
