/-
  Sums of fractions, half by half; what the laws of stores ask of mathematics; a part of a row of fractions that is read.
  A fraction that stays. Nothing here is a walk.
  Regions that draw their order, step by step: the kit's own laws with the operation taken out of a written list. Nothing here is a walk.
  store.sum: the walk.
  A tent's part, case by case (plain mathematics).
-/
import Derived.Test.YtjefaccpmoignaaZ10
import Derived.Test.YtjefaccpmoignaaZ11
import Derived.Test.YtjefaccpmoignaaZ8
import Derived.Test.YtjefaccpmoignaaChecked
import Derived.Deep.RegionHeld3
import Derived.WalkKit
import Derived.Deep.CutRange
import Derived.Test.YtjefaccpmoignaaZ9
namespace Go.Proofs.Ytjefaccpmoignaa
open Go.RowKit Go.Maps
set_option linter.unusedSimpArgs false
set_option linter.unusedVariables false

def suQ : List Rat → Rat
  | [] => 0
  | q :: l => q + suQ l
theorem suQ_append (l m : List Rat) : suQ (l ++ m) = suQ l + suQ m := by
  induction l with
  | nil => rw [List.nil_append, suQ]; grind
  | cons q l ih => rw [List.cons_append, suQ, suQ, ih]; grind
theorem suQ_one (q : Rat) : suQ [q] = q := by rw [suQ, suQ]; grind
theorem suQ_half (l : List Rat) (n : Nat) : suQ (l.take n) + suQ (l.drop n) = suQ l := by rw [← suQ_append, List.take_append_drop]
theorem chK_sum {g : List (List Te)} {r cs : List Int} {k : Nat} {qs : List Rat} (h : suQ qs = chK g r cs k) : suQ (qs ++ [((r.getD k 0 : Int) : Rat) * alQ (g.getD k []) cs]) = chK g r cs (k + 1) := by
  rw [suQ_append, suQ_one, chK_succ, h]; grind
theorem chK_skip {g : List (List Te)} {r cs : List Int} {k : Nat} {qs : List Rat} (h : suQ qs = chK g r cs k) (h0 : r.getD k 0 = 0 ∨ alQ (g.getD k []) cs = 0) : suQ qs = chK g r cs (k + 1) := by
  rw [chK_succ, h]
  rcases h0 with h0 | h0
  · rw [h0]; show _ = _ + _ * ((0 : Int) : Rat); rw [Rat.intCast_zero, Rat.mul_zero, Rat.add_zero]
  · rw [h0, Rat.zero_mul, Rat.add_zero]

/-- A part of a row of fractions. -/
theorem Rz.take {w : World} {a : Option Addr} {cap k : Nat} {qs : List Rat} (h : Rz w a cap k qs) (n : Nat) : Rz w a cap k (qs.take n) := by
  refine ⟨Nat.le_trans (by simp; omega) h.1, h.2.1, fun i hi => ?_⟩
  have hi' : i < n ∧ i < qs.length := by simp at hi; omega
  have e : (qs.take n).getD i 0 = qs.getD i 0 := by simp [List.getD, List.getElem?_take, hi'.1]
  rw [e]
  exact h.2.2 i hi'.2
theorem Rz.from {w : World} {a : Option Addr} {cap k : Nat} {qs : List Rat} (h : Rz w a cap k qs) (n : Nat) (hn : n < qs.length) : Rz w (a.map (fun x => x.add (n * 3))) (cap - n) k (qs.drop n) := by
  have h1 := h.1
  refine ⟨by simp; omega, Nat.le_trans (Nat.sub_le _ _) h.2.1, fun i hi => ?_⟩
  have hi' : n + i < qs.length := by simp at hi; omega
  obtain ⟨b, off, x, y, z, rfl, hb, c0, c1, c2, hF⟩ := h.2.2 (n + i) hi'
  have hadd : (⟨b, off, none⟩ : Addr).add (n * 3) = ⟨b, off + n * 3, none⟩ := by unfold Addr.add; split <;> simp_all
  have e : (qs.drop n).getD i 0 = qs.getD (n + i) 0 := by simp [List.getD]
  rw [e]
  refine ⟨b, off + n * 3, x, y, z, congrArg some hadd, hb, ?_, ?_, ?_, hF⟩
  · rw [show off + n * 3 + i * 3 = off + (n + i) * 3 by omega]; exact c0
  · rw [show off + n * 3 + i * 3 = off + (n + i) * 3 by omega]; exact c1
  · rw [show off + n * 3 + i * 3 = off + (n + i) * 3 by omega]; exact c2

/-- A field is rounded to itself. -/
theorem fld_int {b : Int} (h1 : -32768 ≤ b) (h2 : b ≤ 32767) : fldN (((b : Int) : Rat) + 1 / 2).floor = b ∧ fldE (((b : Int) : Rat) + 1 / 2).floor = 0 := by
  have e : (((b : Int) : Rat) + 1 / 2).floor = b := by
    have h1 : b ≤ ((b : Rat) + 1 / 2).floor := by rw [Rat.le_floor_iff]; grind
    have h2 : ((b : Rat) + 1 / 2).floor < b + 1 := by rw [Rat.floor_lt_iff]; rw [Rat.intCast_add]; grind
    omega
  rw [e]
  exact ⟨if_pos ⟨h1, h2⟩, if_pos ⟨h1, h2⟩⟩
/-- What is rounded differs by at most one half, upwards where it is just between. -/
theorem near_half (q : Rat) : ((((q + 1 / 2).floor : Int) : Rat) - q ≤ 1 / 2) ∧ (-1 / 2 < (((q + 1 / 2).floor : Int) : Rat) - q) := by
  have f1 := Rat.floor_le (q + 1 / 2)
  have f2 := Rat.lt_floor_add_one (q + 1 / 2)
  generalize (q + 1 / 2).floor = z at *
  have f2' : q + 1 / 2 < (z : Rat) + 1 := by simpa using f2
  constructor <;> grind

end Go.Proofs.Ytjefaccpmoignaa

namespace Go.Proofs.Ytjefaccpmoignaa
open Go.RowKit Go.Maps
set_option linter.unusedSimpArgs false
set_option linter.unusedVariables false

/-- A fraction stays, where its limbs do. -/
theorem Fr.moved {u U : World} {v : Value} {k : Nat} {q : Rat} (h : Fr u v k q) (hK : ∀ a c xs, Rd u a c xs → Rd U a c xs) : Fr U v k q := by
  obtain ⟨n, xs, ys, ⟨a, c, a', c', e, h1, h2⟩, h3⟩ := h
  exact ⟨n, xs, ys, ⟨a, c, a', c', e, hK _ _ _ h1, hK _ _ _ h2⟩, h3⟩

end Go.Proofs.Ytjefaccpmoignaa

namespace Go.Proofs.Ytjefaccpmoignaa
open Go.RowKit

/-- The operation at a place of a list. -/
def nth : List Oper → Nat → Option Oper
  | [], _ => none
  | o :: _, 0 => some o
  | _ :: l, n + 1 => nth l n
theorem nth_eq : ∀ (l : List Oper) (i : Nat), nth l i = l.toArray[i]? := by
  intro l
  induction l with
  | nil => intro i; simp [nth]
  | cons o l ih =>
    intro i
    cases i with
    | zero => simp [nth]
    | succ i => simp [nth, ih i]

theorem hTake {P : Program} {md : Region.Mode} {l : List Oper} {Q : Exit → Act → World → Prop} {S : World → Prop} {i : Nat} {o : Oper} {v : Value} {fuel : Nat} {listed : Array Bool} {a : Act} {w : World} (hi : nth l i = some o)
    (hs : Region.noSelect l.toArray = true) (hf : Region.free md l.toArray listed i = true) (hr : (Region.ready md l.toArray listed).contains i = true)
    (hQ : ∀ c a w, Q (.panic c) (a.put o.dst v) w → Q (.panic c) a w) (hy : YieldsIf P l.toArray S o v a) (hS : S w)
    (h : wpAnyH P md l.toArray Q S fuel (listed.setIfInBounds i true) (a.put o.dst v) w) : wpAnyH P md l.toArray Q S (fuel + 1) listed a w :=
  wpAnyH_take ((nth_eq l i).symm.trans hi) hs hf hr hQ hy hS h

theorem hCall {P : Program} {md : Region.Mode} {l : List Oper} {Q : Exit → Act → World → Prop} {S : World → Prop} {i : Nat} {o : Oper} {fuel : Nat} {listed : Array Bool} {a : Act} {w : World} (hi : nth l i = some o)
    (hr : Region.ready md l.toArray listed = [i]) (hw : Region.wanted o (yielded l.toArray a.tmps) = true)
    (h : ∀ K : Act → World → Prop, Shut (∀ a w, S w → (S w → wpAnyH P md l.toArray Q S fuel (listed.setIfInBounds i true) a w) → K a w) → Oper.wp P o a w K Q) :
    wpAnyH P md l.toArray Q S (fuel + 1) listed a w :=
  wpAnyH_ready hr (by simp) (AllReadyH.cons ((nth_eq l i).symm.trans hi) (fun K hK => by rw [if_pos hw]; exact h K hK) AllReadyH.nil)

theorem hCons {P : Program} {md : Region.Mode} {l : List Oper} {Q : Exit → Act → World → Prop} {S : World → Prop} {i : Nat} {o : Oper} {fuel : Nat} {listed : Array Bool} {a : Act} {w : World} {rs : List Nat} (hi : nth l i = some o)
    (hw : Region.wanted o (yielded l.toArray a.tmps) = true)
    (h : ∀ K : Act → World → Prop, Shut (∀ a w, S w → (S w → wpAnyH P md l.toArray Q S fuel (listed.setIfInBounds i true) a w) → K a w) → Oper.wp P o a w K Q)
    (hs : AllReadyH P md l.toArray Q S fuel listed a w rs) : AllReadyH P md l.toArray Q S fuel listed a w (i :: rs) :=
  AllReadyH.cons ((nth_eq l i).symm.trans hi) (fun K hK => by rw [if_pos hw]; exact h K hK) hs

/-- An operation that is carried out and only reads. -/
theorem hT {P : Program} {md : Region.Mode} {l : List Oper} {Q : Exit → Act → World → Prop} {S : World → Prop} (i : Nat) {o : Oper} {v : Value} {fuel : Nat} {listed : Array Bool} {a a2 : Act} {w : World} (hS : S w)
    (h : wpAnyH P md l.toArray Q S fuel (listed.setIfInBounds i true) a2 w)
    (hi : nth l i = some o := by rfl) (hs : Region.noSelect l.toArray = true := by kernel_rfl) (hf : Region.free md l.toArray listed i = true := by kernel_rfl) (hr : (Region.ready md l.toArray listed).contains i = true := by kernel_rfl)
    (hQ : ∀ c a w, Q (.panic c) (a.put o.dst v) w → Q (.panic c) a w := by exact fun _ _ _ h => h) (hw : Region.wanted o (yielded l.toArray a.tmps) = true := by rfl)
    (hy : ∀ w9, S w9 → (execOp a.eval o).run P w9 = .ok (.value v) w9 := by intro w9 hSw; (try dsimp only at hSw); go_simp; try with_reducible rfl)
    (ha : a.put o.dst v = a2 := by (try simp only [Act.put, List.setIfInBounds_toArray, List.set_cons_zero, List.set_cons_succ]); try rfl) : wpAnyH P md l.toArray Q S (fuel + 1) listed a w := by
  subst ha
  exact wpAnyH_take ((nth_eq l i).symm.trans hi) hs hf hr hQ (Or.inl ⟨hw, hy⟩) hS h

/-- An operation that is not wanted. -/
theorem hN {P : Program} {md : Region.Mode} {l : List Oper} {Q : Exit → Act → World → Prop} {S : World → Prop} (i : Nat) {o : Oper} {fuel : Nat} {listed : Array Bool} {a a2 : Act} {w : World} (hS : S w)
    (h : wpAnyH P md l.toArray Q S fuel (listed.setIfInBounds i true) a2 w)
    (hi : nth l i = some o := by rfl) (hs : Region.noSelect l.toArray = true := by kernel_rfl) (hf : Region.free md l.toArray listed i = true := by kernel_rfl) (hr : (Region.ready md l.toArray listed).contains i = true := by kernel_rfl)
    (hQ : ∀ c a w, Q (.panic c) (a.put o.dst undef) w → Q (.panic c) a w := by exact fun _ _ _ h => h) (hw : Region.wanted o (yielded l.toArray a.tmps) = false := by rfl)
    (ha : a.put o.dst undef = a2 := by (try simp only [Act.put, List.setIfInBounds_toArray, List.set_cons_zero, List.set_cons_succ]); try rfl) : wpAnyH P md l.toArray Q S (fuel + 1) listed a w := by
  subst ha
  exact wpAnyH_take ((nth_eq l i).symm.trans hi) hs hf hr hQ (Or.inr ⟨hw, rfl⟩) hS h

end Go.Proofs.Ytjefaccpmoignaa

namespace Go.Proofs.Ytjefaccpmoignaa
open Go.RowKit Go.Maps
set_option linter.unusedSimpArgs false
set_option linter.unusedVariables false

/-- How many limbs a sum of so many takes. -/
def lmb (n : Nat) : Nat := if n = 0 then 2 else 21 * n - 1
theorem lmb_two (n : Nat) : 2 ≤ lmb n := by unfold lmb; split <;> omega
theorem lmb_le {n : Nat} (h : n ≤ 1000) : lmb n ≤ 21000 := by unfold lmb; split <;> omega
theorem lmb_add {n h : Nat} (h1 : 1 ≤ h) (h2 : h < n) : lmb h + lmb (n - h) + 1 ≤ lmb n := by unfold lmb; rw [if_neg (by omega), if_neg (by omega), if_neg (by omega)]; omega

set_option maxHeartbeats 8000000 in
set_option maxRecDepth 100000 in
theorem csum_any : ∀ (n : Nat) (a : Option Addr) (cap : Nat) (qs : List Rat) (w : World), qs.length = n → n ≤ 1000 → Rz w a cap 20 qs →
    Calls Try.prog 51 #[.slice a n cap] w fun e w' => ∃ v', e = .returned v' ∧ Fr w' v' (lmb n) (suQ qs) ∧ Below w.heap.size w w' := by
  intro n
  induction n using Nat.strongRecOn with
  | ind n ih =>
    intro a cap qs w hn hn1 h
    have hcap := h.1
    have hcm := h.2.1
    unfold maxLen at hcm
    have HL : Hid (qs.length = n) := hn
    have HH : Hid (Rz w a cap 20 qs) := h
    rw [hn] at hcap
    clear h hn
    obtain ⟨W, hW, B0, hbW⟩ : ∃ W, W = w.alloc (.cells #[.bool false, .slice none 0 0, .slice none 0 0] 49) ∧ Box 49 W w.heap.size (.bool false) (.slice none 0 0) (.slice none 0 0) ∧ Below w.heap.size w W := ⟨_, rfl, Box.new _ _ _ _ _, al1 _⟩
    by_cases h0 : n = 0
    · subst h0
      have HQ : Hid (((0 : Int) : Rat) = suQ qs) := by
        show _ = _
        rw [List.length_eq_zero_iff.1 HL.out, suQ]
        rfl
      clear ih
      go_enter Try.func51, Try.ntmps51
      go_wp2_with fail
      rw [← hW]
      clear hW
      refine (whole_any 0 _ (by decide) (by decide)).mono ?_
      rintro e u1 ⟨v1, rfl, hF9, hb1⟩
      replace B0 := B0.below hb1
      replace hbW := hbW.trans (hb1.mono hbW.size)
      clear hb1
      rw [HQ.out] at hF9
      obtain ⟨n9, x9, y9, ⟨a9, c9, b9, d9, rfl, hx9, hy9⟩, hF9⟩ := hF9
      obtain ⟨q1, q2, q3, q4, q5, q6⟩ := B0.cells
      have hs := B0.lt
      go_wp2
      refine ret3 (v := .agg #[.bool n9, .slice a9 x9.length c9, .slice b9 y9.length d9]) B0 rfl (fun U hU => by obtain ⟨r1, r2, r3, _⟩ := hU.cells; simp [results, Try.results51, go_sem, r1, r2, r3]) (fun U hU hK => ⟨_, rfl, ⟨_, _, _, ⟨_, _, _, _, rfl, hK _ _ _ hx9, hK _ _ _ hy9⟩, hF9⟩, hU _ _ hbW (by omega)⟩)
    by_cases h1 : n = 1
    · subst h1
      have HQ : Hid (qs.getD 0 0 = suQ qs) := by
        show _ = _
        obtain ⟨q, hq⟩ := List.length_eq_one_iff.1 HL.out
        rw [hq, suQ_one]
        rfl
      clear ih h0
      obtain ⟨b, off, x, y, z, ea, hb, c0, c1, c2, hF9⟩ := HH.out.2.2 0 (by rw [HL.out]; omega)
      subst ea
      replace c0 := (hbW.cell (p := ⟨b, off + 0 * 3, none⟩) hb).trans c0
      replace c1 := (hbW.cell (p := ⟨b, off + 0 * 3 + 1, none⟩) hb).trans c1
      replace c2 := (hbW.cell (p := ⟨b, off + 0 * 3 + 2, none⟩) hb).trans c2
      rw [HQ.out] at hF9
      obtain ⟨n9, x9, y9, ⟨a9, c9, b9, d9, e9, hx9, hy9⟩, hF9⟩ := hF9
      simp only [Value.agg.injEq, Array.mk.injEq, List.cons.injEq, and_true] at e9
      obtain ⟨rfl, rfl, rfl⟩ := e9
      simp only [Nat.zero_mul, Nat.add_zero, Nat.zero_add] at c0 c1 c2
      subst hW
      clear B0
      go_enter Try.func51, Try.ntmps51
      go_wp2
      refine bodyPost_ret (v := .agg #[.bool n9, .slice a9 x9.length c9, .slice b9 y9.length d9]) (by obtain ⟨r1, r2, r3, _⟩ := (Box.new 49 w (.bool n9) (.slice a9 x9.length c9) (.slice b9 y9.length d9)).cells; simp [results, Try.results51, go_sem, r1, r2, r3]) rfl ⟨_, rfl, ⟨_, _, _, ⟨_, _, _, _, rfl, hx9.below (al1 _), hy9.below (al1 _)⟩, hF9.1, by have := hF9.2.1; simp [lmb]; omega, by have := hF9.2.2.1; simp [lmb]; omega, hF9.2.2.2⟩, al1 _⟩
    obtain ⟨h, hh⟩ : ∃ h, n / 2 = h := ⟨_, rfl⟩
    have e1 : 1 ≤ h := by omega
    have e2 : h < n := by omega
    have hdv : (n : Int).tdiv 2 = (h : Int) := by rw [Int.tdiv_eq_ediv_of_nonneg (by omega)]; omega
    have g0 : ((n : Int) == 0) = false := beq_eq_false_iff_ne.2 (by omega)
    have g1 : ((n : Int) == 1) = false := beq_eq_false_iff_ne.2 (by omega)
    have hz1 := HH.out.take h
    have hz2 := HH.out.from h (by rw [HL.out]; exact e2)
    have hc1 := fun U hU => ih h e2 a cap (qs.take h) U (by rw [List.length_take, HL.out]; omega) (by omega) hU
    have hc2 := fun U hU => ih (n - h) (by omega) (a.map (fun x => x.add (h * 3))) (cap - h) (qs.drop h) U (by rw [List.length_drop, HL.out]) (by omega) hU
    have HQ : Hid (suQ (qs.take h) + suQ (qs.drop h) = suQ qs) := suQ_half _ _
    have HM : Hid (lmb h + lmb (n - h) + 1 ≤ lmb n) := lmb_add e1 e2
    have HM2 : Hid (2 ≤ lmb h ∧ 2 ≤ lmb (n - h) ∧ lmb h ≤ 21000 ∧ lmb (n - h) ≤ 21000) := ⟨lmb_two _, lmb_two _, lmb_le (by omega), lmb_le (by omega)⟩
    have hcn : ¬ cap = h := by omega
    clear ih h0 h1 hh
    generalize qs.take h = q1 at *
    generalize qs.drop h = q2 at *
    generalize lmb h = k1 at *
    generalize hk2 : lmb (n - h) = k2 at *
    clear hk2
    have hle : h ≤ n := by omega
    have hlc : h ≤ cap := by omega
    go_enter Try.func51, Try.ntmps51
    go_upto_region 7 with fail
    rw [← hW]
    clear hW
    replace hz1 := hz1.below hbW
    replace hz2 := hz2.below hbW
    refine wp_region_held_drew (S := (fun _ => True)) (by kernel_rfl) ?_ (fun hHeld => ?_)
    · (try dsimp only)
      all_goals go_keep
    have hdr : Below W.heap.size W W.drew := Below.drew1
    generalize W.drew = ud1 at hdr hHeld ⊢
    replace hz1 := hz1.below hdr
    replace hz2 := hz2.below hdr
    replace B0 := B0.below hdr
    replace hbW : Below w.heap.size w ud1 := hbW.trans (hdr.mono hbW.size)
    clear hdr
    refine hT 0 hHeld ?_
    refine hT 1 hHeld ?_
    refine hTake (i := 2) (v := .slice a h cap) rfl (by kernel_rfl) (by kernel_rfl) (by kernel_rfl) (fun _ _ _ h => h) (Or.inl ⟨by rfl, ?y2⟩) hHeld ?r2
    case y2 =>
      intro w9 hSw
      (try dsimp only at hSw)
      go_simp
    try simp only [Act.put, List.setIfInBounds_toArray, List.set_cons_zero, List.set_cons_succ]
    refine hT 4 hHeld ?_
    refine hT 5 hHeld ?_
    refine hTake (i := 6) (v := .slice (a.map (fun x => x.add (h * 3))) (n - h) (cap - h)) rfl (by kernel_rfl) (by kernel_rfl) (by kernel_rfl) (fun _ _ _ h => h) (Or.inl ⟨by rfl, ?y3⟩) hHeld ?r3
    case y3 =>
      intro w9 hSw
      (try dsimp only at hSw)
      go_simp
    try simp only [Act.put, List.setIfInBounds_toArray, List.set_cons_zero, List.set_cons_succ]
    refine hCall (i := 3) rfl (by kernel_rfl) (by rfl) (fun K hK => ?_)
    go_simp
    refine (hc1 _ hz1).mono ?_
    rintro e u1 ⟨v5, rfl, hF5, hb1⟩
    replace hz1 := hz1.below hb1
    replace hz2 := hz2.below hb1
    replace B0 := B0.below hb1
    replace hbW : Below w.heap.size w u1 := hbW.trans (hb1.mono hbW.size)
    clear hb1
    go_wp2_with fail
    refine hK.out _ _ ?_ (fun hHeld => ?_)
    · (try dsimp only)
      all_goals trivial
    clear hK K
    try simp only [Act.put, List.setIfInBounds_toArray, List.set_cons_zero, List.set_cons_succ]
    refine hCall (i := 7) rfl (by kernel_rfl) (by rfl) (fun K hK => ?_)
    go_simp
    refine (hc2 _ hz2).mono ?_
    rintro e u2 ⟨v6, rfl, hF6, hb2⟩
    replace hz1 := hz1.below hb2
    replace hz2 := hz2.below hb2
    replace B0 := B0.below hb2
    replace hF5 := hF5.below hb2
    replace hbW : Below w.heap.size w u2 := hbW.trans (hb2.mono hbW.size)
    clear hb2
    go_wp2_with fail
    refine hK.out _ _ ?_ (fun hHeld => ?_)
    · (try dsimp only)
      all_goals trivial
    clear hK K
    try simp only [Act.put, List.setIfInBounds_toArray, List.set_cons_zero, List.set_cons_succ]
    refine hCall (i := 8) rfl (by kernel_rfl) (by rfl) (fun K hK => ?_)
    go_simp
    refine (qadd_any k1 k2 (suQ q1) (suQ q2) _ _ _ hF5.ct hF6.ct (by have := HM2.out; omega) (by have := HM2.out; omega) HM2.out.1 HM2.out.2.1).mono ?_
    rintro e u3 ⟨v9, rfl, hF9, hb3⟩
    replace hz1 := hz1.below hb3
    replace hz2 := hz2.below hb3
    replace B0 := B0.below hb3
    replace hF5 := hF5.below hb3
    replace hF6 := hF6.below hb3
    replace hbW : Below w.heap.size w u3 := hbW.trans (hb3.mono hbW.size)
    clear hb3
    rw [HQ.out] at hF9
    obtain ⟨n9, x9, y9, ⟨a9, c9, b9, d9, rfl, hx9, hy9⟩, hF9⟩ := hF9
    go_wp2_with fail
    refine hK.out _ _ ?_ (fun hHeld => ?_)
    · (try dsimp only)
      all_goals trivial
    clear hK K
    try simp only [Act.put, List.setIfInBounds_toArray, List.set_cons_zero, List.set_cons_succ]
    refine hCall (i := 9) rfl (by kernel_rfl) (by rfl) (fun K hK => ?_)
    go_simp
    have hs := B0.lt
    obtain ⟨f1, f2, f3, f4, f5, f6⟩ := B0.cells
    try go_simp
    obtain ⟨u64, hU, C9, hbU, hK9, ho⟩ := set3_world B0 (.bool n9) (.slice a9 x9.length c9) (.slice b9 y9.length d9)
    rw [← hU]
    clear hU f1 f2 f3 f4 f5 f6
    replace hbW := hbU _ _ hbW (by omega)
    replace hx9 := hK9 _ _ _ hx9
    replace hy9 := hK9 _ _ _ hy9
    clear hbU hK9 ho
    refine hK.out _ _ ?_ (fun hHeld => ?_)
    · (try dsimp only)
      all_goals trivial
    clear hK K
    try simp only [Act.put, List.setIfInBounds_toArray, List.set_cons_zero, List.set_cons_succ]
    refine wpAnyH_done (by kernel_rfl) ?_ _
    clear hHeld
    go_wp2
    refine bodyPost_ret (by obtain ⟨r1, r2, r3, _⟩ := C9.cells; simp [results, Try.results51, go_sem, r1, r2, r3]) rfl ⟨_, rfl, Fr.le (k := k1 + k2 + 1) ⟨_, _, _, ⟨_, _, _, _, rfl, hx9, hy9⟩, hF9⟩ HM.out, hbW⟩

end Go.Proofs.Ytjefaccpmoignaa

namespace Go.Proofs.Ytjefaccpmoignaa
open Go.RowKit Go.Maps
set_option linter.unusedSimpArgs false
set_option linter.unusedVariables false

theorem paQ_one {t : Te} {c : Int} (h1 : tfB t = true) (h2 : crd c = true) (h : t.pk = 0 ∨ c = t.pk) : ((1 : Int) : Rat) = paQ t c := by
  rw [paQ_yes h1 h2, if_pos h]
  rfl
theorem paQ_off {t : Te} {c : Int} (h1 : tfB t = true) (h2 : crd c = true) (h : ¬ (t.pk = 0 ∨ c = t.pk)) (h3 : c ≤ t.st ∨ t.en ≤ c) : ((0 : Int) : Rat) = paQ t c := by
  rw [paQ_yes h1 h2, if_neg h, if_pos h3]
  rfl
theorem paQ_up {t : Te} {c : Int} (h1 : tfB t = true) (h2 : crd c = true) (h : ¬ (t.pk = 0 ∨ c = t.pk)) (h3 : ¬ (c ≤ t.st ∨ t.en ≤ c)) (h4 : c < t.pk) : ((c - t.st : Int) : Rat) / ((t.pk - t.st : Int) : Rat) = paQ t c := by
  rw [paQ_yes h1 h2, if_neg h, if_neg h3, if_pos h4]
theorem paQ_down {t : Te} {c : Int} (h1 : tfB t = true) (h2 : crd c = true) (h : ¬ (t.pk = 0 ∨ c = t.pk)) (h3 : ¬ (c ≤ t.st ∨ t.en ≤ c)) (h4 : ¬ c < t.pk) : ((t.en - c : Int) : Rat) / ((t.en - t.pk : Int) : Rat) = paQ t c := by
  rw [paQ_yes h1 h2, if_neg h, if_neg h3, if_neg h4]

end Go.Proofs.Ytjefaccpmoignaa
