/-
  Stores: whether they are formed, which slots fit, the changes of rows, the values of slots (plain mathematics).
  Rows of fractions: read (Rz), of the call's own (Ro), and how they grow: no cell of such a row is an integer, so no limb lies in it.
  Sums of fractions, half by half; what the laws of stores ask of mathematics; a part of a row of fractions that is read.
  A fraction that stays. Nothing here is a walk.
  Regions that draw their order, step by step: the kit's own laws with the operation taken out of a written list. Nothing here is a walk.
  tuples.sum: the walk.
  Rows of fractions: one row laid behind another.
-/
import Derived.Test.YtngmcghmniakeaaGreatZM6
import Derived.Test.YtngmcghmniakeaaGreatZM4
import Derived.Laws.MakeOwn
import Derived.Test.YtngmcghmniakeaaGreatChecked
import Derived.Deep.RegionHeld3
import Derived.WalkKit
import Derived.Test.YtngmcghmniakeaaGreatZM5
import Derived.Deep.CutRange
import Derived.Laws.AppendOwnNone
set_option maxHeartbeats 8000000
set_option maxRecDepth 100000
set_option linter.unusedSimpArgs false
set_option linter.unusedVariables false
namespace Go.Proofs.YtngmcghmniakeaaGreat
open Go.RowKit Go.Maps
def isI : Value → Bool
 | .int _ _ => true
 | _ => false
def NoI (w : World) (g : Nat) : Prop := ∀ j v, w.cell? ⟨g, j, none⟩ = some v → isI v = false
theorem NoI.of {w : World} {g : Nat} {cur : Array Value} {e : TypeId} (h : w.heap[g]? = some (.cells cur e (0, 0))) (hc : ∀ c ∈ cur.toList, isI c = false) : NoI w g := by
 intro j v hv
 rw [cell_of_row w g j cur e (0, 0) h] at hv
 obtain ⟨hj, e⟩ := Array.getElem?_eq_some_iff.1 hv
 exact hc v (by rw [← e]; simp)
theorem NoI.mem {w : World} {g : Nat} {cur : Array Value} {e : TypeId} (hn : NoI w g) (h : w.heap[g]? = some (.cells cur e (0, 0))) : ∀ c ∈ cur.toList, isI c = false := by
 intro c hc
 obtain ⟨j, hj, e⟩ := List.getElem_of_mem hc
 refine hn j c ?_
 rw [cell_of_row w g j cur _ (0, 0) h, Array.getElem?_eq_getElem (by simpa using hj)]
 simpa using e
theorem NoI.below {w w' : World} {g : Nat} (h : NoI w g) (hg : g < w.heap.size) (hb : Below w.heap.size w w') : NoI w' g := by
 intro j v hv
 rw [hb.cell (p := ⟨g, j, none⟩) hg] at hv
 exact h j v hv
theorem Rd.grown {w w' : World} {a : Option Addr} {cap : Nat} {xs : List Nat} {row : Option Nat} (h : Rd w a cap xs) (hg : w.grownBy w' row) (hn : ∀ g, row = some g → NoI w g) : Rd w' a cap xs := by
 obtain ⟨h1, h2, h3, h5, h4⟩ := h
 refine ⟨h1, h2, h3, h5, ?_⟩
 rcases h4 with h4 | ⟨b, off, e, hb1, hc⟩
 · exact .inl h4
 · by_cases h0 : xs = []
   · exact .inl h0
   · have hl : 0 < xs.length := List.length_pos_iff.2 h0
     have hne : some b ≠ row := by
      intro e2
      have := hn b e2.symm _ _ (hc 0 hl)
      cases this
     exact .inr ⟨b, off, e, Nat.lt_of_lt_of_le hb1 hg.size, fun i hi => (World.cell?_of_block (w := w) (a := ⟨b, off + i, none⟩) (hg.block b hb1 hne)).trans (hc i hi)⟩
theorem Fr.grown {w w' : World} {v : Value} {k : Nat} {q : Rat} {row : Option Nat} (h : Fr w v k q) (hg : w.grownBy w' row) (hn : ∀ g, row = some g → NoI w g) : Fr w' v k q := by
 obtain ⟨n, xs, ys, ⟨a, c, a', c', rfl, h1, h2⟩, h3⟩ := h
 exact ⟨n, xs, ys, ⟨a, c, a', c', rfl, h1.grown hg hn, h2.grown hg hn⟩, h3⟩
def Rz (w : World) (a : Option Addr) (cap k : Nat) (qs : List Rat) : Prop :=
 qs.length ≤ cap ∧ cap ≤ maxLen ∧
 ∀ i, i < qs.length → ∃ b off x y z, a = some ⟨b, off, none⟩ ∧ b < w.heap.size ∧ w.cell? ⟨b, off + i * 3, none⟩ = some x ∧ w.cell? ⟨b, off + i * 3 + 1, none⟩ = some y ∧ w.cell? ⟨b, off + i * 3 + 2, none⟩ = some z ∧ Fr w (.agg #[x, y, z]) k (qs.getD i 0)
theorem Rz.at {w wr : World} {a : Option Addr} {cap k : Nat} {qs : List Rat} (h : Rz w a cap k qs) (hb : Below w.heap.size w wr) (i : Nat) (hi : i < qs.length) :
    ∃ b off x y z, a = some ⟨b, off, none⟩ ∧ b < w.heap.size ∧ wr.cell? ⟨b, off + i * 3, none⟩ = some x ∧ wr.cell? ⟨b, off + i * 3 + 1, none⟩ = some y ∧ wr.cell? ⟨b, off + i * 3 + 2, none⟩ = some z ∧ Fr wr (.agg #[x, y, z]) k (qs.getD i 0) := by
 obtain ⟨b, off, x, y, z, h1, h2, h3, h4, h5, h6⟩ := h.2.2 i hi
 exact ⟨b, off, x, y, z, h1, h2, (hb.cell (p := ⟨b, off + i * 3, none⟩) h2).trans h3, (hb.cell (p := ⟨b, off + i * 3 + 1, none⟩) h2).trans h4, (hb.cell (p := ⟨b, off + i * 3 + 2, none⟩) h2).trans h5, h6.below hb⟩
theorem Rz.below {w w' : World} {a : Option Addr} {cap k : Nat} {qs : List Rat} (h : Rz w a cap k qs) (hb : Below w.heap.size w w') : Rz w' a cap k qs := by
 refine ⟨h.1, h.2.1, fun i hi => ?_⟩
 obtain ⟨b, off, x, y, z, h1, h2, h3⟩ := h.at hb i hi
 exact ⟨b, off, x, y, z, h1, Nat.lt_of_lt_of_le h2 hb.size, h3⟩
theorem Rz.nil (w : World) (a : Option Addr) (cap k : Nat) (h : cap ≤ maxLen) : Rz w a cap k [] := ⟨Nat.zero_le _, h, fun i hi => by simp at hi⟩
theorem Rz.lenB {w : World} {a : Option Addr} {cap k : Nat} {qs : List Rat} (h : Rz w a cap k qs) : qs.length ≤ 9223372036854775807 := by
 have h1 := h.1
 have h2 := h.2.1
 unfold maxLen at h2
 omega
def Ro (T : TypeId) (base : Nat) (w : World) (v : Value) (k : Nat) (qs : List Rat) : Prop :=
 ∃ vs : List Value, w.ownsRow base T 3 v qs.length vs ∧ (∀ g, v.ownBlock = some g → NoI w g) ∧
  ∀ i, i < qs.length → ∃ x y z, vs[i * 3]? = some x ∧ vs[i * 3 + 1]? = some y ∧ vs[i * 3 + 2]? = some z ∧ Fr w (.agg #[x, y, z]) k (qs.getD i 0)
theorem Ro.nil (T : TypeId) (base : Nat) (w : World) (k : Nat) : Ro T base w (.slice none 0 0) k [] := ⟨[], World.ownsRow_nil w base _ 3, (fun g hg => by cases hg), fun i hi => by simp at hi⟩
theorem Ro.slice {T : TypeId} {base : Nat} {w : World} {v : Value} {k : Nat} {qs : List Rat} (h : Ro T base w v k qs) : ∃ a cap, v = .slice a qs.length cap ∧ Rz w a cap k qs := by
 obtain ⟨vs, h3, _, h4⟩ := h
 rcases h3.2 with ⟨rfl, h0⟩ | ⟨g, cap, cur, rfl, hb, hg, hc1, hc2, hc3, ht⟩
 · have : qs = [] := List.length_eq_zero_iff.1 h0
   subst this
   exact ⟨none, 0, rfl, Rz.nil _ _ _ _ (Nat.zero_le _)⟩
 · refine ⟨_, cap, rfl, hc1, hc2, fun i hi => ?_⟩
   obtain ⟨x, y, z, k0, k1, k2, k3⟩ := h4 i hi
   have hadd : ∀ j, (⟨g, 0, none⟩ : Addr).add j = ⟨g, 0 + j, none⟩ := by intro j; unfold Addr.add; split <;> simp_all
   have d0 := h3.cells (g := g) rfl (i * 3) _ k0
   have d1 := h3.cells (g := g) rfl (i * 3 + 1) _ k1
   have d2 := h3.cells (g := g) rfl (i * 3 + 2) _ k2
   rw [hadd] at d0 d1 d2
   exact ⟨g, 0, x, y, z, rfl, (Array.getElem?_eq_some_iff.1 hg).1, d0, d1, d2, k3⟩
theorem Ro.lo {T : TypeId} {base : Nat} {w : World} {v : Value} {k : Nat} {qs : List Rat} (h : Ro T base w v k qs) {g : Nat} (hg : v.ownBlock = some g) : base ≤ g ∧ g < w.heap.size := by
 obtain ⟨vs, h3, _⟩ := h
 exact World.ownsRow.lt h3 g hg
theorem Ro.below {T : TypeId} {base : Nat} {w w' : World} {v : Value} {k : Nat} {qs : List Rat} (h : Ro T base w v k qs) (hb : Below w.heap.size w w') : Ro T base w' v k qs := by
 have hlo := fun g hg => (h.lo (g := g) hg).2
 obtain ⟨vs, h3, hn, h4⟩ := h
 refine ⟨vs, ⟨h3.1, ?_⟩, fun g hg => (hn g hg).below (hlo g hg) hb, fun i hi => ?_⟩
 · rcases h3.2 with h0 | ⟨g, cap', cur, k1, k2, k3, k4⟩
   · exact .inl h0
   · exact .inr ⟨g, cap', cur, k1, k2, (hb.block g (Array.getElem?_eq_some_iff.1 k3).1).trans k3, k4⟩
 · obtain ⟨x, y, z, k0, k1, k2, k3⟩ := h4 i hi
   exact ⟨x, y, z, k0, k1, k2, k3.below hb⟩
def rtZ : Value := .agg #[.bool false, .slice none 0 0, .slice none 0 0]
theorem rtZ_made (n : Nat) : ∀ c ∈ (madeCells rtZ.cells n).toList, isI c = false := by
 intro c hc
 simp only [madeCells, rtZ, Value.cells, Array.toList_map, List.mem_map] at hc
 obtain ⟨j, _, rfl⟩ := hc
 have h3 : j % 3 = 0 ∨ j % 3 = 1 ∨ j % 3 = 2 := by omega
 show isI ((#[Value.bool false, .slice none 0 0, .slice none 0 0])[j % 3]!) = false
 rcases h3 with h | h | h <;> rw [h] <;> rfl
theorem rtZ_zero (n : Nat) : ∀ c ∈ (Builtin.zeroCells rtZ.cells n).toList, isI c = false := by
 intro c hc
 simp only [Builtin.zeroCells, rtZ, Value.cells, Array.toList_map, List.mem_map] at hc
 obtain ⟨j, _, rfl⟩ := hc
 have h3 : j % 3 = 0 ∨ j % 3 = 1 ∨ j % 3 = 2 := by omega
 show isI ((#[Value.bool false, .slice none 0 0, .slice none 0 0])[j % 3]!) = false
 rcases h3 with h | h | h <;> rw [h] <;> rfl
theorem Fr.noI {w : World} {x y z : Value} {k : Nat} {q : Rat} (h : Fr w (.agg #[x, y, z]) k q) : ∀ c ∈ [x, y, z], isI c = false ∧ c.oneCell' = true := by
 obtain ⟨n, xs, ys, ⟨a, c, a', c', e, h1, h2⟩, h3⟩ := h
 simp at e
 obtain ⟨rfl, rfl, rfl⟩ := e
 intro c hc
 simp at hc
 rcases hc with rfl | rfl | rfl <;> exact ⟨rfl, rfl⟩
theorem info_rt : (Tryz.prog.info? 69).map (fun i => (i.zero, i.size, i.bytes)) = some (some rtZ, 3, 56) := by kernel_rfl
theorem info_srt : (Tryz.prog.info? 80).map (fun i => (i.zero, i.size, i.bytes)) = some (some rtZ, 3, 56) := by kernel_rfl
def suQ : List Rat → Rat
 | [] => 0
 | q :: l => q + suQ l
theorem suQ_append (l m : List Rat) : suQ (l ++ m) = suQ l + suQ m := by
 induction l with
 | nil => rw [List.nil_append, suQ]; grind
 | cons q l ih => rw [List.cons_append, suQ, suQ, ih]; grind
theorem suQ_one (q : Rat) : suQ [q] = q := by rw [suQ, suQ]; grind
theorem suQ_half (l : List Rat) (n : Nat) : suQ (l.take n) + suQ (l.drop n) = suQ l := by rw [← suQ_append, List.take_append_drop]
theorem Rz.take {w : World} {a : Option Addr} {cap k : Nat} {qs : List Rat} (h : Rz w a cap k qs) (n : Nat) : Rz w a cap k (qs.take n) := by
 refine ⟨Nat.le_trans (by simp; omega) h.1, h.2.1, fun i hi => ?_⟩
 have hi' : i < n ∧ i < qs.length := by simp at hi; omega
 have e : (qs.take n).getD i 0 = qs.getD i 0 := by simp [List.getD, List.getElem?_take, hi'.1]
 rw [e]
 exact h.2.2 i hi'.2
theorem Rz.from {w : World} {a : Option Addr} {cap k : Nat} {qs : List Rat} (h : Rz w a cap k qs) (n : Nat) (hn : n < qs.length) : Rz w (a.map (fun x => x.add (n * 3))) (cap - n) k (qs.drop n) := by
 have h1 := h.1
 refine ⟨by simp; omega, Nat.le_trans (Nat.sub_le _ _) h.2.1, fun i hi => ?_⟩
 have hi' : n + i < qs.length := by simp at hi; omega
 obtain ⟨b, off, x, y, z, rfl, hb, c0, c1, c2, hF⟩ := h.2.2 (n + i) hi'
 have hadd : (⟨b, off, none⟩ : Addr).add (n * 3) = ⟨b, off + n * 3, none⟩ := by unfold Addr.add; split <;> simp_all
 have e : (qs.drop n).getD i 0 = qs.getD (n + i) 0 := by simp [List.getD]
 rw [e]
 refine ⟨b, off + n * 3, x, y, z, congrArg some hadd, hb, ?_, ?_, ?_, hF⟩
 · rw [show off + n * 3 + i * 3 = off + (n + i) * 3 by omega]; exact c0
 · rw [show off + n * 3 + i * 3 = off + (n + i) * 3 by omega]; exact c1
 · rw [show off + n * 3 + i * 3 = off + (n + i) * 3 by omega]; exact c2
theorem Fr.moved {u U : World} {v : Value} {k : Nat} {q : Rat} (h : Fr u v k q) (hK : ∀ a c xs, Rd u a c xs → Rd U a c xs) : Fr U v k q := by
 obtain ⟨n, xs, ys, ⟨a, c, a', c', e, h1, h2⟩, h3⟩ := h
 exact ⟨n, xs, ys, ⟨a, c, a', c', e, hK _ _ _ h1, hK _ _ _ h2⟩, h3⟩
def nth : List Oper → Nat → Option Oper
 | [], _ => none
 | o :: _, 0 => some o
 | _ :: l, n + 1 => nth l n
theorem nth_eq : ∀ (l : List Oper) (i : Nat), nth l i = l.toArray[i]? := by
 intro l
 induction l with
 | nil => intro i; simp [nth]
 | cons o l ih =>
  intro i
  cases i with
  | zero => simp [nth]
  | succ i => simp [nth, ih i]
theorem hTake {P : Program} {md : Region.Mode} {l : List Oper} {Q : Exit → Act → World → Prop} {S : World → Prop} {i : Nat} {o : Oper} {v : Value} {fuel : Nat} {listed : Array Bool} {a : Act} {w : World} (hi : nth l i = some o)
    (hs : Region.noSelect l.toArray = true) (hf : Region.free md l.toArray listed i = true) (hr : (Region.ready md l.toArray listed).contains i = true)
    (hQ : ∀ c a w, Q (.panic c) (a.put o.dst v) w → Q (.panic c) a w) (hy : YieldsIf P l.toArray S o v a) (hS : S w)
    (h : wpAnyH P md l.toArray Q S fuel (listed.setIfInBounds i true) (a.put o.dst v) w) : wpAnyH P md l.toArray Q S (fuel + 1) listed a w :=
 wpAnyH_take ((nth_eq l i).symm.trans hi) hs hf hr hQ hy hS h
theorem hCall {P : Program} {md : Region.Mode} {l : List Oper} {Q : Exit → Act → World → Prop} {S : World → Prop} {i : Nat} {o : Oper} {fuel : Nat} {listed : Array Bool} {a : Act} {w : World} (hi : nth l i = some o)
    (hr : Region.ready md l.toArray listed = [i]) (hw : Region.wanted o (yielded l.toArray a.tmps) = true)
    (h : ∀ K : Act → World → Prop, Shut (∀ a w, S w → (S w → wpAnyH P md l.toArray Q S fuel (listed.setIfInBounds i true) a w) → K a w) → Oper.wp P o a w K Q) :
    wpAnyH P md l.toArray Q S (fuel + 1) listed a w :=
 wpAnyH_ready hr (by simp) (AllReadyH.cons ((nth_eq l i).symm.trans hi) (fun K hK => by rw [if_pos hw]; exact h K hK) AllReadyH.nil)
theorem hCons {P : Program} {md : Region.Mode} {l : List Oper} {Q : Exit → Act → World → Prop} {S : World → Prop} {i : Nat} {o : Oper} {fuel : Nat} {listed : Array Bool} {a : Act} {w : World} {rs : List Nat} (hi : nth l i = some o)
    (hw : Region.wanted o (yielded l.toArray a.tmps) = true)
    (h : ∀ K : Act → World → Prop, Shut (∀ a w, S w → (S w → wpAnyH P md l.toArray Q S fuel (listed.setIfInBounds i true) a w) → K a w) → Oper.wp P o a w K Q)
    (hs : AllReadyH P md l.toArray Q S fuel listed a w rs) : AllReadyH P md l.toArray Q S fuel listed a w (i :: rs) :=
 AllReadyH.cons ((nth_eq l i).symm.trans hi) (fun K hK => by rw [if_pos hw]; exact h K hK) hs
theorem pZ : (∀ {α : Type} (l : List α) (i : Nat) (x : α), l.toArray.setIfInBounds i x = (l.set i x).toArray) ∧ (∀ {α : Type} (a : α) (l : List α) (x : α), (a :: l).set 0 x = x :: l) ∧ (∀ {α : Type} (a : α) (l : List α) (n : Nat) (x : α), (a :: l).set (n + 1) x = a :: l.set n x) := ⟨fun _ _ _ => List.setIfInBounds_toArray .., fun _ _ _ => rfl, fun _ _ _ _ => rfl⟩
theorem hT {P : Program} {md : Region.Mode} {l : List Oper} {Q : Exit → Act → World → Prop} {S : World → Prop} (i : Nat) {o : Oper} {v : Value} {fuel : Nat} {listed : Array Bool} {a a2 : Act} {w : World} (hS : S w)
    (h : wpAnyH P md l.toArray Q S fuel (listed.setIfInBounds i true) a2 w)
    (hi : nth l i = some o := by rfl) (hs : Region.noSelect l.toArray = true := by kernel_rfl) (hf : Region.free md l.toArray listed i = true := by kernel_rfl) (hr : (Region.ready md l.toArray listed).contains i = true := by kernel_rfl)
    (hQ : ∀ c a w, Q (.panic c) (a.put o.dst v) w → Q (.panic c) a w := by exact fun _ _ _ h => h) (hw : Region.wanted o (yielded l.toArray a.tmps) = true := by rfl)
    (hy : ∀ w9, S w9 → (execOp a.eval o).run P w9 = .ok (.value v) w9 := by intro w9 hSw; (try dsimp only at hSw); go_simp; try with_reducible rfl)
    (ha : a.put o.dst v = a2 := by (try simp only [Act.put, pZ]); try rfl) : wpAnyH P md l.toArray Q S (fuel + 1) listed a w := by
 subst ha
 exact wpAnyH_take ((nth_eq l i).symm.trans hi) hs hf hr hQ (Or.inl ⟨hw, hy⟩) hS h
theorem hN {P : Program} {md : Region.Mode} {l : List Oper} {Q : Exit → Act → World → Prop} {S : World → Prop} (i : Nat) {o : Oper} {fuel : Nat} {listed : Array Bool} {a a2 : Act} {w : World} (hS : S w)
    (h : wpAnyH P md l.toArray Q S fuel (listed.setIfInBounds i true) a2 w)
    (hi : nth l i = some o := by rfl) (hs : Region.noSelect l.toArray = true := by kernel_rfl) (hf : Region.free md l.toArray listed i = true := by kernel_rfl) (hr : (Region.ready md l.toArray listed).contains i = true := by kernel_rfl)
    (hQ : ∀ c a w, Q (.panic c) (a.put o.dst undef) w → Q (.panic c) a w := by exact fun _ _ _ h => h) (hw : Region.wanted o (yielded l.toArray a.tmps) = false := by rfl)
    (ha : a.put o.dst undef = a2 := by (try simp only [Act.put, pZ]); try rfl) : wpAnyH P md l.toArray Q S (fuel + 1) listed a w := by
 subst ha
 exact wpAnyH_take ((nth_eq l i).symm.trans hi) hs hf hr hQ (Or.inr ⟨hw, rfl⟩) hS h
def lmb (n : Nat) : Nat := if n = 0 then 2 else 21 * n - 1
theorem lmb_two (n : Nat) : 2 ≤ lmb n := by unfold lmb; split <;> omega
theorem lmb_le {n : Nat} (h : n ≤ 1000) : lmb n ≤ 21000 := by unfold lmb; split <;> omega
theorem lmb_add {n h : Nat} (h1 : 1 ≤ h) (h2 : h < n) : lmb h + lmb (n - h) + 1 ≤ lmb n := by unfold lmb; rw [if_neg (by omega), if_neg (by omega), if_neg (by omega)]; omega
theorem usum_any : ∀ (n : Nat) (a : Option Addr) (cap : Nat) (qs : List Rat) (w : World), qs.length = n → 1 ≤ n → n ≤ 1000 → Rz w a cap 20 qs →
    Calls Tryz.prog 77 #[.slice a n cap] w fun e w' => ∃ v', e = .returned v' ∧ Fr w' v' (lmb n) (suQ qs) ∧ Below w.heap.size w w' := by
 intro n
 induction n using Nat.strongRecOn with
 | ind n ih =>
  intro a cap qs w hn hn0 hn1 h
  have hcap := h.1
  have hcm := h.2.1
  unfold maxLen at hcm
  have HL : Hid (qs.length = n) := hn
  have HH : Hid (Rz w a cap 20 qs) := h
  rw [hn] at hcap; clear h hn
  obtain ⟨W, hW, B0, hbW⟩ : ∃ W, W = w.alloc (.cells #[.bool false, .slice none 0 0, .slice none 0 0] 69) ∧ Box 69 W w.heap.size (.bool false) (.slice none 0 0) (.slice none 0 0) ∧ Below w.heap.size w W := ⟨_, rfl, Box.new _ _ _ _ _, al1 _⟩
  have h0 : ¬ n = 0 := by omega
  by_cases h1 : n = 1
  · subst h1
    have HQ : Hid (qs.getD 0 0 = suQ qs) := by
     show _ = _
     obtain ⟨q, hq⟩ := List.length_eq_one_iff.1 HL.out
     rw [hq, suQ_one]
     rfl
    clear ih h0
    obtain ⟨b, off, x, y, z, ea, hb, c0, c1, c2, hF9⟩ := HH.out.2.2 0 (by rw [HL.out]; omega)
    subst ea
    replace c0 := (hbW.cell (p := ⟨b, off + 0 * 3, none⟩) hb).trans c0
    replace c1 := (hbW.cell (p := ⟨b, off + 0 * 3 + 1, none⟩) hb).trans c1
    replace c2 := (hbW.cell (p := ⟨b, off + 0 * 3 + 2, none⟩) hb).trans c2
    rw [HQ.out] at hF9; obtain ⟨n9, x9, y9, ⟨a9, c9, b9, d9, e9, hx9, hy9⟩, hF9⟩ := hF9
    simp only [Value.agg.injEq, Array.mk.injEq, List.cons.injEq, and_true] at e9
    obtain ⟨rfl, rfl, rfl⟩ := e9
    simp only [Nat.zero_mul, Nat.add_zero, Nat.zero_add] at c0 c1 c2
    subst hW; clear B0
    go_enter Tryz.func77, Tryz.ntmps77
    go_wp2
    refine bodyPost_ret (v := .agg #[.bool n9, .slice a9 x9.length c9, .slice b9 y9.length d9]) (by obtain ⟨r1, r2, r3, _⟩ := (Box.new 69 w (.bool n9) (.slice a9 x9.length c9) (.slice b9 y9.length d9)).cells; simp [results, Tryz.results77, go_sem, r1, r2, r3]) rfl ⟨_, rfl, ⟨_, _, _, ⟨_, _, _, _, rfl, hx9.below (al1 _), hy9.below (al1 _)⟩, hF9.1, by have := hF9.2.1; simp [lmb]; omega, by have := hF9.2.2.1; simp [lmb]; omega, hF9.2.2.2⟩, al1 _⟩
  obtain ⟨h, hh⟩ : ∃ h, n / 2 = h := ⟨_, rfl⟩
  have e1 : 1 ≤ h := by omega
  have e2 : h < n := by omega
  have hdv : (n : Int).tdiv 2 = (h : Int) := by rw [Int.tdiv_eq_ediv_of_nonneg (by omega)]; omega
  have g1 : ((n : Int) == 1) = false := beq_eq_false_iff_ne.2 (by omega)
  have hz1 := HH.out.take h
  have hz2 := HH.out.from h (by rw [HL.out]; exact e2)
  have hc1 := fun U hU => ih h e2 a cap (qs.take h) U (by rw [List.length_take, HL.out]; omega) e1 (by omega) hU
  have hc2 := fun U hU => ih (n - h) (by omega) (a.map (fun x => x.add (h * 3))) (cap - h) (qs.drop h) U (by rw [List.length_drop, HL.out]) (by omega) (by omega) hU
  have HQ : Hid (suQ (qs.take h) + suQ (qs.drop h) = suQ qs) := suQ_half _ _
  have HM : Hid (lmb h + lmb (n - h) + 1 ≤ lmb n) := lmb_add e1 e2
  have HM2 : Hid (2 ≤ lmb h ∧ 2 ≤ lmb (n - h) ∧ lmb h ≤ 21000 ∧ lmb (n - h) ≤ 21000) := ⟨lmb_two _, lmb_two _, lmb_le (by omega), lmb_le (by omega)⟩
  have hcn : ¬ cap = h := by omega
  clear ih h0 h1 hh
  generalize qs.take h = q1 at *
  generalize qs.drop h = q2 at *
  generalize lmb h = k1 at *
  generalize hk2 : lmb (n - h) = k2 at *
  clear hk2
  have hle : h ≤ n := by omega
  have hlc : h ≤ cap := by omega
  go_enter Tryz.func77, Tryz.ntmps77
  go_upto_region 4 with fail
  rw [← hW]; clear hW; replace hz1 := hz1.below hbW; replace hz2 := hz2.below hbW
  refine wp_region_held_drew (S := (fun _ => True)) (by kernel_rfl) ?_ (fun hHeld => ?_)
  · (try dsimp only)
    all_goals go_keep
  have hdr : Below W.heap.size W W.drew := Below.drew1
  generalize W.drew = ud1 at hdr hHeld ⊢
  replace hz1 := hz1.below hdr; replace hz2 := hz2.below hdr; replace B0 := B0.below hdr
  replace hbW : Below w.heap.size w ud1 := hbW.trans (hdr.mono hbW.size)
  clear hdr; refine hT 0 hHeld ?_; refine hT 1 hHeld ?_
  refine hTake (i := 2) (v := .slice a h cap) rfl (by kernel_rfl) (by kernel_rfl) (by kernel_rfl) (fun _ _ _ h => h) (Or.inl ⟨by rfl, ?y2⟩) hHeld ?r2
  case y2 =>
   intro w9 hSw
   (try dsimp only at hSw)
   go_simp
  try simp only [Act.put, pZ]
  refine hT 4 hHeld ?_; refine hT 5 hHeld ?_
  refine hTake (i := 6) (v := .slice (a.map (fun x => x.add (h * 3))) (n - h) (cap - h)) rfl (by kernel_rfl) (by kernel_rfl) (by kernel_rfl) (fun _ _ _ h => h) (Or.inl ⟨by rfl, ?y3⟩) hHeld ?r3
  case y3 =>
   intro w9 hSw
   (try dsimp only at hSw)
   go_simp
  try simp only [Act.put, pZ]
  refine hCall (i := 3) rfl (by kernel_rfl) (by rfl) (fun K hK => ?_)
  go_simp
  refine (hc1 _ hz1).mono ?_
  rintro e u1 ⟨v5, rfl, hF5, hb1⟩; replace hz1 := hz1.below hb1; replace hz2 := hz2.below hb1; replace B0 := B0.below hb1
  replace hbW : Below w.heap.size w u1 := hbW.trans (hb1.mono hbW.size)
  clear hb1
  go_wp2_with fail
  refine hK.out _ _ ?_ (fun hHeld => ?_)
  · (try dsimp only)
    all_goals trivial
  clear hK K
  try simp only [Act.put, pZ]
  refine hCall (i := 7) rfl (by kernel_rfl) (by rfl) (fun K hK => ?_)
  go_simp
  refine (hc2 _ hz2).mono ?_
  rintro e u2 ⟨v6, rfl, hF6, hb2⟩; replace hz1 := hz1.below hb2; replace hz2 := hz2.below hb2; replace B0 := B0.below hb2; replace hF5 := hF5.below hb2
  replace hbW : Below w.heap.size w u2 := hbW.trans (hb2.mono hbW.size)
  clear hb2
  go_wp2_with fail
  refine hK.out _ _ ?_ (fun hHeld => ?_)
  · (try dsimp only)
    all_goals trivial
  clear hK K
  try simp only [Act.put, pZ]
  refine hCall (i := 8) rfl (by kernel_rfl) (by rfl) (fun K hK => ?_)
  go_simp
  refine (qadd_any k1 k2 (suQ q1) (suQ q2) _ _ _ hF5.ct hF6.ct (by have := HM2.out; omega) (by have := HM2.out; omega) HM2.out.1 HM2.out.2.1).mono ?_
  rintro e u3 ⟨v9, rfl, hF9, hb3⟩; replace hz1 := hz1.below hb3; replace hz2 := hz2.below hb3; replace B0 := B0.below hb3; replace hF5 := hF5.below hb3; replace hF6 := hF6.below hb3
  replace hbW : Below w.heap.size w u3 := hbW.trans (hb3.mono hbW.size)
  clear hb3; rw [HQ.out] at hF9; obtain ⟨n9, x9, y9, ⟨a9, c9, b9, d9, rfl, hx9, hy9⟩, hF9⟩ := hF9
  go_wp2_with fail
  refine hK.out _ _ ?_ (fun hHeld => ?_)
  · (try dsimp only)
    all_goals trivial
  clear hK K
  try simp only [Act.put, pZ]
  refine hCall (i := 9) rfl (by kernel_rfl) (by rfl) (fun K hK => ?_)
  go_simp
  have hs := B0.lt
  obtain ⟨f1, f2, f3, f4, f5, f6⟩ := B0.cells
  try go_simp
  obtain ⟨u64, hU, C9, hbU, hK9, ho⟩ := set3_world B0 (.bool n9) (.slice a9 x9.length c9) (.slice b9 y9.length d9)
  rw [← hU]; clear hU f1 f2 f3 f4 f5 f6
  replace hbW := hbU _ _ hbW (by omega)
  replace hx9 := hK9 _ _ _ hx9
  replace hy9 := hK9 _ _ _ hy9
  clear hbU hK9 ho
  refine hK.out _ _ ?_ (fun hHeld => ?_)
  · (try dsimp only)
    all_goals trivial
  clear hK K
  try simp only [Act.put, pZ]
  refine wpAnyH_done (by kernel_rfl) ?_ _
  clear hHeld; go_wp2
  refine bodyPost_ret (by obtain ⟨r1, r2, r3, _⟩ := C9.cells; simp [results, Tryz.results77, go_sem, r1, r2, r3]) rfl ⟨_, rfl, Fr.le (k := k1 + k2 + 1) ⟨_, _, _, ⟨_, _, _, _, rfl, hx9, hy9⟩, hF9⟩ HM.out, hbW⟩
theorem append_noIs {P : Program} {w w' : World} {v v' : Value} (base : Nat) (t ty e : TypeId) (i : TypeInfo) (ht : P.underlying t = some (.slice e)) (hi : P.info? e = some i) (hz : i.zero = some rtZ) (hsize : i.size = 3) (hby : i.bytes = 56)
    (n : Nat) (xs : List Value) (hown : w.ownsRow base e 3 v n xs) (hn : ∀ g, v.ownBlock = some g → NoI w g)
    (a : Addr) (m pc : Nat) (news : List Value) (hm : 0 < m) (hl : news.length = m * 3) (hnews : ∀ j u, news[j]? = some u → w.cell? (a.add j) = some u) (h1 : ∀ u ∈ news, isI u = false ∧ u.oneCell' = true) (hlen : n + m ≤ 1000000)
    (hr : (Builtin.append_ #[t, t] ty #[v, .slice (some a) m pc]).run P w = .ok v' w') : ∀ g, v'.ownBlock = some g → NoI w' g := by
 have hl' : news.length = m * i.size := by rw [hsize, hl]
 have hnew : ∀ u ∈ news, isI u = false := fun u hu => (h1 u hu).1
 rcases hown.2 with ⟨rfl, rfl⟩ | ⟨g, cap, cur, rfl, hbg, hg, hnc, hcm, hcs, htake⟩
 · have h2 := run_append_nil (P := P) w t ty e i rtZ ht hi hz a m pc news hl' hnews hm (by omega) (by rw [hby]; omega)
   rw [h2] at hr; injection hr with e1 e2; subst e1 e2
   intro g hg
   simp [Value.ownBlock] at hg
   subst hg
   refine NoI.of (heap_alloc_new w.drew _) (fun c hc => ?_)
   rw [Array.toList_append, List.mem_append] at hc
   rcases hc with hc | hc
   · exact hnew c (by simpa using hc)
   · exact rtZ_zero _ c hc
 · have hcur := (hn g rfl).mem hg
   have hxs : ∀ c ∈ xs, isI c = false := fun c hc => hcur c (by rw [← htake] at hc; exact List.mem_of_mem_take hc)
   by_cases hroom : n + m ≤ cap
   · have hfit : n * i.size + news.length ≤ cur.size := by rw [hsize, hl, hcs]; omega
     have h2 := run_append_room (P := P) w t ty e i ht hi g n cap cur hg a m pc news hl' hnews (fun u hu => (h1 u hu).2) hroom hfit
     rw [h2] at hr; injection hr with e1 e2; subst e1 e2
     intro g' hg'
     simp [Value.ownBlock] at hg'
     subst hg'
     refine NoI.of (setRow_heap w g cur _ e _ hg) (fun c hc => ?_)
     simp only [List.mem_append] at hc
     rcases hc with (hc | hc) | hc
     · exact hcur c (List.mem_of_mem_take hc)
     · exact hnew c hc
     · exact hcur c (List.mem_of_mem_drop hc)
   · have holds : ∀ j u, xs[j]? = some u → w.cell? ((⟨g, 0, none⟩ : Addr).add j) = some u := hown.cells (g := g) rfl
     have h2 := run_append_grow (P := P) w t ty e i rtZ ht hi hz ⟨g, 0, none⟩ n cap xs (by rw [hsize]; exact hown.1) holds a m pc news hl' hnews (by omega) (by omega) (growslice_fits (by omega) (by rw [hby]; omega))
     rw [h2] at hr; injection hr with e1 e2; subst e1 e2
     intro g' hg'
     simp [Value.ownBlock] at hg'
     subst hg'
     refine NoI.of (heap_alloc_new w.drew _) (fun c hc => ?_)
     rw [Array.toList_append, Array.toList_append, List.mem_append, List.mem_append] at hc
     rcases hc with (hc | hc) | hc
     · exact hxs c (by simpa using hc)
     · exact hnew c (by simpa using hc)
     · exact rtZ_zero _ c hc
theorem Rz.cells {w : World} {b off cap k : Nat} {qs : List Rat} (h : Rz w (some ⟨b, off, none⟩) cap k qs) : ∃ us : List Value, us.length = qs.length * 3 ∧ (∀ j u, us[j]? = some u → w.cell? ((⟨b, off, none⟩ : Addr).add j) = some u) ∧ (∀ u ∈ us, isI u = false ∧ u.oneCell' = true) ∧
    ∀ i, i < qs.length → ∃ x y z, us[i * 3]? = some x ∧ us[i * 3 + 1]? = some y ∧ us[i * 3 + 2]? = some z ∧ Fr w (.agg #[x, y, z]) k (qs.getD i 0) := by
 have key : ∀ n, n ≤ qs.length → ∃ us : List Value, us.length = n * 3 ∧ (∀ j u, us[j]? = some u → w.cell? ((⟨b, off, none⟩ : Addr).add j) = some u) ∧ (∀ u ∈ us, isI u = false ∧ u.oneCell' = true) ∧
     ∀ i, i < n → ∃ x y z, us[i * 3]? = some x ∧ us[i * 3 + 1]? = some y ∧ us[i * 3 + 2]? = some z ∧ Fr w (.agg #[x, y, z]) k (qs.getD i 0) := by
  intro n
  induction n with
  | zero => exact fun _ => ⟨[], rfl, (fun j u h => by simp at h), (fun u h => by simp at h), fun i hi => by omega⟩
  | succ n ih =>
   intro hn
   obtain ⟨us, h1, h2, h3, h4⟩ := ih (by omega)
   obtain ⟨b', off', x, y, z, e, hb, c0, c1, c2, hF⟩ := h.2.2 n (by omega)
   cases e
   refine ⟨us ++ [x, y, z], by rw [List.length_append, h1]; simp; omega, fun j u hj => ?_, fun u hu => ?_, fun i hi => ?_⟩
   · by_cases hjl : j < us.length
     · rw [List.getElem?_append_left hjl] at hj
       exact h2 j u hj
     · rw [List.getElem?_append_right (by omega)] at hj
       have hadd : (⟨b, off, none⟩ : Addr).add j = ⟨b, off + j, none⟩ := by unfold Addr.add; split <;> simp_all
       rw [hadd]
       obtain ⟨d, hd⟩ : ∃ d, j - us.length = d := ⟨_, rfl⟩
       rw [hd] at hj
       have ej : j = n * 3 + d := by omega
       match d, hj with
       | 0, hj => simp at hj; subst hj; rw [ej]; exact c0
       | 1, hj => simp at hj; subst hj; rw [ej, ← Nat.add_assoc]; exact c1
       | 2, hj => simp at hj; subst hj; rw [ej, ← Nat.add_assoc]; exact c2
   · rcases List.mem_append.1 hu with hu | hu
     · exact h3 u hu
     · exact hF.noI u hu
   · by_cases hin : i < n
     · obtain ⟨x', y', z', q0, q1, q2, q3⟩ := h4 i hin
       exact ⟨x', y', z', by rw [List.getElem?_append_left (by omega)]; exact q0, by rw [List.getElem?_append_left (by omega)]; exact q1, by rw [List.getElem?_append_left (by omega)]; exact q2, q3⟩
     · obtain rfl : i = n := by omega
       refine ⟨x, y, z, ?_, ?_, ?_, hF⟩
       · rw [List.getElem?_append_right (by omega), h1]; simp
       · rw [List.getElem?_append_right (by omega), h1, show i * 3 + 1 - i * 3 = 1 by omega]; simp
       · rw [List.getElem?_append_right (by omega), h1, show i * 3 + 2 - i * 3 = 2 by omega]; simp
 exact key _ (Nat.le_refl _)
theorem wp_append_rts {w : World} {o : Oper} {a : Act} {K : Act → World → Prop} {Q : Exit → Act → World → Prop} (t e : TypeId)
    (ht : Tryz.prog.underlying t = some (.slice e)) (hinfo : (Tryz.prog.info? e).map (fun i => (i.zero, i.size, i.bytes)) = some (some rtZ, 3, 56))
    (s x : Operand) (ho : o.op = .call { callee := .builtin .append, args := #[s, x], argTypes := #[t, t] })
    (base : Nat) (v : Value) (k : Nat) (qs ms : List Rat) (hs : a.eval s = v) (hown : Ro e base w v k qs) (pa : Option Addr) (pc n : Nat) (hn : n = ms.length) (hx : a.eval x = .slice pa n pc) (hp : Rz w pa pc k ms) (hpn : pa = none → pc = 0) (hps : ∀ ad, pa = some ad → ∃ b off, ad = ⟨b, off, none⟩) (hlen : qs.length + ms.length ≤ 1000000) (hbase : base ≤ w.heap.size)
    (h : ∀ v' w', Ro e base w' v' k (qs ++ ms) → w.grownBy w' v.ownBlock → (v'.ownBlock = v.ownBlock ∨ v'.ownBlock = some w.heap.size) → K (a.put o.dst v') w') : o.wp Tryz.prog a w K Q := by
 subst hn
 obtain ⟨i0, hi, hz0, hz1, hz2⟩ := info_parts hinfo
 obtain ⟨vs, h3, hnI, h4⟩ := hown
 cases pa with
 | none =>
  obtain rfl := hpn rfl
  have hm : ms = [] := List.length_eq_zero_iff.1 (Nat.le_zero.1 hp.1)
  subst hm
  have hrun := run_append_owned_none (P := Tryz.prog) (w := w) base t o.type e i0 3 ht hi v qs.length vs h3
  have hx' : a.eval x = .slice none 0 0 := hx
  unfold Oper.wp execOp
  simp only [ho, resolve, invoke, builtin, Sem.run_bind, Sem.run_pure, Result.andThen_ok, List.map_toArray, List.map_cons, List.map_nil, hs, hx', hrun]
  exact h v w (by rw [List.append_nil]; exact ⟨vs, h3, hnI, h4⟩) (World.grownBy.refl w _) (.inl rfl)
 | some ad =>
  obtain ⟨b, off, rfl⟩ := hps ad rfl
  obtain ⟨us, l1, l2, l3, l4⟩ := hp.cells
  obtain ⟨v', w', hr, k1, k2, k3, k4⟩ := run_append_own_at (P := Tryz.prog) w base t o.type e i0 rtZ 3 56 ht hi hz0 hz1 hz2 rfl (by decide) v qs.length vs h3 ⟨b, off, none⟩ ms.length pc us l1 l2 (fun u hu => (l3 u hu).2) (by unfold maxLen; omega) (by omega) hbase
  have hn' : ∀ g, v'.ownBlock = some g → NoI w' g := by
   by_cases hm : 0 < ms.length
   · exact append_noIs base t o.type e i0 ht hi hz0 hz1 hz2 qs.length vs h3 hnI ⟨b, off, none⟩ ms.length pc us hm l1 l2 l3 hlen hr
   · have hm0 : ms.length = 0 := by omega
     rcases h3.2 with ⟨rfl, h0⟩ | ⟨g, cap, cur, rfl, hbg, hg, hnc, hcm, hcs, htake⟩
     · rw [k3.2 ⟨rfl, hm0⟩]
       intro g hg
       cases hg
     · have hus : us = [] := List.length_eq_zero_iff.1 (by omega)
       subst hus
       have h2 := run_append_room (P := Tryz.prog) w t o.type e i0 ht hi g qs.length cap cur hg ⟨b, off, none⟩ ms.length pc [] (by rw [hm0]; simp) (by simp) (by simp) (by omega) (by rw [hz1, hcs]; simp; omega)
       rw [h2] at hr; injection hr with e1 e2; subst e1 e2
       intro g' hg'
       simp [Value.ownBlock] at hg'
       subst hg'
       have hcur := (hnI g rfl).mem hg
       refine NoI.of (setRow_heap w g cur _ e _ hg) (fun c hc => ?_)
       simp only [List.mem_append] at hc
       rcases hc with (hc | hc) | hc
       · exact hcur c (List.mem_of_mem_take hc)
       · simp at hc
       · exact hcur c (List.mem_of_mem_drop hc)
  have hvs : vs.length = qs.length * 3 := h3.1
  unfold Oper.wp execOp
  simp only [ho, resolve, invoke, builtin, Sem.run_bind, Sem.run_pure, Result.andThen_ok, List.map_toArray, List.map_cons, List.map_nil, hs, hx, hr]
  refine h v' w' ⟨vs ++ us, by rw [List.length_append]; exact k1, hn', fun j hj => ?_⟩ k2 k4
  by_cases hjm : j < qs.length
  · obtain ⟨x', y', z', q0, q1, q2, q3⟩ := h4 j hjm
    have e' : (qs ++ ms).getD j 0 = qs.getD j 0 := by simp [List.getD, List.getElem?_append_left hjm]
    rw [e']
    exact ⟨x', y', z', by rw [List.getElem?_append_left (by omega)]; exact q0, by rw [List.getElem?_append_left (by omega)]; exact q1, by rw [List.getElem?_append_left (by omega)]; exact q2, q3.grown k2 hnI⟩
  · have hj' : j - qs.length < ms.length := by simp at hj; omega
    have e' : (qs ++ ms).getD j 0 = ms.getD (j - qs.length) 0 := by simp [List.getD, List.getElem?_append_right (show qs.length ≤ j by omega)]
    rw [e']
    obtain ⟨x', y', z', q0, q1, q2, q3⟩ := l4 _ hj'
    refine ⟨x', y', z', ?_, ?_, ?_, q3.grown k2 hnI⟩
    · rw [List.getElem?_append_right (by omega), hvs, show j * 3 - qs.length * 3 = (j - qs.length) * 3 by omega]; exact q0
    · rw [List.getElem?_append_right (by omega), hvs, show j * 3 + 1 - qs.length * 3 = (j - qs.length) * 3 + 1 by omega]; exact q1
    · rw [List.getElem?_append_right (by omega), hvs, show j * 3 + 2 - qs.length * 3 = (j - qs.length) * 3 + 2 by omega]; exact q2
theorem wpList_append_rts {w : World} {ops : Array Oper} {rest : List Oper} {o : Oper} {a : Act} {Q : Exit → Act → World → Prop} (t e : TypeId)
    (ht : Tryz.prog.underlying t = some (.slice e)) (hinfo : (Tryz.prog.info? e).map (fun i => (i.zero, i.size, i.bytes)) = some (some rtZ, 3, 56)) (hgd : o.guard = none)
    (s x : Operand) (ho : o.op = .call { callee := .builtin .append, args := #[s, x], argTypes := #[t, t] })
    (base : Nat) (v : Value) (k : Nat) (qs ms : List Rat) (hs : a.eval s = v) (hown : Ro e base w v k qs) (pa : Option Addr) (pc n : Nat) (hn : n = ms.length) (hx : a.eval x = .slice pa n pc) (hp : Rz w pa pc k ms) (hpn : pa = none → pc = 0) (hps : ∀ ad, pa = some ad → ∃ b off, ad = ⟨b, off, none⟩) (hlen : qs.length + ms.length ≤ 1000000) (hbase : base ≤ w.heap.size)
    (h : ∀ v' w', Ro e base w' v' k (qs ++ ms) → w.grownBy w' v.ownBlock → (v'.ownBlock = v.ownBlock ∨ v'.ownBlock = some w.heap.size) → wpList Tryz.prog ops Q rest (a.put o.dst v') w') : wpList Tryz.prog ops Q (o :: rest) a w :=
 wpList_plain hgd fun K hK => wp_append_rts t e ht hinfo s x ho base v k qs ms hs hown pa pc n hn hx hp hpn hps hlen hbase (fun v' w' k1 k2 k3 => hK _ _ (h v' w' k1 k2 k3))
def Rf (w : World) (a : Option Addr) (cap k : Nat) (qs : List Rat) : Prop := Rz w a cap k qs ∧ (a = none → cap = 0) ∧ ∀ ad, a = some ad → ∃ b off, ad = ⟨b, off, none⟩
theorem Rf.nil (w : World) (k : Nat) : Rf w none 0 k [] := ⟨Rz.nil _ _ _ _ (Nat.zero_le _), (fun _ => rfl), (fun ad e => by cases e)⟩
theorem Rf.below {w w' : World} {a : Option Addr} {cap k : Nat} {qs : List Rat} (h : Rf w a cap k qs) (hb : Below w.heap.size w w') : Rf w' a cap k qs := ⟨h.1.below hb, h.2⟩
theorem Ro.rf {T : TypeId} {base : Nat} {w : World} {v : Value} {k : Nat} {qs : List Rat} (h : Ro T base w v k qs) : ∃ a cap, v = .slice a qs.length cap ∧ Rf w a cap k qs := by
 obtain ⟨a, cap, e, hz⟩ := h.slice; obtain ⟨vs, h3, _, h4⟩ := h
 rcases h3.2 with ⟨e1, h0⟩ | ⟨g, cap', cur, e1, _⟩
 · rw [e] at e1
   injection e1 with e1 e2 e3
   exact ⟨a, cap, e, hz, (fun _ => e3), (fun ad e4 => by rw [e1] at e4; cases e4)⟩
 · rw [e] at e1
   injection e1 with e1 e2 e3
   exact ⟨a, cap, e, hz, (fun e4 => by rw [e1] at e4; cases e4), (fun ad e4 => by rw [e1] at e4; cases e4; exact ⟨_, _, rfl⟩)⟩
theorem Rz.one {w : World} {g k : Nat} {x y z : Value} {q : Rat} (hg : g < w.heap.size) (c0 : w.cell? ⟨g, 0, none⟩ = some x) (c1 : w.cell? ⟨g, 1, none⟩ = some y) (c2 : w.cell? ⟨g, 2, none⟩ = some z) (hF : Fr w (.agg #[x, y, z]) k q) : Rz w (some ⟨g, 0, none⟩) 1 k [q] := by
 refine ⟨Nat.le_refl _, by unfold maxLen; omega, fun i hi => ?_⟩
 obtain rfl : i = 0 := by simpa using hi
 exact ⟨g, 0, x, y, z, rfl, hg, c0, c1, c2, hF⟩
def Rg (base : Nat) (w : World) (a : Option Addr) (cap k : Nat) (qs : List Rat) : Prop := Rf w a cap k qs ∧ ∀ b o, a = some ⟨b, o, none⟩ → base ≤ b
theorem Rg.nil (base : Nat) (w : World) (k : Nat) : Rg base w none 0 k [] := ⟨Rf.nil _ _, fun b o e => by cases e⟩
theorem Rg.below {base : Nat} {w w' : World} {a : Option Addr} {cap k : Nat} {qs : List Rat} (h : Rg base w a cap k qs) (hb : Below w.heap.size w w') : Rg base w' a cap k qs := ⟨h.1.below hb, h.2⟩
theorem Rg.lower {base base' : Nat} {w : World} {a : Option Addr} {cap k : Nat} {qs : List Rat} (h : Rg base w a cap k qs) (hb : base' ≤ base) : Rg base' w a cap k qs := ⟨h.1, fun b o e => Nat.le_trans hb (h.2 b o e)⟩
theorem Ro.rg {T : TypeId} {base : Nat} {w : World} {v : Value} {k : Nat} {qs : List Rat} (h : Ro T base w v k qs) : ∃ a cap, v = .slice a qs.length cap ∧ Rg base w a cap k qs := by
 obtain ⟨a, cap, e, hz⟩ := h.rf; obtain ⟨vs, h3, _, h4⟩ := h
 refine ⟨a, cap, e, hz, fun b o e4 => ?_⟩
 rcases h3.2 with ⟨e1, h0⟩ | ⟨g, cap', cur, e1, hb, _⟩
 · rw [e] at e1
   injection e1 with e1 e2 e3; rw [e1] at e4
   cases e4
 · rw [e] at e1
   injection e1 with e1 e2 e3; rw [e1] at e4
   cases e4
   exact hb
end Go.Proofs.YtngmcghmniakeaaGreat
