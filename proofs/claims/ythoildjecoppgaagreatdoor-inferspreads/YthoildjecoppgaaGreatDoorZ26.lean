/-
  What a law of layer 13 is told of what came in: rows of ints, int16 and bools; structs of them.
  Infer: what is spread over an outline (plain mathematics).
  Rows of the call's own, side by side.
  outline.Formed, slices.Grow, slices.Concat, outline.Points, outline.Ends: the walks.
-/
import Derived.Test.YthoildjecoppgaaGreatDoorZ25
import Derived.Test.YthoildjecoppgaaGreatDoorZ17
import Derived.Test.YthoildjecoppgaaGreatDoorZ11
import Derived.Test.YthoildjecoppgaaGreatDoorZ15
import Derived.Test.YthoildjecoppgaaGreatDoorZ16
import Derived.Lib.AppendZerosOnto
import Derived.Test.YthoildjecoppgaaGreatDoorZ1
import Derived.Deep.CutRange
namespace Go.Proofs.YthoildjecoppgaaGreatDoor
open Go.RowKit
open Go.ChangeShapes Go.WideShapes Go.Joins Go.Deep
set_option linter.unusedSimpArgs false
set_option linter.unusedVariables false

set_option maxRecDepth 100000 in
theorem open_row {α : Type} {E : El α} {t : TypeId} (h : Opens E.row t) {H : Type} {enc : TypeId × Value → H} {W : World} {held : Bool} {a : Option Addr} {len cap : Nat} {d : DataW H} {p : List MemPlace}
    (hd : DataW.Trod enc Tryz.prog W 0 (fun _ => true) held t (.slice a len cap) d p) (hz : ∀ n ∈ d.weights Tryz.prog t, n ≤ reachBytes) : ∃ l : List α, len = l.length ∧ Gr E (fun k => k < W.heap.size) W a cap l := by
  obtain ⟨l, a', cap', e, _, hg, _⟩ := h.cell hd hz rfl
  simp at e
  obtain ⟨rfl, rfl, rfl⟩ := e
  exact ⟨l, rfl, hg⟩
/-- An int16. -/
def El.i16 : El Int := El.num .i16 (-32768) 32767
theorem Gr.rh {S : Nat → Prop} {w : World} {a : Option Addr} {cap : Nat} {l : List Int} (h : Gr El.i16 S w a cap l) : Rh w a cap l := by
  have hz : ∀ i, i < l.length → -32768 ≤ l.getD i 0 ∧ l.getD i 0 ≤ 32767 := fun i hi => by
    obtain ⟨b, off, vs, e, hb, hr, hc⟩ := h.2.2.2 i hi
    exact hr.2
  refine ⟨fun z hz1 => ?_, h.1, h.2.1, ?_⟩
  · obtain ⟨i, hi, e⟩ := List.getElem_of_mem hz1
    have := hz i hi
    rw [List.getD_eq_getElem?_getD, List.getElem?_eq_getElem hi, Option.getD_some, e] at this
    exact this
  · by_cases h0 : l = []
    · exact .inl h0
    · obtain ⟨b, off, e, hb⟩ := h.blk h0
      refine .inr ⟨b, off, e, hb, fun i hi => ?_⟩
      obtain ⟨b', off', vs, e', hb', hr, hc⟩ := h.2.2.2 i hi
      rw [e] at e'
      cases e'
      have := hc 0 Nat.one_pos
      rw [hr.1, show i * El.i16.sz = i from Nat.mul_one i] at this
      exact this
theorem opens_i16 : Opens El.i16 78 := Opens.num Tryz.underlying78 (by kernel_rfl) (fun z h => by simp [Lit.wf, IntKind.min, IntKind.max, IntKind.bits, IntKind.signed] at h; omega)
theorem opens_bs : Opens El.bool.row 23 := Opens.row opens_bool Tryz.underlying23 (by kernel_rfl) Nat.one_pos (of_decide_eq_true (by kernel_rfl))
theorem opens_is : Opens El.int.row 22 := Opens.row opens_int Tryz.underlying22 (by kernel_rfl) Nat.one_pos (of_decide_eq_true (by kernel_rfl))
theorem opens_u8 : Opens (El.num .u8 0 255) 5 := Opens.num Tryz.underlying5 (by kernel_rfl) (fun z h => by simp [Lit.wf, IntKind.min, IntKind.max, IntKind.bits, IntKind.signed] at h; omega)
theorem opens_told : Opens (El.int.row.cat (El.int.row.cat El.int.row)) 38 :=
  Opens.struct Tryz.underlying38 (by kernel_rfl) (OpensF.more opens_is rfl (OpensF.more opens_is rfl (OpensF.last opens_is rfl)))
set_option maxRecDepth 100000 in
/-- Points and their changes. -/
theorem open_told {H : Type} {enc : TypeId × Value → H} {W : World} {held : Bool} {r : Reach} {b0 : Nat} {v : Value} {d : DataW H} {p : List MemPlace}
    (hv : Value.okWide Tryz.prog W r b0 38 v) (hd : DataW.Trod enc Tryz.prog W 0 (fun _ => true) held 38 v d p) (hz : ∀ n ∈ d.weights Tryz.prog 38, n ≤ reachBytes) :
    ∃ a ca, ∃ ps : List Int, ∃ b cb, ∃ dx : List Int, ∃ c cc, ∃ dy : List Int, v = .agg #[.slice a ps.length ca, .slice b dx.length cb, .slice c dy.length cc] ∧ Ri W a ca ps ∧ Ri W b cb dx ∧ Ri W c cc dy := by
  obtain ⟨us, ⟨l, m, k⟩, rfl, us1, ts, e, ⟨a, ca, h1, _, h2, _⟩, us2, ts2, e2, ⟨b, cb, h3, _, h4, _⟩, c, cc, h5, _, h6, _⟩ := opens_told.agg Tryz.underlying38 hv hd hz
  subst h1 h3 h5 e2
  refine ⟨a, ca, l, b, cb, m, c, cc, k, ?_, h2.ri, h4.ri, h6.ri⟩
  congr 1
  apply Array.ext'
  exact e

end Go.Proofs.YthoildjecoppgaaGreatDoor

namespace Go.Proofs.YthoildjecoppgaaGreatDoor
set_option linter.unusedSimpArgs false
set_option linter.unusedVariables false

/-- How many points and parts. -/
def cntO (o : Ol) : Nat := o.ps.length + o.cs.flatten.length
/-- The one ahead. -/
def lastI (pts : List Int) (k : Nat) : Int := if k = 0 then -1 else pts.getD (k - 1) 0
/-- Number k rises, and is below n. -/
def risP (pts : List Int) (n k : Nat) : Prop := lastI pts k < pts.getD k 0 ∧ pts.getD k 0 < (n : Int)
def risB (pts : List Int) (n : Nat) : Bool := (List.range pts.length).all (fun k => decide (lastI pts k < pts.getD k 0 ∧ pts.getD k 0 < (n : Int)))
theorem risB_no {pts : List Int} {n k : Nat} (hk : k < pts.length) (h : ¬ risP pts n k) : risB pts n = false := by
  unfold risB
  exact List.all_eq_false.2 ⟨k, List.mem_range.2 hk, by rw [decide_eq_true_iff]; exact h⟩
theorem risB_yes {pts : List Int} {n : Nat} (h : ∀ k, k < pts.length → risP pts n k) : risB pts n = true := by
  unfold risB
  exact List.all_eq_true.2 (fun k hk => by rw [decide_eq_true_iff]; exact h k (List.mem_range.1 hk))
theorem risB_iff {pts : List Int} {n : Nat} : risB pts n = true ↔ ∀ k, k < pts.length → risP pts n k := by
  unfold risB
  rw [List.all_eq_true]
  exact ⟨fun h k hk => by have := h k (List.mem_range.2 hk); rw [decide_eq_true_iff] at this; exact this, fun h k hk => by rw [decide_eq_true_iff]; exact h k (List.mem_range.1 hk)⟩
theorem risP_nonneg {pts : List Int} {n : Nat} : ∀ k, (∀ j, j < k + 1 → risP pts n j) → 0 ≤ pts.getD k 0 ∧ pts.getD k 0 < (n : Int) := by
  intro k
  induction k with
  | zero => intro h; have := h 0 (by omega); unfold risP lastI at this; rw [if_pos rfl] at this; omega
  | succ k ih =>
    intro h
    have h1 := ih (fun j hj => h j (by omega))
    have h2 := h (k + 1) (by omega)
    unfold risP lastI at h2
    rw [if_neg (by omega), Nat.add_sub_cancel] at h2
    omega
/-- Changes laid at their points; the points that are touched. -/
def layI (pts told : List Int) (n : Nat) : Nat → List Int
  | 0 => List.replicate n 0
  | k + 1 => (layI pts told n k).set (pts.getD k 0).toNat (told.getD k 0)
def tchI (pts : List Int) (n : Nat) : Nat → List Bool
  | 0 => List.replicate n false
  | k + 1 => (tchI pts n k).set (pts.getD k 0).toNat true
theorem layI_len (pts told : List Int) (n k : Nat) : (layI pts told n k).length = n := by
  induction k with
  | zero => simp [layI]
  | succ k ih => rw [layI, List.length_set, ih]
theorem tchI_len (pts : List Int) (n k : Nat) : (tchI pts n k).length = n := by
  induction k with
  | zero => simp [tchI]
  | succ k ih => rw [tchI, List.length_set, ih]
theorem layI_fd {pts told : List Int} {n : Nat} (h : ∀ z ∈ told, -32768 ≤ z ∧ z ≤ 32767) (k : Nat) : ∀ z ∈ layI pts told n k, -32768 ≤ z ∧ z ≤ 32767 := by
  induction k with
  | zero => intro z hz; rw [layI] at hz; rw [List.eq_of_mem_replicate hz]; omega
  | succ k ih =>
    intro z hz
    rw [layI] at hz
    rcases List.mem_or_eq_of_mem_set hz with hz | hz
    · exact ih z hz
    · rw [hz]; exact fd_getD h k
/-- What fits an outline. -/
def spB (o : Ol) (pts dx dy : List Int) : Bool := foB o && (risB pts (cntO o) && (decide (dx.length = pts.length) && (decide (dy.length = pts.length) && (dx.all fdB && dy.all fdB))))
theorem spB_iff {o : Ol} {pts dx dy : List Int} : spB o pts dx dy = true ↔ FoP o ∧ risB pts (cntO o) = true ∧ dx.length = pts.length ∧ dy.length = pts.length ∧ (∀ z ∈ dx, -32768 ≤ z ∧ z ≤ 32767) ∧ ∀ z ∈ dy, -32768 ≤ z ∧ z ≤ 32767 := by
  unfold spB
  simp only [Bool.and_eq_true, decide_eq_true_iff, List.all_eq_true, fdB_iff, foB_iff]
/-- Where a contour begins. -/
def ofC (cs : List (List Pn)) (k : Nat) : Nat := ((cs.take k).flatten).length
theorem ofC_succ {cs : List (List Pn)} {k : Nat} (hk : k < cs.length) : ofC cs (k + 1) = ofC cs k + (cs.getD k []).length := flat_take_succ hk
theorem ofC_le (cs : List (List Pn)) (k : Nat) : ofC cs k ≤ cs.flatten.length := flat_take_le cs k
theorem ofC_all (cs : List (List Pn)) : ofC cs cs.length = cs.flatten.length := by unfold ofC; rw [List.take_length]
theorem flat_cut : ∀ (cs : List (List Pn)) (k : Nat), k < cs.length → (cs.flatten.drop (ofC cs k)).take (cs.getD k []).length = cs.getD k [] := by
  intro cs
  induction cs with
  | nil => intro k hk; simp at hk
  | cons c t ih =>
    intro k hk
    cases k with
    | zero => simp [ofC]
    | succ k =>
      have h1 : ofC (c :: t) (k + 1) = c.length + ofC t k := by simp [ofC]
      rw [h1, List.flatten_cons, List.drop_append, List.drop_eq_nil_of_le (show c.length ≤ c.length + ofC t k by omega), List.nil_append, show c.length + ofC t k - c.length = ofC t k by omega, List.getD_cons_succ]
      exact ih k (by simpa using hk)
/-- What is spread over one contour, and over all. -/
def segF (f : Pn → Int) (cs : List (List Pn)) (lay : List Int) (tch : List Bool) (i : Nat) : List Rat :=
  fillQ ((cs.getD i []).map f) ((tch.drop (ofC cs i)).take (cs.getD i []).length) ((lay.drop (ofC cs i)).take (cs.getD i []).length)
def conQ (f : Pn → Int) (cs : List (List Pn)) (lay : List Int) (tch : List Bool) (k : Nat) : List Rat := ((List.range k).map (segF f cs lay tch)).flatten
theorem conQ_succ (f : Pn → Int) (cs : List (List Pn)) (lay : List Int) (tch : List Bool) (k : Nat) : conQ f cs lay tch (k + 1) = conQ f cs lay tch k ++ segF f cs lay tch k := by
  unfold conQ
  rw [List.range_succ, List.map_append, List.flatten_append]
  simp
theorem segF_len_le (f : Pn → Int) (cs : List (List Pn)) (lay : List Int) (tch : List Bool) (i : Nat) : (segF f cs lay tch i).length ≤ (cs.getD i []).length := by
  unfold segF
  cases h : fitB ((cs.getD i []).map f) ((tch.drop (ofC cs i)).take (cs.getD i []).length) ((lay.drop (ofC cs i)).take (cs.getD i []).length) with
  | false => rw [fillQ_no h]; exact Nat.zero_le _
  | true => rw [fillQ_len h, List.length_map]; exact Nat.le_refl _
theorem conQ_len_le (f : Pn → Int) (cs : List (List Pn)) (lay : List Int) (tch : List Bool) (k : Nat) (hk : k ≤ cs.length) : (conQ f cs lay tch k).length ≤ ofC cs k := by
  induction k with
  | zero => exact Nat.zero_le _
  | succ k ih =>
    rw [conQ_succ, List.length_append, ofC_succ (by omega)]
    have := ih (by omega)
    have := segF_len_le f cs lay tch k
    omega
/-- What Spread answers. -/
def spQ (f : Pn → Int) (o : Ol) (pts told : List Int) : List Rat :=
  if 0 < o.ps.length then (layI pts told (cntO o) pts.length).map (fun z : Int => (z : Rat)) else conQ f o.cs (layI pts told (cntO o) pts.length) (tchI pts (cntO o) pts.length) o.cs.length
theorem spQ_parts {f : Pn → Int} {o : Ol} {pts told : List Int} (h : 0 < o.ps.length) : spQ f o pts told = (layI pts told (cntO o) pts.length).map (fun z : Int => (z : Rat)) := if_pos h
theorem spQ_cons {f : Pn → Int} {o : Ol} {pts told : List Int} (h : ¬ 0 < o.ps.length) : spQ f o pts told = conQ f o.cs (layI pts told (cntO o) pts.length) (tchI pts (cntO o) pts.length) o.cs.length := if_neg h

/-- All told, or none: each changes by what is laid. -/
theorem conQ_plain {f : Pn → Int} {cs : List (List Pn)} {lay : List Int} {tch : List Bool} (hl : lay.length = cs.flatten.length) (ht : tch.length = cs.flatten.length) (h80 : cs.flatten.length ≤ 80) (hf : ∀ p ∈ cs.flatten, -32768 ≤ f p ∧ f p ≤ 32767) (hd : ∀ z ∈ lay, -32768 ≤ z ∧ z ≤ 32767)
    (h : (∀ j, j < tch.length → tch.getD j false = true) ∨ ((∀ j, j < tch.length → tch.getD j false = false) ∧ ∀ j, lay.getD j 0 = 0)) : ∀ k, k ≤ cs.length → conQ f cs lay tch k = (lay.take (ofC cs k)).map (fun z : Int => (z : Rat)) := by
  intro k
  induction k with
  | zero => intro _; simp [conQ, ofC]
  | succ k ih =>
    intro hk
    have hs := ofC_succ (cs := cs) (k := k) (by omega)
    have hle := ofC_le cs (k + 1)
    rw [conQ_succ, ih (by omega), hs, List.take_add, List.map_append]
    congr 1
    obtain ⟨c, hc⟩ : ∃ c, cs.getD k [] = c := ⟨_, rfl⟩
    have hcm : ∀ p ∈ c, p ∈ cs.flatten := fun p hp => by
      have h9 := flat_cut cs k (by omega)
      rw [hc] at h9
      rw [← h9] at hp
      exact List.mem_of_mem_drop (List.mem_of_mem_take hp)
    rw [hc] at hs ⊢
    have e1 : ((lay.drop (ofC cs k)).take c.length).length = c.length := by rw [List.length_take, List.length_drop]; omega
    have e2 : ((tch.drop (ofC cs k)).take c.length).length = c.length := by rw [List.length_take, List.length_drop]; omega
    have hF : fitB (c.map f) ((tch.drop (ofC cs k)).take c.length) ((lay.drop (ofC cs k)).take c.length) = true := fitB_iff.2 ⟨⟨by rw [e2, List.length_map], by rw [e1, List.length_map], by rw [List.length_map]; omega⟩, fun z hz => by
      obtain ⟨p, hp, rfl⟩ := List.mem_map.1 hz
      exact hf p (hcm p hp), fun z hz => hd z (List.mem_of_mem_drop (List.mem_of_mem_take hz))⟩
    unfold segF
    rw [hc, fillQ_yes hF]
    refine List.ext_getElem (by simp [e1]; rw [List.length_take, List.length_drop] at e1; omega) (fun j h1 h2 => ?_)
    have hj : j < c.length := by simpa using h1
    have g1 : ((tch.drop (ofC cs k)).take c.length).getD j false = tch.getD (ofC cs k + j) false := by simp [List.getD, List.getElem?_take, hj]
    have g2 : ((lay.drop (ofC cs k)).take c.length).getD j 0 = lay.getD (ofC cs k + j) 0 := by simp [List.getD, List.getElem?_take, hj]
    have g3 : ((lay.drop (ofC cs k)).take c.length)[j]'(by rw [e1]; exact hj) = lay.getD (ofC cs k + j) 0 := by rw [← g2, List.getD_eq_getElem?_getD, List.getElem?_eq_getElem (by rw [e1]; exact hj)]; rfl
    rw [List.getElem_map, List.getElem_range, List.getElem_map, g3]
    rcases h with h | ⟨h, h0⟩
    · rw [fiQ_own (by rw [g1]; exact h _ (by omega)), g2]
    · rw [fiQ_none (by rw [e2]; exact hj) (fun i hi => by
        rw [e2] at hi
        have : ((tch.drop (ofC cs k)).take c.length).getD i false = tch.getD (ofC cs k + i) false := by simp [List.getD, List.getElem?_take, hi]
        rw [this]
        exact h _ (by omega)), h0]
      rfl
theorem conQ_plain_all {f : Pn → Int} {cs : List (List Pn)} {lay : List Int} {tch : List Bool} (hl : lay.length = cs.flatten.length) (ht : tch.length = cs.flatten.length) (h80 : cs.flatten.length ≤ 80) (hf : ∀ p ∈ cs.flatten, -32768 ≤ f p ∧ f p ≤ 32767) (hd : ∀ z ∈ lay, -32768 ≤ z ∧ z ≤ 32767)
    (h : (∀ j, j < tch.length → tch.getD j false = true) ∨ ((∀ j, j < tch.length → tch.getD j false = false) ∧ ∀ j, lay.getD j 0 = 0)) : conQ f cs lay tch cs.length = lay.map (fun z : Int => (z : Rat)) := by
  rw [conQ_plain hl ht h80 hf hd h cs.length (Nat.le_refl _), ofC_all, ← hl, List.take_length]
/-- All points in order. -/
def allI (n : Nat) : List Int := (List.range n).map (fun j : Nat => (j : Int))
theorem allI_len (n : Nat) : (allI n).length = n := by simp [allI]
theorem allI_get {n k : Nat} (hk : k < n) : (allI n).getD k 0 = (k : Int) := by simp [allI, List.getD, hk]
theorem allI_succ (n : Nat) : allI (n + 1) = allI n ++ [(n : Int)] := rg_succ' n
where rg_succ' (n : Nat) : (List.range (n + 1)).map (fun j : Nat => (j : Int)) = (List.range n).map (fun j : Nat => (j : Int)) ++ [(n : Int)] := by rw [List.range_succ, List.map_append]; rfl
theorem allI_ris (n : Nat) : risB (allI n) n = true := by
  refine risB_yes (fun k hk => ?_)
  rw [allI_len] at hk
  unfold risP lastI
  rw [allI_get hk]
  by_cases h0 : k = 0
  · rw [if_pos h0]; omega
  · rw [if_neg h0, allI_get (by omega)]; omega
theorem layI_all {told : List Int} {n : Nat} (hl : told.length = n) : ∀ k, k ≤ n → ∀ j, j < n → (layI (allI n) told n k).getD j 0 = if j < k then told.getD j 0 else 0 := by
  intro k
  induction k with
  | zero => intro _ j hj; rw [layI, if_neg (by omega)]; simp [List.getD, hj]
  | succ k ih =>
    intro hk j hj
    rw [layI, allI_get (by omega), Int.toNat_natCast]
    by_cases e : j = k
    · subst e
      rw [if_pos (by omega)]
      simp [List.getD, layI_len, hj]
    · have : ((layI (allI n) told n k).set k (told.getD k 0)).getD j 0 = (layI (allI n) told n k).getD j 0 := by simp [List.getD, List.getElem?_set_ne (fun x => e x.symm)]
      rw [this, ih (by omega) j hj]
      by_cases h : j < k
      · rw [if_pos h, if_pos (by omega)]
      · rw [if_neg h, if_neg (by omega)]
theorem layI_told {told : List Int} {n : Nat} (hl : told.length = n) : layI (allI n) told n n = told := by
  refine List.ext_getElem (by rw [layI_len, hl]) (fun j h1 h2 => ?_)
  have := layI_all hl n (Nat.le_refl _) j (by omega)
  rw [if_pos (by omega), List.getD_eq_getElem?_getD, List.getD_eq_getElem?_getD, List.getElem?_eq_getElem h1, List.getElem?_eq_getElem h2] at this
  exact this
theorem tchI_all {n : Nat} : ∀ k, k ≤ n → ∀ j, j < k → (tchI (allI n) n k).getD j false = true := by
  intro k
  induction k with
  | zero => intro _ j hj; omega
  | succ k ih =>
    intro hk j hj
    rw [tchI, allI_get (by omega), Int.toNat_natCast]
    by_cases e : j = k
    · subst e
      simp [List.getD, tchI_len, show j < n by omega]
    · have : ((tchI (allI n) n k).set k true).getD j false = (tchI (allI n) n k).getD j false := by simp [List.getD, List.getElem?_set_ne (fun x => e x.symm)]
      rw [this]
      exact ih (by omega) j (by omega)
/-- All points told. -/
theorem spQ_all {f : Pn → Int} {o : Ol} {told : List Int} (hfo : FoP o) (hl : told.length = cntO o) (hf : ∀ p ∈ o.cs.flatten, -32768 ≤ f p ∧ f p ≤ 32767) (hd : ∀ z ∈ told, -32768 ≤ z ∧ z ≤ 32767) : spQ f o (allI (cntO o)) told = told.map (fun z : Int => (z : Rat)) := by
  by_cases hp : 0 < o.ps.length
  · rw [spQ_parts hp, allI_len, layI_told hl]
  · have hc : cntO o = o.cs.flatten.length := by unfold cntO; omega
    rw [spQ_cons hp, allI_len, layI_told hl]
    exact conQ_plain_all (by omega) (by rw [tchI_len, hc]) hfo.2.2.2.2.1 hf hd (.inl (fun j hj => by rw [tchI_len] at hj; exact tchI_all _ (Nat.le_refl _) j hj))
/-- No point told. -/
theorem spQ_none {f : Pn → Int} {o : Ol} (hfo : FoP o) (hf : ∀ p ∈ o.cs.flatten, -32768 ≤ f p ∧ f p ≤ 32767) : spQ f o [] [] = (List.replicate (cntO o) (0 : Int)).map (fun z : Int => (z : Rat)) := by
  by_cases hp : 0 < o.ps.length
  · rw [spQ_parts hp]
    rfl
  · have hc : cntO o = o.cs.flatten.length := by unfold cntO; omega
    rw [spQ_cons hp]
    exact conQ_plain_all (by rw [layI_len, hc]) (by rw [tchI_len, hc]) hfo.2.2.2.2.1 hf (layI_fd (by simp) _) (.inr ⟨fun j hj => by
      show (List.replicate (cntO o) false).getD j false = false
      by_cases h : j < cntO o <;> simp [List.getD, h], fun j => by
      show (List.replicate (cntO o) (0 : Int)).getD j 0 = 0
      by_cases h : j < cntO o <;> simp [List.getD, h]⟩)

end Go.Proofs.YthoildjecoppgaaGreatDoor

namespace Go.Proofs.YthoildjecoppgaaGreatDoor
open Go.RowKit Go.Maps
set_option linter.unusedSimpArgs false
set_option linter.unusedVariables false

/-- No row at all. -/
def nilV : Value := .slice none 0 0
/-- Rows of one kind, each in a block of its own. -/
def Fam {α : Type} (E : El α) (t : TypeId) (base : Nat) (w : World) (vs : List Value) (ls : List (List α)) : Prop :=
  vs.length = ls.length ∧ (∀ i, i < vs.length → Gw E t base (fun _ => False) w (vs.getD i nilV) (ls.getD i [])) ∧
    ∀ i j g, i < vs.length → j < vs.length → i ≠ j → (vs.getD i nilV).ownBlock = some g → (vs.getD j nilV).ownBlock ≠ some g
theorem Fam.row {α : Type} {E : El α} {t : TypeId} {base : Nat} {w : World} {vs : List Value} {ls : List (List α)} (h : Fam E t base w vs ls) (k : Nat) (hk : k < vs.length) : Gw E t base (fun _ => False) w (vs.getD k nilV) (ls.getD k []) := h.2.1 k hk
theorem Fam.below {α : Type} {E : El α} {t : TypeId} {base : Nat} {w w' : World} {vs : List Value} {ls : List (List α)} (h : Fam E t base w vs ls) (hb : Below w.heap.size w w') : Fam E t base w' vs ls := ⟨h.1, fun i hi => (h.2.1 i hi).below hb, h.2.2⟩
/-- One of them has grown. -/
theorem Fam.grow {α : Type} {E : El α} {t : TypeId} {base : Nat} {w w' : World} {vs : List Value} {ls : List (List α)} (h : Fam E t base w vs ls) (k : Nat) (hk : k < vs.length) {v' : Value} {l' : List α} (h1 : Gw E t base (fun _ => False) w' v' l') (hg : w.grownBy w' (vs.getD k nilV).ownBlock) (ho : v'.ownBlock = (vs.getD k nilV).ownBlock ∨ v'.ownBlock = some w.heap.size) : Fam E t base w' (vs.set k v') (ls.set k l') := by
  have e1 : ∀ i, i ≠ k → (vs.set k v').getD i nilV = vs.getD i nilV := fun i hi => by simp [List.getD, List.getElem?_set_ne (fun e => hi e.symm)]
  have e2 : (vs.set k v').getD k nilV = v' := by simp [List.getD, hk]
  have e3 : ∀ i, i ≠ k → (ls.set k l').getD i [] = ls.getD i [] := fun i hi => by simp [List.getD, List.getElem?_set_ne (fun e => hi e.symm)]
  have e4 : (ls.set k l').getD k [] = l' := by have := h.1; simp [List.getD, show k < ls.length by omega]
  have hlt : ∀ i g, i < vs.length → (vs.getD i nilV).ownBlock = some g → g < w.heap.size := fun i g hi e => ((h.2.1 i hi).lo e).2
  have hnew : ∀ j g, j < vs.length → j ≠ k → (vs.getD j nilV).ownBlock = some g → v'.ownBlock ≠ some g := fun j g hj hjk e e5 => by
    rcases ho with ho | ho
    · rw [ho] at e5
      exact h.2.2 j k g hj hk hjk e e5
    · rw [ho] at e5
      injection e5 with e5
      have := hlt j g hj e
      omega
  refine ⟨by rw [List.length_set, List.length_set]; exact h.1, fun i hi => ?_, fun i j g hi hj hij e => ?_⟩
  · rw [List.length_set] at hi
    by_cases hik : i = k
    · subst hik
      rw [e2, e4]
      exact h1
    · rw [e1 i hik, e3 i hik]
      exact (h.2.1 i hi).stay hg.size (fun k hk => hk.elim) (fun g eg => hg.block g (hlt i g hi eg) (fun e => h.2.2 i k g hi hk hik eg e.symm))
  · rw [List.length_set] at hi hj
    by_cases hik : i = k
    · subst hik
      rw [e2] at e
      rw [e1 j (fun x => hij x.symm)]
      intro e5
      exact hnew j g hj (fun x => hij x.symm) e5 e
    · rw [e1 i hik] at e
      by_cases hjk : j = k
      · subst hjk
        rw [e2]
        exact hnew i g hi hik e
      · rw [e1 j hjk]
        exact h.2.2 i j g hi hj hij e
/-- A row of another kind has grown. -/
theorem Fam.beside {α β : Type} {E : El α} {F : El β} {t u : TypeId} {base base2 : Nat} {S : Nat → Prop} {w w' : World} {vs : List Value} {ls : List (List α)} {x : Value} {m : List β} (h : Fam E t base w vs ls) (h2 : Gw F u base2 S w x m) (ht : t ≠ u) (hg : w.grownBy w' x.ownBlock) : Fam E t base w' vs ls :=
  ⟨h.1, fun i hi => (h.2.1 i hi).beside h2 ht (fun k hk => hk.elim) hg, h.2.2⟩
theorem Fam.two {α : Type} (E : El α) (t : TypeId) (base : Nat) (w : World) : Fam E t base w [nilV, nilV] [[], []] :=
  ⟨rfl, fun i hi => by
    have : i = 0 ∨ i = 1 := by simp at hi; omega
    rcases this with rfl | rfl <;> exact Gw.nil _ _ _ _ _, fun i j g hi hj hij e => by
    have : i = 0 ∨ i = 1 := by simp at hi; omega
    rcases this with rfl | rfl <;> cases e⟩
theorem Fam.three {α : Type} (E : El α) (t : TypeId) (base : Nat) (w : World) : Fam E t base w [nilV, nilV, nilV] [[], [], []] :=
  ⟨rfl, fun i hi => by
    have : i = 0 ∨ i = 1 ∨ i = 2 := by simp at hi; omega
    rcases this with rfl | rfl | rfl <;> exact Gw.nil _ _ _ _ _, fun i j g hi hj hij e => by
    have : i = 0 ∨ i = 1 ∨ i = 2 := by simp at hi; omega
    rcases this with rfl | rfl | rfl <;> cases e⟩
theorem Fam.four {α : Type} (E : El α) (t : TypeId) (base : Nat) (w : World) : Fam E t base w [nilV, nilV, nilV, nilV] [[], [], [], []] :=
  ⟨rfl, fun i hi => by
    have : i = 0 ∨ i = 1 ∨ i = 2 ∨ i = 3 := by simp at hi; omega
    rcases this with rfl | rfl | rfl | rfl <;> exact Gw.nil _ _ _ _ _, fun i j g hi hj hij e => by
    have : i = 0 ∨ i = 1 ∨ i = 2 ∨ i = 3 := by simp at hi; omega
    rcases this with rfl | rfl | rfl | rfl <;> cases e⟩
/-- Bools of the call's own, and append to them. -/
theorem infoA_bool : (Tryz.prog.info? 4).map (fun i => (i.zero, i.size, i.bytes)) = some (some (.bool false), 1, 1) := by kernel_rfl
theorem wpList_append_gb {w : World} {ops : Array Oper} {rest : List Oper} {o : Oper} {a : Act} {Q : Exit → Act → World → Prop}
    (hgd : o.guard = none) (s x : Operand) (ho : o.op = .call { callee := .builtin .append, args := #[s, x], argTypes := #[23, 23] })
    (base : Nat) (v : Value) (l : List Bool) (hs : a.eval s = v) (hown : Gw El.bool 4 base (fun _ => False) w v l) (g : Nat) (z : Bool) (hx : a.eval x = .slice (some ⟨g, 0, none⟩) 1 1)
    (hg : g < w.heap.size) (c0 : w.cell? ⟨g, 0, none⟩ = some (.bool z)) (hlen : l.length + 1 ≤ 1000000) (hbase : base ≤ w.heap.size)
    (h : ∀ v' w', Gw El.bool 4 base (fun _ => False) w' v' (l ++ [z]) → w.grownBy w' v.ownBlock → (v'.ownBlock = v.ownBlock ∨ v'.ownBlock = some w.heap.size) → wpList Tryz.prog ops Q rest (a.put o.dst v') w') : wpList Tryz.prog ops Q (o :: rest) a w := by
  refine wpList_append_el 23 4 Tryz.underlying23 infoA_bool rfl Nat.one_pos (by decide) hgd s x ho base (fun _ => False) v l hs hown (some ⟨g, 0, none⟩) 1 1 [z] rfl hx ?_ hlen hbase (fun v' w' k1 k2 k3 => h v' w' k1 k2 k3)
  refine Gr.one (vs := [.bool z]) rfl hg (fun j hj => ?_)
  obtain rfl : j = 0 := by simp [El.bool] at hj; exact hj
  exact c0

end Go.Proofs.YthoildjecoppgaaGreatDoor

namespace Go.Proofs.YthoildjecoppgaaGreatDoor
open Go.RowKit Go.Maps
set_option linter.unusedSimpArgs false
set_option linter.unusedVariables false

theorem foB_eq (o : Ol) : foB o = (!(decide (0 < o.ps.length) && decide (0 < o.cs.length)) && (coF o.cs && (decide (o.ps.length ≤ 6) && o.ps.all paF))) := by
  unfold foB coF
  generalize decide (0 < o.cs.length) = b1
  generalize decide (0 < o.ps.length) = b2
  generalize decide (o.cs.length ≤ 10) = b3
  generalize decide (o.ps.length ≤ 6) = b4
  generalize o.cs.all _ = b5
  generalize decide (o.cs.flatten.length ≤ 80) = b6
  generalize o.cs.flatten.all pnF = b7
  generalize o.ps.all paF = b8
  revert b1 b2 b3 b4 b5 b6 b7 b8
  decide

set_option maxHeartbeats 2000000 in
set_option maxRecDepth 100000 in
theorem cformO_any (S : Nat → Prop) (a : Option Addr) (ca : Nat) (b : Option Addr) (cb : Nat) (o : Ol) (w : World) (hc : Gr PnE.row S w a ca o.cs) (hp : Gr PaE S w b cb o.ps) :
    Calls Tryz.prog 25 #[.agg #[.slice a o.cs.length ca, .slice b o.ps.length cb]] w fun e w' => e = .returned (.bool (foB o)) ∧ Below w.heap.size w w' := by
  have k1 := hc.lenB
  have k2 := hp.lenB
  have HE : Hid (_) := foB_eq o
  obtain ⟨W, hW, X1, hbW⟩ : ∃ W, W = w.alloc (.cells #[.slice a o.cs.length ca, .slice b o.ps.length cb] 36) ∧ Bk 36 W w.heap.size [.slice a o.cs.length ca, .slice b o.ps.length cb] ∧ Below w.heap.size w W := ⟨_, rfl, Bk.new _ _ _, bl1 _⟩
  have hc1 := ccontF_any S a ca o.cs W (hc.below hbW)
  have hp1 := fun U (h : Below W.heap.size W U) => cpartsF_any S b cb o.ps U ((hp.below hbW).below h)
  clear hc hp
  by_cases h2 : 0 < o.ps.length
  · have e1 : decide (0 < o.ps.length) = true := decide_eq_true h2
    have g1 : decide ((0 : Int) < (o.ps.length : Int)) = true := decide_eq_true (by omega)
    by_cases h1 : 0 < o.cs.length
    · have e2 : decide (0 < o.cs.length) = true := decide_eq_true h1
      have g2 : decide ((0 : Int) < (o.cs.length : Int)) = true := decide_eq_true (by omega)
      have HF : Hid (foB o = false) := by show _ = _; rw [HE.out, e1, e2]; rfl
      clear HE hc1 hp1
      obtain ⟨x0, x1, _⟩ := X1.two
      go_enter Tryz.func25, Tryz.ntmps25
      go_wp2
      go_ret
      exact ⟨rt_bool HF.out.symm, bl1 _⟩
    · have e2 : decide (0 < o.cs.length) = false := decide_eq_false h1
      have g2 : decide ((0 : Int) < (o.cs.length : Int)) = false := decide_eq_false (by omega)
      have HF : Hid (foB o = (coF o.cs && (decide (o.ps.length ≤ 6) && o.ps.all paF))) := by show _ = _; rw [HE.out, e2, Bool.and_false]; rfl
      clear HE
      generalize coF o.cs = q1 at *
      generalize (decide (o.ps.length ≤ 6) && o.ps.all paF) = q2 at *
      go_enter Tryz.func25, Tryz.ntmps25
      go_wp2_with fail
      rw [← hW]
      clear hW
      refine hc1.mono ?_
      rintro e u1 ⟨rfl, hb1⟩
      replace hbW : Below w.heap.size w u1 := hbW.trans (hb1.mono hbW.size)
      replace hp1 := hp1 u1 hb1
      replace X1 := X1.below hb1
      clear hc1 hb1
      obtain ⟨x0, x1, _⟩ := X1.two
      cases q1 with
      | false =>
        go_wp2
        go_ret
        exact ⟨rt_bool HF.out.symm, hbW⟩
      | true =>
        go_wp2_with fail
        refine hp1.mono ?_
        rintro e u2 ⟨rfl, hb2⟩
        replace hbW : Below w.heap.size w u2 := hbW.trans (hb2.mono hbW.size)
        go_wp2
        go_ret
        exact ⟨rt_bool (by rw [HF.out, Bool.true_and]), hbW⟩
  · have e1 : decide (0 < o.ps.length) = false := decide_eq_false h2
    have g1 : decide ((0 : Int) < (o.ps.length : Int)) = false := decide_eq_false (by omega)
    have HF : Hid (foB o = (coF o.cs && (decide (o.ps.length ≤ 6) && o.ps.all paF))) := by show _ = _; rw [HE.out, e1, Bool.false_and]; rfl
    clear HE
    generalize coF o.cs = q1 at *
    generalize (decide (o.ps.length ≤ 6) && o.ps.all paF) = q2 at *
    go_enter Tryz.func25, Tryz.ntmps25
    go_wp2_with fail
    rw [← hW]
    clear hW
    refine hc1.mono ?_
    rintro e u1 ⟨rfl, hb1⟩
    replace hbW : Below w.heap.size w u1 := hbW.trans (hb1.mono hbW.size)
    replace hp1 := hp1 u1 hb1
    replace X1 := X1.below hb1
    clear hc1 hb1
    obtain ⟨x0, x1, _⟩ := X1.two
    cases q1 with
    | false =>
      go_wp2
      go_ret
      exact ⟨rt_bool HF.out.symm, hbW⟩
    | true =>
      go_wp2_with fail
      refine hp1.mono ?_
      rintro e u2 ⟨rfl, hb2⟩
      replace hbW : Below w.heap.size w u2 := hbW.trans (hb2.mono hbW.size)
      go_wp2
      go_ret
      exact ⟨rt_bool (by rw [HF.out, Bool.true_and]), hbW⟩

theorem zero_size (z : Array Value) (n : Nat) : (Builtin.zeroCells z n).size = n * z.size := by simp [Builtin.zeroCells]

set_option maxHeartbeats 2000000 in
set_option maxRecDepth 100000 in
theorem cgrow_any (n : Nat) (w : World) (hn : n ≤ 1000000) :
    Calls Tryz.prog 90 #[.slice none 0 0, .int .i64 (n : Int)] w fun e w' => ∃ v, e = .returned v ∧ (∀ S, Gw PnE 72 w.heap.size S w' v []) ∧ Below w.heap.size w w' := by
  by_cases h0 : n = 0
  · subst h0
    go_enter Tryz.func90, Tryz.ntmps90
    go_wp2
    go_ret
    exact ⟨_, rfl, fun S => Gw.nil _ _ _ _ _, Below.refl _ _⟩
  have h1 : ¬ ((n : Int) < 0) := by omega
  have h2 : (0 : Int) < (n : Int) := by omega
  obtain ⟨i0, hi, hz0, hz1, hz2⟩ := info_parts info_pn
  have hold := run_firstCells_none (P := Tryz.prog) w.drew i0.size 0 0 0
  have hrz : ∀ ty, (Builtin.append_ #[63, 3] ty #[.slice none 0 0, .int .i64 (n : Int)]).run Tryz.prog w = _ := fun ty => Lib.run_append_grow_zeros w 63 3 ty 72 i0 _ .i64 .i64 Tryz.underlying63 Tryz.underlying3 hi hz0 none 0 0 [] hold n (by omega) (by omega) (by omega) (by omega) (by rw [hz2]; omega) (growslice_fits (by omega) (by rw [hz2]; omega))
  simp only [Nat.zero_add] at hrz
  have hGn : n ≤ grownCap w n 0 72 := grownCap_ge w _ _ _
  obtain ⟨G, hG⟩ : ∃ G, G = grownCap w n 0 72 := ⟨_, rfl⟩
  rw [← hG] at hrz hGn
  have hG63 : G ≤ 9223372036854775807 := by
    have := grownCap_le_maxLen w n 0 72 (by unfold maxLen; omega)
    rw [← hG] at this
    unfold maxLen at this
    omega
  obtain ⟨Z, hZ⟩ : ∃ Z, (([] : List Value).toArray ++ Builtin.zeroCells (Value.agg #[.int .i64 0, .int .i64 0, .bool false]).cells n ++ Builtin.zeroCells (Value.agg #[.int .i64 0, .int .i64 0, .bool false]).cells (G - n)) = Z := ⟨_, rfl⟩
  have hZs : Z.size = G * 3 := by
    rw [← hZ]
    simp only [Array.size_append, zero_size]
    show 0 + n * 3 + (G - n) * 3 = G * 3
    omega
  rw [hZ] at hrz
  clear hold hG hi hz0 hz1 hz2 h0 hZ
  go_enter Tryz.func90, Tryz.ntmps90
  go_wp2_with (at_builtin; refine Lib.wpList_append_run _ rfl _ _ _ _ rfl _ _ rfl rfl _ _ (hrz _) ?_)
  go_ret
  refine ⟨_, rfl, fun S => Gw.made ⟨rfl, .inr ⟨w.heap.size, G, Z, rfl, Nat.le_refl _, ?_, Nat.zero_le _, by unfold maxLen; omega, hZs, rfl⟩⟩, ?_⟩
  · exact heap_alloc_new w _
  · exact (bl1 _).drew

theorem Gr.anyP {S S' : Nat → Prop} {w : World} {a : Option Addr} {cap : Nat} {l : List Pn} (h : Gr PnE S w a cap l) : Gr PnE S' w a cap l := by
  refine ⟨h.1, h.2.1, h.2.2.1, fun i hi => ?_⟩
  obtain ⟨b, off, vs, e, hb, hr, hc⟩ := h.2.2.2 i hi
  exact ⟨b, off, vs, e, hb, PnE_rep.2 (PnE_rep.1 hr), hc⟩
theorem Gr.anyA {S S' : Nat → Prop} {w : World} {a : Option Addr} {cap : Nat} {l : List Pa} (h : Gr PaE S w a cap l) : Gr PaE S' w a cap l := by
  refine ⟨h.1, h.2.1, h.2.2.1, fun i hi => ?_⟩
  obtain ⟨b, off, vs, e, hb, hr, hc⟩ := h.2.2.2 i hi
  exact ⟨b, off, vs, e, hb, PaE_rep.2 (PaE_rep.1 hr), hc⟩
theorem flat_take_snoc {cs : List (List Pn)} {k : Nat} {c : List Pn} (hk : k < cs.length) (hc : cs.getD k [] = c) : (cs.take (k + 1)).flatten = (cs.take k).flatten ++ c := by
  rw [take_snoc (d := []) hk, List.flatten_append, List.flatten_singleton, hc]

set_option maxHeartbeats 2000000 in
set_option maxRecDepth 100000 in
theorem cconcat_any (S : Nat → Prop) (a : Option Addr) (ca : Nat) (cs : List (List Pn)) (w : World) (h : Gr PnE.row S w a ca cs) (hl : cs.flatten.length ≤ 100000) :
    Calls Tryz.prog 66 #[.slice a cs.length ca] w fun e w' => ∃ a' c', e = .returned (.slice a' cs.flatten.length c') ∧ Gr PnE (fun _ => True) w' a' c' cs.flatten ∧ (∀ b o, a' = some ⟨b, o, none⟩ → w.heap.size ≤ b ∧ b < w'.heap.size) ∧ Below w.heap.size w w' := by
  have k2 := h.lenB
  have HH : Hid (Gr PnE.row S w a ca cs) := h
  clear h
  go_enter Tryz.func66, Tryz.ntmps66
  go_wp2
  go_loopw [3, 11] (fun n i wr => ∃ k m : Nat, k ≤ cs.length ∧ i = .int .i64 k ∧ n = .int .i64 (m : Int) ∧ m = ((cs.take k).flatten).length ∧ w = wr) (fun _ i _ => cs.length - (intOf i).toNat)
  case atStart => exact ⟨0, 0, Nat.zero_le _, rfl, rfl, rfl, rfl⟩
  case round =>
    obtain ⟨k, m, hk, rfl, rfl, hm, rfl⟩ := hrel
    have HM : Hid (m = ((cs.take k).flatten).length) := hm
    clear hm
    by_cases hkn : k < cs.length
    · obtain ⟨b, off, a1, c1, ea, hb, d0, hrow, hlb, _⟩ := HH.out.rw (Below.refl _ _) k hkn
      subst ea
      have hst := flat_take_succ hkn
      have hle := flat_take_le cs (k + 1)
      rw [← HM.out] at hst
      obtain ⟨c, hc⟩ : ∃ c, cs.getD k [] = c := ⟨_, rfl⟩
      rw [hc] at d0 hst hlb
      have HM2 : Hid (m + c.length = ((cs.take (k + 1)).flatten).length) := hst.symm
      have hmc : m + c.length ≤ 100000 := by omega
      have i1 : (0 : Int) ≤ (k : Int) := by omega
      have i2 : (k : Int) < (cs.length : Int) := by omega
      have i3 : ¬ (m : Int) + (c.length : Int) < 0 := by omega
      clear hc hst hle hrow HM hlb
      go_wp2
      go_roundw
      case rel => exact ⟨k + 1, m + c.length, by omega, by go_num, by go_num, HM2.out, trivial⟩
      case measure => simp [intOf]; omega
    · obtain rfl : k = cs.length := by omega
      have hm : m = cs.flatten.length := by rw [HM.out, List.take_length]
      have g4 : ¬ (cs.length : Int) < (cs.length : Int) := by omega
      have hgr := cgrow_any m w (by omega)
      clear HM hm
      go_wp2_with fail
      refine hgr.mono ?_
      rintro e u1 ⟨v1, rfl, hT0, hb1⟩
      have HT0 : Hid (Gw PnE 72 w.heap.size (fun _ => True) u1 v1 []) := hT0 _
      have HB1 : Hid (Below w.heap.size w u1) := hb1
      clear hgr hT0 hb1 hk hkn
      go_wp2
      go_loopw [6, 27] (fun v i wr => ∃ k : Nat, k ≤ cs.length ∧ i = .int .i64 k ∧ Gw PnE 72 w.heap.size (fun _ => True) wr v ((cs.take k).flatten) ∧ Below w.heap.size w wr) (fun _ i _ => cs.length - (intOf i).toNat)
      case atStart => exact ⟨0, Nat.zero_le _, rfl, HT0.out, HB1.out⟩
      case round =>
        clear HT0 HB1
        obtain ⟨k, hk, rfl, hT, hB⟩ := hrel
        obtain ⟨a2, c2, rfl, hgr, hblk⟩ := hT.slice
        have HT : Hid (Gw PnE 72 w.heap.size (fun _ => True) wr (.slice a2 ((cs.take k).flatten).length c2) ((cs.take k).flatten)) := hT
        clear hT
        by_cases hkn : k < cs.length
        · obtain ⟨b, off, a1, c1, ea, hb, d0, hrow, hlb, _⟩ := HH.out.rw hB k hkn
          subst ea
          have hst := flat_take_succ hkn
          have hle := flat_take_le cs (k + 1)
          obtain ⟨c, hc⟩ : ∃ c, cs.getD k [] = c := ⟨_, rfl⟩
          have HS : Hid (_) := flat_take_snoc hkn hc
          rw [hc] at d0 hst hlb hrow
          have hll : ((cs.take k).flatten).length + c.length ≤ 1000000 := by omega
          have i1 : (0 : Int) ≤ (k : Int) := by omega
          have i2 : (k : Int) < (cs.length : Int) := by omega
          have hbs : w.heap.size ≤ wr.heap.size := hB.size
          clear hc hst hle hlb hgr hblk
          generalize (cs.take k).flatten = L at *
          go_wp2_with (at_builtin; refine wpList_append_el 63 72 Tryz.underlying63 info_pn rfl (by decide) (by decide) rfl _ _ rfl w.heap.size (fun _ => True) _ L rfl HT.out a1 c1 _ c rfl rfl hrow.anyP hll hbs ?_)
          intro v9 w9 hT9 hgrow _
          have hB9 : Below w.heap.size w w9 := hB.grown hgrow hbs (fun k hk => (HT.out.lo hk).1)
          rw [← HS.out] at hT9
          clear hgrow hbs hll HS
          go_wp2
          go_roundw
          case rel => exact ⟨k + 1, by omega, by go_num, hT9, hB9⟩
          case measure => simp [intOf]; omega
        · obtain rfl : k = cs.length := by omega
          rw [List.take_length] at HT hgr ⊢
          have HB2 : Hid (∀ b o, a2 = some ⟨b, o, none⟩ → w.heap.size ≤ b ∧ b < wr.heap.size) := hblk
          have g4 : ¬ (cs.length : Int) < (cs.length : Int) := by omega
          clear hblk
          go_wp2
          go_ret
          exact ⟨a2, c2, rfl, hgr, HB2.out, hB⟩

set_option maxHeartbeats 1000000 in
set_option maxRecDepth 100000 in
theorem cpointsO_any (S : Nat → Prop) (a : Option Addr) (ca : Nat) (vb : Value) (cs : List (List Pn)) (w : World) (h : Gr PnE.row S w a ca cs) (hl : cs.flatten.length ≤ 100000) (hv : vb.cells = #[vb]) :
    Calls Tryz.prog 47 #[.agg #[.slice a cs.length ca, vb]] w fun e w' => ∃ a' c', e = .returned (.slice a' cs.flatten.length c') ∧ Gr PnE (fun _ => True) w' a' c' cs.flatten ∧ (∀ b o, a' = some ⟨b, o, none⟩ → w.heap.size ≤ b ∧ b < w'.heap.size) ∧ Below w.heap.size w w' := by
  obtain ⟨W, hW, X1, hbW⟩ : ∃ W, W = w.alloc (.cells #[.slice a cs.length ca, vb] 36) ∧ Bk 36 W w.heap.size [.slice a cs.length ca, vb] ∧ Below w.heap.size w W := ⟨_, rfl, Bk.new _ _ _, bl1 _⟩
  have hc1 := cconcat_any S a ca cs W (h.below hbW) hl
  obtain ⟨x0, x1, _⟩ := X1.two
  clear X1 h
  generalize cs.flatten = L at *
  go_enter Tryz.func47, Tryz.ntmps47
  go_wp2_with fail
  rw [← hW]
  clear hW
  refine hc1.mono ?_
  rintro e u1 ⟨a1, c1, rfl, hg, hblk, hb1⟩
  have HBK : Hid (∀ b o, a1 = some ⟨b, o, none⟩ → w.heap.size ≤ b ∧ b < u1.heap.size) := fun b o e => ⟨Nat.le_trans hbW.size (hblk b o e).1, (hblk b o e).2⟩
  replace hbW : Below w.heap.size w u1 := hbW.trans (hb1.mono hbW.size)
  clear hc1 hb1 hblk
  go_wp2
  go_ret
  exact ⟨a1, c1, rfl, hg, HBK.out, hbW⟩

theorem endF_take {cs : List (List Pn)} {k : Nat} {c : List Pn} (hk : k < cs.length) (hc : cs.getD k [] = c) : endF 0 (cs.take (k + 1)) = endF 0 (cs.take k) ++ [(((cs.take k).flatten).length : Int) + (c.length : Int) - 1] := by
  rw [take_snoc (d := []) hk, endF_append, hc]
  simp [endF]

set_option maxHeartbeats 1000000 in
set_option maxRecDepth 100000 in
theorem cends_any (S : Nat → Prop) (a : Option Addr) (ca : Nat) (vb : Value) (cs : List (List Pn)) (w : World) (h : Gr PnE.row S w a ca cs) (hl : cs.flatten.length ≤ 100000) (hn : cs.length ≤ 100000) (hv : vb.cells = #[vb]) :
    Calls Tryz.prog 30 #[.agg #[.slice a cs.length ca, vb]] w fun e w' => ∃ a' c', e = .returned (.slice a' (endF 0 cs).length c') ∧ Ri w' a' c' (endF 0 cs) ∧ (∀ b o, a' = some ⟨b, o, none⟩ → w.heap.size ≤ b ∧ b < w'.heap.size) ∧ Below w.heap.size w w' := by
  obtain ⟨W, hW, X1, hbW⟩ : ∃ W, W = w.alloc (.cells #[.slice a cs.length ca, vb] 36) ∧ Bk 36 W w.heap.size [.slice a cs.length ca, vb] ∧ Below w.heap.size w W := ⟨_, rfl, Bk.new _ _ _, bl1 _⟩
  obtain ⟨i0, hi0, hz0, hz1, hz2⟩ := info_parts infoA_i64
  obtain ⟨w1, hmk, hown, hgrow⟩ := run_makeSlice_owned W w.heap.size 22 3 i0 _ 1 Tryz.underlying22 hi0 hz0 hz1 .i64 .i64 cs.length (by omega) (by rw [hz2]; omega) (by unfold maxLen; omega) hbW.size
  have hI0 : Io w.heap.size w1 (.slice (some ⟨W.heap.size, 0, none⟩) 0 cs.length) (endF 0 (cs.take 0)) := ⟨fun t ht => (by cases ht), hown⟩
  have hB1 : Below W.heap.size W w1 := (Below.refl _ _).grown hgrow (Nat.le_refl _) (fun k hk => by cases hk)
  have X2 := X1.below hB1
  obtain ⟨x0, x1, _⟩ := X1.two
  obtain ⟨y0, y1, _⟩ := X2.two
  have HH : Hid (Gr PnE.row S w a ca cs) := h
  have HB0 : Hid (Below w.heap.size w w1) := hbW.trans (hB1.mono hbW.size)
  clear h hown hgrow hi0 hz0 hz1 hz2 X1 X2 hB1
  have hsz : W.heap.size = w.heap.size + 1 := by rw [hW]; simp
  rw [hsz] at hmk hI0
  rw [hW] at hmk
  clear hsz
  go_enter Tryz.func30, Tryz.ntmps30
  go_wp2
  clear hW x0 x1 y0 y1 hbW hmk
  go_loopw [3, 4, 14] (fun v la i wr => ∃ k m : Nat, k ≤ cs.length ∧ i = .int .i64 k ∧ la = .int .i64 ((m : Int) - 1) ∧ m = ((cs.take k).flatten).length ∧ Io w.heap.size wr v (endF 0 (cs.take k)) ∧ Below w.heap.size w wr) (fun _ _ i _ => cs.length - (intOf i).toNat)
  case atStart => exact ⟨0, 0, Nat.zero_le _, rfl, rfl, rfl, hI0, HB0.out⟩
  case round =>
    clear hI0 HB0
    obtain ⟨k, m, hk, rfl, rfl, hm, hT, hB⟩ := hrel
    obtain ⟨a2, c2, rfl, hts⟩ := hT.slice
    have hlen : (endF 0 (cs.take k)).length = k := by rw [endF_len, List.length_take]; omega
    have HM : Hid (m = ((cs.take k).flatten).length) := hm
    have HT : Hid (Io w.heap.size wr (.slice a2 (endF 0 (cs.take k)).length c2) (endF 0 (cs.take k))) := hT
    have hll : (endF 0 (cs.take k)).length + 1 ≤ 1000000 := by omega
    clear hm hT hlen
    by_cases hkn : k < cs.length
    · obtain ⟨b, off, a1, c1, ea, hb, d0, hrow, hlb, _⟩ := HH.out.rw hB k hkn
      subst ea
      have hst := flat_take_succ hkn
      have hle := flat_take_le cs (k + 1)
      rw [← HM.out] at hst
      obtain ⟨c, hc⟩ : ∃ c, cs.getD k [] = c := ⟨_, rfl⟩
      have HS : Hid (_) := endF_take hkn hc
      rw [← HM.out] at HS
      rw [hc] at d0 hst hlb
      have HM2 : Hid (m + c.length = ((cs.take (k + 1)).flatten).length) := hst.symm
      have hmc : m + c.length ≤ 100000 := by omega
      have i1 : (0 : Int) ≤ (k : Int) := by omega
      have i2 : (k : Int) < (cs.length : Int) := by omega
      obtain ⟨y, hy⟩ : ∃ y, (m : Int) + (c.length : Int) - 1 = y := ⟨_, rfl⟩
      have hy2 : (m : Int) - 1 + (c.length : Int) = y := by omega
      have HY : Hid (((m + c.length : Nat) : Int) - 1 = y) := by show _ = _; omega
      rw [hy] at HS
      have hyi : I64 y := ⟨by omega, by omega⟩
      have hT5 := HT.out.below (bl1 (.cells #[.int .i64 y] 3))
      have hN := heap_alloc_new wr (.cells #[.int .i64 y] 3)
      have n0 := cell_of_row _ wr.heap.size 0 _ _ (0, 0) hN
      have hbs : w.heap.size ≤ (wr.alloc (.cells #[.int .i64 y] 3)).heap.size := Nat.le_trans hB.size (bl1 _).size
      clear hc hst hle hrow HM hlb hN hy hts
      generalize endF 0 (cs.take k) = L at *
      go_wp2_with (at_builtin; refine wpList_append_int rfl _ _ rfl w.heap.size _ L rfl hT5 wr.heap.size y rfl n0 hyi hll hbs ?_)
      intro v' w9 hT9 hgrow
      have hB9 : Below w.heap.size w w9 := (hB.alloc hB.size _).grown hgrow hbs (fun k hk => HT.out.lo hk)
      rw [← HS.out] at hT9
      clear hgrow hT5 n0 hbs hll HS
      go_wp2
      go_roundw
      case rel => exact ⟨k + 1, m + c.length, by omega, by go_num, by rw [HY.out], HM2.out, hT9, hB9⟩
      case measure => simp [intOf]; omega
    · obtain rfl : k = cs.length := by omega
      rw [List.take_length] at HT hts ⊢
      have HB2 : Hid (∀ b o, a2 = some ⟨b, o, none⟩ → w.heap.size ≤ b ∧ b < wr.heap.size) := fun b o e => by
        subst e
        exact World.ownsRow.lt HT.out.2 b rfl
      have g4 : ¬ (cs.length : Int) < (cs.length : Int) := by omega
      clear HM hll
      go_wp2
      go_ret
      exact ⟨a2, c2, rfl, hts, HB2.out, hB⟩

end Go.Proofs.YthoildjecoppgaaGreatDoor
