/-
  foundrylaw04.awake; OctetsReads: the walks.
  octets.Page: Later: the walk.
  Regions that draw their order, step by step: the kit's own laws with the operation taken out of a written list. Nothing here is a walk.
  octets.Page: Now: the walk.
  Rows of ints beside a page (LayG).
-/
import Derived.Test.YtdpafdeoepbhaaaZ11
import Derived.WalkSpells
import Derived.Test.YtdpafdeoepbhaaaChecked
import Derived.Deep.RegionHeld3
import Derived.WalkKit
namespace Go.Proofs.Ytdpafdeoepbhaaa
open Go.RowKit Go.Maps
set_option linter.unusedSimpArgs false
set_option linter.unusedVariables false
end Go.Proofs.Ytdpafdeoepbhaaa

namespace Go.Proofs.Ytdpafdeoepbhaaa
open Go.RowKit Go.Maps
set_option linter.unusedSimpArgs false
set_option linter.unusedVariables false

def St.later (s : St) : St := if s.no then s else { s with bs := s.bs ++ be4 0, ws := s.ws ++ [(s.bs.length : Int)] }
theorem Wf.later {s : St} (h : Wf s) : Wf s.later := by
  unfold St.later
  split
  · exact h
  · refine ⟨h.1.append (byt_be4 0), ?_, ?_, ?_⟩
    · rw [List.nodup_append]
      refine ⟨h.2.1, by simp, ?_⟩
      intro a ha b hb e
      have := h.2.2.1 a ha
      simp at hb
      omega
    · intro x hx
      simp at hx
      rcases hx with hx | hx
      · have := h.2.2.1 x hx
        simp [be4]; omega
      · simp [be4]; omega
    · have := h.2.2.2
      simp [be4]
      omega
theorem St.later_bad {s : St} (h : s.no = true) : s.later = s := by simp [St.later, h]
theorem St.later_ok {s : St} (h : s.no = false) : s.later = { s with bs := s.bs ++ be4 0, ws := s.ws ++ [(s.bs.length : Int)] } := by simp [St.later, h]

theorem wf64 {n : Int} (h : I64 n) : (Lit.int .i64 n).wf = true := WalkArith.wf_i64 h
theorem keyI : Keyed Try.prog 3 := int_keyed Try.underlying3
/-- A place more that waits. -/
theorem has_more {D : DataW Unit} {ws : List Int} {l : Int} (hm : IsMap D) (h : ∀ x : Int, Maps.has D (.int .i64 x) = decide (x ∈ ws)) (x : Int) :
    Maps.has (D.put (.int .i64 l) (.agg [])) (.int .i64 x) = decide (x ∈ ws ++ [l]) := by
  by_cases e : x = l
  · subst e
    rw [has_put_same hm (show WideAt.IsKeyLit (.int .i64 x) from trivial)]
    simp
  · rw [has_put_other (by intro e2; injection e2 with _ e3; exact e e3), h x]
    simp [e]
theorem size_more {D : DataW Unit} {ws : List Int} {l : Int} (hm : Tidy D) (h : ∀ x : Int, Maps.has D (.int .i64 x) = decide (x ∈ ws)) (hs : Maps.size D = ws.length) (hl : l ∉ ws) :
    Maps.size (D.put (.int .i64 l) (.agg [])) = (ws ++ [l]).length := by
  rw [size_put hm, h l, hs]
  simp [hl]

end Go.Proofs.Ytdpafdeoepbhaaa

namespace Go.Proofs.Ytdpafdeoepbhaaa
open Go.RowKit

/-- The operation at a place of a list. -/
def nth : List Oper → Nat → Option Oper
  | [], _ => none
  | o :: _, 0 => some o
  | _ :: l, n + 1 => nth l n
theorem nth_eq : ∀ (l : List Oper) (i : Nat), nth l i = l.toArray[i]? := by
  intro l
  induction l with
  | nil => intro i; simp [nth]
  | cons o l ih =>
    intro i
    cases i with
    | zero => simp [nth]
    | succ i => simp [nth, ih i]

theorem hTake {P : Program} {md : Region.Mode} {l : List Oper} {Q : Exit → Act → World → Prop} {S : World → Prop} {i : Nat} {o : Oper} {v : Value} {fuel : Nat} {listed : Array Bool} {a : Act} {w : World} (hi : nth l i = some o)
    (hs : Region.noSelect l.toArray = true) (hf : Region.free md l.toArray listed i = true) (hr : (Region.ready md l.toArray listed).contains i = true)
    (hQ : ∀ c a w, Q (.panic c) (a.put o.dst v) w → Q (.panic c) a w) (hy : YieldsIf P l.toArray S o v a) (hS : S w)
    (h : wpAnyH P md l.toArray Q S fuel (listed.setIfInBounds i true) (a.put o.dst v) w) : wpAnyH P md l.toArray Q S (fuel + 1) listed a w :=
  wpAnyH_take ((nth_eq l i).symm.trans hi) hs hf hr hQ hy hS h

theorem hCall {P : Program} {md : Region.Mode} {l : List Oper} {Q : Exit → Act → World → Prop} {S : World → Prop} {i : Nat} {o : Oper} {fuel : Nat} {listed : Array Bool} {a : Act} {w : World} (hi : nth l i = some o)
    (hr : Region.ready md l.toArray listed = [i]) (hw : Region.wanted o (yielded l.toArray a.tmps) = true)
    (h : ∀ K : Act → World → Prop, Shut (∀ a w, S w → (S w → wpAnyH P md l.toArray Q S fuel (listed.setIfInBounds i true) a w) → K a w) → Oper.wp P o a w K Q) :
    wpAnyH P md l.toArray Q S (fuel + 1) listed a w :=
  wpAnyH_ready hr (by simp) (AllReadyH.cons ((nth_eq l i).symm.trans hi) (fun K hK => by rw [if_pos hw]; exact h K hK) AllReadyH.nil)

theorem hCons {P : Program} {md : Region.Mode} {l : List Oper} {Q : Exit → Act → World → Prop} {S : World → Prop} {i : Nat} {o : Oper} {fuel : Nat} {listed : Array Bool} {a : Act} {w : World} {rs : List Nat} (hi : nth l i = some o)
    (hw : Region.wanted o (yielded l.toArray a.tmps) = true)
    (h : ∀ K : Act → World → Prop, Shut (∀ a w, S w → (S w → wpAnyH P md l.toArray Q S fuel (listed.setIfInBounds i true) a w) → K a w) → Oper.wp P o a w K Q)
    (hs : AllReadyH P md l.toArray Q S fuel listed a w rs) : AllReadyH P md l.toArray Q S fuel listed a w (i :: rs) :=
  AllReadyH.cons ((nth_eq l i).symm.trans hi) (fun K hK => by rw [if_pos hw]; exact h K hK) hs

/-- An operation that is carried out and only reads. -/
theorem hT {P : Program} {md : Region.Mode} {l : List Oper} {Q : Exit → Act → World → Prop} {S : World → Prop} (i : Nat) {o : Oper} {v : Value} {fuel : Nat} {listed : Array Bool} {a a2 : Act} {w : World} (hS : S w)
    (h : wpAnyH P md l.toArray Q S fuel (listed.setIfInBounds i true) a2 w)
    (hi : nth l i = some o := by rfl) (hs : Region.noSelect l.toArray = true := by kernel_rfl) (hf : Region.free md l.toArray listed i = true := by kernel_rfl) (hr : (Region.ready md l.toArray listed).contains i = true := by kernel_rfl)
    (hQ : ∀ c a w, Q (.panic c) (a.put o.dst v) w → Q (.panic c) a w := by exact fun _ _ _ h => h) (hw : Region.wanted o (yielded l.toArray a.tmps) = true := by rfl)
    (hy : ∀ w9, S w9 → (execOp a.eval o).run P w9 = .ok (.value v) w9 := by intro w9 hSw; (try dsimp only at hSw); go_simp; try with_reducible rfl)
    (ha : a.put o.dst v = a2 := by (try simp only [Act.put, List.setIfInBounds_toArray, List.set_cons_zero, List.set_cons_succ]); try rfl) : wpAnyH P md l.toArray Q S (fuel + 1) listed a w := by
  subst ha
  exact wpAnyH_take ((nth_eq l i).symm.trans hi) hs hf hr hQ (Or.inl ⟨hw, hy⟩) hS h

/-- An operation that is not wanted. -/
theorem hN {P : Program} {md : Region.Mode} {l : List Oper} {Q : Exit → Act → World → Prop} {S : World → Prop} (i : Nat) {o : Oper} {fuel : Nat} {listed : Array Bool} {a a2 : Act} {w : World} (hS : S w)
    (h : wpAnyH P md l.toArray Q S fuel (listed.setIfInBounds i true) a2 w)
    (hi : nth l i = some o := by rfl) (hs : Region.noSelect l.toArray = true := by kernel_rfl) (hf : Region.free md l.toArray listed i = true := by kernel_rfl) (hr : (Region.ready md l.toArray listed).contains i = true := by kernel_rfl)
    (hQ : ∀ c a w, Q (.panic c) (a.put o.dst undef) w → Q (.panic c) a w := by exact fun _ _ _ h => h) (hw : Region.wanted o (yielded l.toArray a.tmps) = false := by rfl)
    (ha : a.put o.dst undef = a2 := by (try simp only [Act.put, List.setIfInBounds_toArray, List.set_cons_zero, List.set_cons_succ]); try rfl) : wpAnyH P md l.toArray Q S (fuel + 1) listed a w := by
  subst ha
  exact wpAnyH_take ((nth_eq l i).symm.trans hi) hs hf hr hQ (Or.inr ⟨hw, rfl⟩) hS h

end Go.Proofs.Ytdpafdeoepbhaaa

namespace Go.Proofs.Ytdpafdeoepbhaaa
open Go.RowKit Go.Maps
set_option linter.unusedSimpArgs false
set_option linter.unusedVariables false

/-- Bytes are laid over others. -/
def ovr (bs : List Nat) (q : Nat) (xs : List Nat) : List Nat := bs.take q ++ xs ++ bs.drop (q + xs.length)
theorem ovr_len {bs : List Nat} {q : Nat} {xs : List Nat} (h : q + xs.length ≤ bs.length) : (ovr bs q xs).length = bs.length := by simp [ovr]; omega
theorem byt_ovr {bs : List Nat} {q : Nat} {xs : List Nat} (h : Byt bs) (hx : Byt xs) : Byt (ovr bs q xs) := ((h.take q).append hx).append (h.drop _)

def St.now (s : St) (m b : Int) : St :=
  if s.no then s else if m ∈ s.ws ∧ -2147483648 ≤ b ∧ b ≤ (s.bs.length : Int) then { s with bs := ovr s.bs m.toNat (be4 ((s.bs.length : Int) - b)), ws := s.ws.filter (fun x => decide (x ≠ m)) } else s.fail
theorem St.now_bad {s : St} (h : s.no = true) (m b : Int) : s.now m b = s := by simp [St.now, h]
theorem St.now_ok {s : St} (h : s.no = false) {m b : Int} (hc : m ∈ s.ws ∧ -2147483648 ≤ b ∧ b ≤ (s.bs.length : Int)) :
    s.now m b = { s with bs := ovr s.bs m.toNat (be4 ((s.bs.length : Int) - b)), ws := s.ws.filter (fun x => decide (x ≠ m)) } := by
  unfold St.now
  rw [h, if_pos hc]
  simp
theorem St.now_no {s : St} (h : s.no = false) {m b : Int} (hc : ¬ (m ∈ s.ws ∧ -2147483648 ≤ b ∧ b ≤ (s.bs.length : Int))) : s.now m b = s.fail := by
  unfold St.now
  rw [h, if_neg hc]
  simp
theorem Wf.now {s : St} (h : Wf s) (m b : Int) : Wf (s.now m b) := by
  unfold St.now
  split
  · exact h
  · split
    · rename_i hc
      obtain ⟨hm, _, _⟩ := hc
      have h1 := h.2.2.1 m hm
      have hlen : (ovr s.bs m.toNat (be4 ((s.bs.length : Int) - b))).length = s.bs.length := ovr_len (by simp [be4]; omega)
      refine ⟨byt_ovr h.1 (byt_be4 _), h.2.1.filter _, fun x hx => ?_, ?_⟩
      · rw [List.mem_filter] at hx
        have := h.2.2.1 x hx.1
        dsimp only
        rw [hlen]
        exact this
      · dsimp only
        rw [hlen]
        have := List.length_filter_le (fun x => decide (x ≠ m)) s.ws
        have := h.2.2.2
        omega
    · exact h

theorem has_less {D : DataW Unit} {ws : List Int} {m : Int} (h : ∀ x : Int, Maps.has D (.int .i64 x) = decide (x ∈ ws)) (x : Int) :
    Maps.has (D.del (.int .i64 m)) (.int .i64 x) = decide (x ∈ ws.filter (fun x => decide (x ≠ m))) := by
  by_cases e : x = m
  · subst e
    rw [has_del_same]
    simp
  · rw [has_del_other (by intro e2; injection e2 with _ e3; exact e e3), h x]
    simp [e]
theorem length_less : ∀ {ws : List Int} {m : Int}, ws.Nodup → m ∈ ws → (ws.filter (fun x => decide (x ≠ m))).length + 1 = ws.length := by
  intro ws m hn hm
  have e : ws.filter (fun x => decide (x ≠ m)) = ws.erase m := by
    rw [hn.erase_eq_filter]
    apply List.filter_congr
    intro x _
    by_cases h : x = m <;> simp [h]
  rw [e, List.length_erase_of_mem hm]
  have := List.length_pos_of_mem hm
  omega
theorem size_less {D : DataW Unit} {ws : List Int} {m : Int} (ht : Tidy D) (h : ∀ x : Int, Maps.has D (.int .i64 x) = decide (x ∈ ws)) (hs : Maps.size D = ws.length) (hn : ws.Nodup) (hm : m ∈ ws) :
    Maps.size (D.del (.int .i64 m)) = (ws.filter (fun x => decide (x ≠ m))).length := by
  have e := size_del (k := .int .i64 m) ht
  rw [h m, hs] at e
  have := length_less hn hm
  simp only [hm, decide_true, if_true] at e
  omega
theorem ownsMap_tight {w : World} {k : TypeId} {b n : Nat} {D : DataW Unit} (h : w.ownsMap Try.prog k unitElem b n D) : w.ownsMap Try.prog k unitElem b (Maps.size D) D := by
  obtain ⟨es, clock, hb, F, hs, rfl⟩ := h
  exact ⟨es, clock, hb, F, by simp [Maps.size, length_sorted], rfl⟩

end Go.Proofs.Ytdpafdeoepbhaaa

namespace Go.Proofs.Ytdpafdeoepbhaaa
open Go.RowKit Go.Maps
set_option linter.unusedSimpArgs false
set_option linter.unusedVariables false

theorem info_i64 : (Try.prog.info? 3).map (fun i => (i.zero, i.size, i.bytes)) = some (some (.int .i64 0), 1, 8) := by kernel_rfl

theorem Hid_mk' {p : Prop} (h : p) : Hid p := h

/-- A row of ints of the call's own. -/
def OwnI (w : World) (v : Value) (ps : List Int) : Prop := w.ownsRow 0 3 1 v ps.length (ps.map (Value.int .i64))

theorem OwnI.nil (w : World) : OwnI w (.slice none 0 0) [] := World.ownsRow_nil w 0 _ 1
theorem OwnI.lt {w : World} {v : Value} {ps : List Int} (h : OwnI w v ps) {g : Nat} (hg : v.ownBlock = some g) : g < w.heap.size := (World.ownsRow.lt h g hg).2
theorem OwnI.kept {w w' : World} {v : Value} {ps : List Int} (h : OwnI w v ps) (hk : ∀ g, v.ownBlock = some g → w'.heap[g]? = w.heap[g]?) : OwnI w' v ps := by
  refine ⟨h.1, ?_⟩
  rcases h.2 with h0 | ⟨g, cap, cur, e, h3, h4, h5⟩
  · exact .inl h0
  · exact .inr ⟨g, cap, cur, e, h3, (hk g (by rw [e]; rfl)).trans h4, h5⟩
theorem OwnI.slice {w : World} {v : Value} {ps : List Int} (h : OwnI w v ps) : ∃ a cap, v = .slice a ps.length cap ∧ ps.length ≤ cap ∧ cap ≤ maxLen ∧ (0 < ps.length → ∃ g, a = some ⟨g, 0, none⟩) ∧ ∀ g, a = some ⟨g, 0, none⟩ → ∀ i, i < ps.length → w.cell? ⟨g, i, none⟩ = some (.int .i64 (ps.getD i 0)) := by
  rcases h.2 with ⟨e, h0⟩ | ⟨g, cap, cur, e, h3, h4, h5, h6, _⟩
  · refine ⟨none, 0, by rw [e, h0], by omega, by decide, fun h => by omega, fun g hg => by cases hg⟩
  · refine ⟨some ⟨g, 0, none⟩, cap, e, h5, h6, fun _ => ⟨g, rfl⟩, fun g' hg' i hi => ?_⟩
    simp at hg'
    subst hg'
    have := World.ownsRow.cells h (g := g) (by rw [e]; rfl) i (.int .i64 (ps.getD i 0)) (by simp [List.getD, hi])
    have hadd : (⟨g, 0, none⟩ : Addr).add i = ⟨g, i, none⟩ := by unfold Addr.add; split <;> simp_all
    rw [hadd] at this
    exact this

end Go.Proofs.Ytdpafdeoepbhaaa
