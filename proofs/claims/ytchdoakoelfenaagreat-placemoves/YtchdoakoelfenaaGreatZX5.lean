/-
  How glyphs that are laid lie in a world: read, and in a row of the call's own.
  Regions that draw their order, step by step: the kit's own laws with the operation taken out of a written list. Nothing here is a walk.
  slices.Clone of laid glyphs, place.glyphsOf, Lay: the walks.
  Rules and lookups of a row, cell by cell; glyphs that are all below a number. Nothing here is a walk.
  How lookups that a law makes itself lie. Nothing here is a walk.
-/
import Derived.Test.YtchdoakoelfenaaGreatZX2
import Derived.Test.YtchdoakoelfenaaGreatZX4
import Derived.Test.YtchdoakoelfenaaGreatChecked
import Derived.Deep.RegionHeld3
import Derived.WalkKit
import Derived.Deep.CutBlock
import Derived.Deep.CutRange
import Derived.BigQuiet
import Derived.Deep.QuietTactic
import Derived.WalkSmall
import Derived.Outline
import Derived.Laws.OwnMore
import Derived.Lib.SliceRun
namespace Go.Proofs.YtchdoakoelfenaaGreat
open Go.RowKit Go.Maps
set_option linter.unusedSimpArgs false
set_option linter.unusedVariables false

def PdE : El Pd := (El.int.cat (El.int.cat (El.int.cat El.int))).via (fun p => (p.g, p.x, p.y, p.a)) Pd.none
def pdC (p : Pd) : List Value := [.int .i64 p.g, .int .i64 p.x, .int .i64 p.y, .int .i64 p.a]
theorem PdE_rep {S : Nat → Prop} {w : World} {vs : List Value} {p : Pd} : PdE.rep S w vs p ↔ vs = pdC p ∧ PdW p := by
  constructor
  · rintro ⟨us, ts, rfl, ⟨rfl, h1⟩, us2, ts2, rfl, ⟨rfl, h2⟩, us3, ts3, rfl, ⟨rfl, h3⟩, ⟨rfl, h4⟩⟩
    exact ⟨rfl, h1, h2, h3, h4⟩
  · rintro ⟨rfl, h1, h2, h3, h4⟩
    exact ⟨[_], _, rfl, ⟨rfl, h1⟩, [_], _, rfl, ⟨rfl, h2⟩, [_], [_], rfl, ⟨rfl, h3⟩, ⟨rfl, h4⟩⟩
theorem info_pd : (Tryz.prog.info? 54).map (fun i => (i.zero, i.size, i.bytes)) = some (some (.agg #[.int .i64 0, .int .i64 0, .int .i64 0, .int .i64 0]), 4, 32) := by kernel_rfl
theorem Gr.pd {S : Nat → Prop} {w wr : World} {a : Option Addr} {cap : Nat} {l : List Pd} (h : Gr PdE S w a cap l) (hb : Below w.heap.size w wr) (k : Nat) (hk : k < l.length) :
    ∃ b off, a = some ⟨b, off, none⟩ ∧ b < w.heap.size ∧ PdW (l.getD k Pd.none) ∧ wr.cell? ⟨b, off + k * 4, none⟩ = some (.int .i64 (l.getD k Pd.none).g) ∧ wr.cell? ⟨b, off + k * 4 + 1, none⟩ = some (.int .i64 (l.getD k Pd.none).x) ∧ wr.cell? ⟨b, off + k * 4 + 2, none⟩ = some (.int .i64 (l.getD k Pd.none).y) ∧ wr.cell? ⟨b, off + k * 4 + 3, none⟩ = some (.int .i64 (l.getD k Pd.none).a) := by
  obtain ⟨b, off, vs, e, hl, hr, hc⟩ := h.at hb k hk
  obtain ⟨rfl, hw⟩ := PdE_rep.1 hr
  exact ⟨b, off, e, hl, hw, hc 0 (by decide), hc 1 (by decide), hc 2 (by decide), hc 3 (by decide)⟩
theorem Gr.pdW {S : Nat → Prop} {w : World} {a : Option Addr} {cap : Nat} {l : List Pd} (h : Gr PdE S w a cap l) : ∀ p ∈ l, PdW p := by
  intro p hp
  obtain ⟨k, hk, e⟩ := List.getElem_of_mem hp
  obtain ⟨b, off, _, _, hw, _⟩ := h.pd (Below.refl _ _) k hk
  rw [List.getD_eq_getElem?_getD, List.getElem?_eq_getElem hk, Option.getD_some, e] at hw
  exact hw
/-- A line of the call's own. -/
def Ln (base : Nat) (w : World) (v : Value) (P : List Pd) : Prop := Gw PdE 54 base (fun _ => False) w v P
/-- A line of the call's own, in block g: its cells, and a store into one. -/
theorem Ln.at {base : Nat} {w : World} {g n c : Nat} {P : List Pd} (h : Ln base w (.slice (some ⟨g, 0, none⟩) n c) P) {k : Nat} (hk : k < P.length) :
    (∀ x, I64 x → Ln base (w.setCell ⟨g, k * 4, none⟩ (.int .i64 x)) (.slice (some ⟨g, 0, none⟩) n c) (P.set k ⟨x, (P.getD k Pd.none).x, (P.getD k Pd.none).y, (P.getD k Pd.none).a⟩)) ∧
    (∀ x, I64 x → Ln base (w.setCell ⟨g, k * 4 + 1, none⟩ (.int .i64 x)) (.slice (some ⟨g, 0, none⟩) n c) (P.set k ⟨(P.getD k Pd.none).g, x, (P.getD k Pd.none).y, (P.getD k Pd.none).a⟩)) ∧
    (∀ x, I64 x → Ln base (w.setCell ⟨g, k * 4 + 2, none⟩ (.int .i64 x)) (.slice (some ⟨g, 0, none⟩) n c) (P.set k ⟨(P.getD k Pd.none).g, (P.getD k Pd.none).x, x, (P.getD k Pd.none).a⟩)) ∧
    (∀ x, I64 x → Ln base (w.setCell ⟨g, k * 4 + 3, none⟩ (.int .i64 x)) (.slice (some ⟨g, 0, none⟩) n c) (P.set k ⟨(P.getD k Pd.none).g, (P.getD k Pd.none).x, (P.getD k Pd.none).y, x⟩)) ∧ (∀ j, w.frozen? ⟨g, j, none⟩ = false) ∧ PdW (P.getD k Pd.none) ∧
    w.cell? ⟨g, k * 4, none⟩ = some (.int .i64 (P.getD k Pd.none).g) ∧ w.cell? ⟨g, k * 4 + 1, none⟩ = some (.int .i64 (P.getD k Pd.none).x) ∧ w.cell? ⟨g, k * 4 + 2, none⟩ = some (.int .i64 (P.getD k Pd.none).y) ∧ w.cell? ⟨g, k * 4 + 3, none⟩ = some (.int .i64 (P.getD k Pd.none).a) := by
  have hne : P ≠ [] := fun e => by rw [e] at hk; simp at hk
  obtain ⟨g', cap, ev, _, _, _, hfz, hcells, hset⟩ := Gw.own h hne
  have eg : g = g' := by injection ev with e1 _ _; cases e1; rfl
  subst eg
  obtain ⟨vs, hr, hc⟩ := hcells k hk
  obtain ⟨rfl, hw⟩ := PdE_rep.1 hr
  refine ⟨fun x hx => ?_, fun x hx => ?_, fun x hx => ?_, fun x hx => ?_, hfz, hw, hc 0 (by decide), hc 1 (by decide), hc 2 (by decide), hc 3 (by decide)⟩
  · exact hset k 0 (.int .i64 x) _ hk (by decide) (fun S' us hu => by obtain ⟨rfl, h1, h2, h3, h4⟩ := PdE_rep.1 hu; exact PdE_rep.2 ⟨rfl, hx, h2, h3, h4⟩)
  · exact hset k 1 (.int .i64 x) _ hk (by decide) (fun S' us hu => by obtain ⟨rfl, h1, h2, h3, h4⟩ := PdE_rep.1 hu; exact PdE_rep.2 ⟨rfl, h1, hx, h3, h4⟩)
  · exact hset k 2 (.int .i64 x) _ hk (by decide) (fun S' us hu => by obtain ⟨rfl, h1, h2, h3, h4⟩ := PdE_rep.1 hu; exact PdE_rep.2 ⟨rfl, h1, h2, hx, h4⟩)
  · exact hset k 3 (.int .i64 x) _ hk (by decide) (fun S' us hu => by obtain ⟨rfl, h1, h2, h3, h4⟩ := PdE_rep.1 hu; exact PdE_rep.2 ⟨rfl, h1, h2, h3, hx⟩)
theorem Ln.below {base : Nat} {w w' : World} {v : Value} {P : List Pd} (h : Ln base w v P) (hb : Below w.heap.size w w') : Ln base w' v P := Gw.below h hb
theorem Ln.lo {base : Nat} {w : World} {v : Value} {P : List Pd} (h : Ln base w v P) {g : Nat} (hg : v.ownBlock = some g) : base ≤ g ∧ g < w.heap.size := Gw.lo h hg
theorem Ln.slice {base : Nat} {w : World} {v : Value} {P : List Pd} (h : Ln base w v P) : ∃ a cap, v = .slice a P.length cap ∧ Gr PdE (fun _ => False) w a cap P ∧ ∀ b o, a = some ⟨b, o, none⟩ → base ≤ b ∧ b < w.heap.size := Gw.slice h
/-- The three numbers of a glyph that are added to. -/
theorem set_set4 {P : List Pd} {k : Nat} (hk : k < P.length) (x y a : Int) : ((P.set k ⟨(P.getD k Pd.none).g, x, (P.getD k Pd.none).y, (P.getD k Pd.none).a⟩).set k ⟨(P.getD k Pd.none).g, x, y, (P.getD k Pd.none).a⟩).set k ⟨(P.getD k Pd.none).g, x, y, a⟩ = P.set k ⟨(P.getD k Pd.none).g, x, y, a⟩ := by
  rw [List.set_set, List.set_set]
theorem get_oth4 {P : List Pd} {k j : Nat} (h : k ≠ j) (q : Pd) : (P.set k q).getD j Pd.none = P.getD j Pd.none := by
  rw [List.getD_eq_getElem?_getD, List.getD_eq_getElem?_getD, List.getElem?_set_ne h]
theorem get_set4 {P : List Pd} {k : Nat} (hk : k < P.length) (q : Pd) : (P.set k q).getD k Pd.none = q := by simp [List.getD, hk]
/-- Blocks that are new, one behind the other. -/
theorem new2B (w : World) (t1 t2 : TypeId) (c1 c2 : List Value) : Bk t1 ((w.alloc (.cells c1.toArray t1)).alloc (.cells c2.toArray t2)) w.heap.size c1 ∧ Bk t2 ((w.alloc (.cells c1.toArray t1)).alloc (.cells c2.toArray t2)) (w.heap.size + 1) c2 ∧ Below w.heap.size w ((w.alloc (.cells c1.toArray t1)).alloc (.cells c2.toArray t2)) :=
  ⟨(Bk.new _ _ _).below (bl1 _), Bk.new1 _ _ _ _, bl2 _ _⟩
theorem new3B (w : World) (t1 t2 t3 : TypeId) (c1 c2 c3 : List Value) : ∀ W, W = ((w.alloc (.cells c1.toArray t1)).alloc (.cells c2.toArray t2)).alloc (.cells c3.toArray t3) →
    Bk t1 W w.heap.size c1 ∧ Bk t2 W (w.heap.size + 1) c2 ∧ Bk t3 W (w.heap.size + 2) c3 ∧ Below w.heap.size w W := by
  rintro W rfl
  obtain ⟨h1, h2, h3⟩ := new2B w t1 t2 c1 c2
  have k1 := Bk.new t3 ((w.alloc (.cells c1.toArray t1)).alloc (.cells c2.toArray t2)) c3
  have e : ((w.alloc (.cells c1.toArray t1)).alloc (.cells c2.toArray t2)).heap.size = w.heap.size + 2 := by simp
  rw [e] at k1
  exact ⟨h1.below (bl1 _), h2.below (bl1 _), k1, bl3 _ _ _⟩
theorem new4B (w : World) (t1 t2 t3 t4 : TypeId) (c1 c2 c3 c4 : List Value) : ∀ W, W = (((w.alloc (.cells c1.toArray t1)).alloc (.cells c2.toArray t2)).alloc (.cells c3.toArray t3)).alloc (.cells c4.toArray t4) →
    Bk t1 W w.heap.size c1 ∧ Bk t2 W (w.heap.size + 1) c2 ∧ Bk t3 W (w.heap.size + 2) c3 ∧ Bk t4 W (w.heap.size + 3) c4 ∧ Below w.heap.size w W := by
  rintro W rfl
  obtain ⟨h1, h2, h3⟩ := new2B w t1 t2 c1 c2
  obtain ⟨k1, k2, k3⟩ := new2B ((w.alloc (.cells c1.toArray t1)).alloc (.cells c2.toArray t2)) t3 t4 c3 c4
  have e : ((w.alloc (.cells c1.toArray t1)).alloc (.cells c2.toArray t2)).heap.size = w.heap.size + 2 := by simp
  rw [e] at k1 k2
  exact ⟨h1.below k3, h2.below k3, k1, k2, h3.trans (k3.mono (by omega))⟩

end Go.Proofs.YtchdoakoelfenaaGreat

namespace Go.Proofs.YtchdoakoelfenaaGreat
open Go.RowKit

/-- The operation at a place of a list. -/
def nth : List Oper → Nat → Option Oper
  | [], _ => none
  | o :: _, 0 => some o
  | _ :: l, n + 1 => nth l n
theorem nth_eq : ∀ (l : List Oper) (i : Nat), nth l i = l.toArray[i]? := by
  intro l
  induction l with
  | nil => intro i; simp [nth]
  | cons o l ih =>
    intro i
    cases i with
    | zero => simp [nth]
    | succ i => simp [nth, ih i]

theorem hTake {P : Program} {md : Region.Mode} {l : List Oper} {Q : Exit → Act → World → Prop} {S : World → Prop} {i : Nat} {o : Oper} {v : Value} {fuel : Nat} {listed : Array Bool} {a : Act} {w : World} (hi : nth l i = some o)
    (hs : Region.noSelect l.toArray = true) (hf : Region.free md l.toArray listed i = true) (hr : (Region.ready md l.toArray listed).contains i = true)
    (hQ : ∀ c a w, Q (.panic c) (a.put o.dst v) w → Q (.panic c) a w) (hy : YieldsIf P l.toArray S o v a) (hS : S w)
    (h : wpAnyH P md l.toArray Q S fuel (listed.setIfInBounds i true) (a.put o.dst v) w) : wpAnyH P md l.toArray Q S (fuel + 1) listed a w :=
  wpAnyH_take ((nth_eq l i).symm.trans hi) hs hf hr hQ hy hS h

theorem hCall {P : Program} {md : Region.Mode} {l : List Oper} {Q : Exit → Act → World → Prop} {S : World → Prop} {i : Nat} {o : Oper} {fuel : Nat} {listed : Array Bool} {a : Act} {w : World} (hi : nth l i = some o)
    (hr : Region.ready md l.toArray listed = [i]) (hw : Region.wanted o (yielded l.toArray a.tmps) = true)
    (h : ∀ K : Act → World → Prop, Shut (∀ a w, S w → (S w → wpAnyH P md l.toArray Q S fuel (listed.setIfInBounds i true) a w) → K a w) → Oper.wp P o a w K Q) :
    wpAnyH P md l.toArray Q S (fuel + 1) listed a w :=
  wpAnyH_ready hr (by simp) (AllReadyH.cons ((nth_eq l i).symm.trans hi) (fun K hK => by rw [if_pos hw]; exact h K hK) AllReadyH.nil)

theorem hCons {P : Program} {md : Region.Mode} {l : List Oper} {Q : Exit → Act → World → Prop} {S : World → Prop} {i : Nat} {o : Oper} {fuel : Nat} {listed : Array Bool} {a : Act} {w : World} {rs : List Nat} (hi : nth l i = some o)
    (hw : Region.wanted o (yielded l.toArray a.tmps) = true)
    (h : ∀ K : Act → World → Prop, Shut (∀ a w, S w → (S w → wpAnyH P md l.toArray Q S fuel (listed.setIfInBounds i true) a w) → K a w) → Oper.wp P o a w K Q)
    (hs : AllReadyH P md l.toArray Q S fuel listed a w rs) : AllReadyH P md l.toArray Q S fuel listed a w (i :: rs) :=
  AllReadyH.cons ((nth_eq l i).symm.trans hi) (fun K hK => by rw [if_pos hw]; exact h K hK) hs

/-- An operation that is carried out and only reads. -/
theorem hT {P : Program} {md : Region.Mode} {l : List Oper} {Q : Exit → Act → World → Prop} {S : World → Prop} (i : Nat) {o : Oper} {v : Value} {fuel : Nat} {listed : Array Bool} {a a2 : Act} {w : World} (hS : S w)
    (h : wpAnyH P md l.toArray Q S fuel (listed.setIfInBounds i true) a2 w)
    (hi : nth l i = some o := by rfl) (hs : Region.noSelect l.toArray = true := by kernel_rfl) (hf : Region.free md l.toArray listed i = true := by kernel_rfl) (hr : (Region.ready md l.toArray listed).contains i = true := by kernel_rfl)
    (hQ : ∀ c a w, Q (.panic c) (a.put o.dst v) w → Q (.panic c) a w := by exact fun _ _ _ h => h) (hw : Region.wanted o (yielded l.toArray a.tmps) = true := by rfl)
    (hy : ∀ w9, S w9 → (execOp a.eval o).run P w9 = .ok (.value v) w9 := by intro w9 hSw; (try dsimp only at hSw); go_simp; try with_reducible rfl)
    (ha : a.put o.dst v = a2 := by (try simp only [Act.put, List.setIfInBounds_toArray, List.set_cons_zero, List.set_cons_succ]); try rfl) : wpAnyH P md l.toArray Q S (fuel + 1) listed a w := by
  subst ha
  exact wpAnyH_take ((nth_eq l i).symm.trans hi) hs hf hr hQ (Or.inl ⟨hw, hy⟩) hS h

/-- An operation that is not wanted. -/
theorem hN {P : Program} {md : Region.Mode} {l : List Oper} {Q : Exit → Act → World → Prop} {S : World → Prop} (i : Nat) {o : Oper} {fuel : Nat} {listed : Array Bool} {a a2 : Act} {w : World} (hS : S w)
    (h : wpAnyH P md l.toArray Q S fuel (listed.setIfInBounds i true) a2 w)
    (hi : nth l i = some o := by rfl) (hs : Region.noSelect l.toArray = true := by kernel_rfl) (hf : Region.free md l.toArray listed i = true := by kernel_rfl) (hr : (Region.ready md l.toArray listed).contains i = true := by kernel_rfl)
    (hQ : ∀ c a w, Q (.panic c) (a.put o.dst undef) w → Q (.panic c) a w := by exact fun _ _ _ h => h) (hw : Region.wanted o (yielded l.toArray a.tmps) = false := by rfl)
    (ha : a.put o.dst undef = a2 := by (try simp only [Act.put, List.setIfInBounds_toArray, List.set_cons_zero, List.set_cons_succ]); try rfl) : wpAnyH P md l.toArray Q S (fuel + 1) listed a w := by
  subst ha
  exact wpAnyH_take ((nth_eq l i).symm.trans hi) hs hf hr hQ (Or.inr ⟨hw, rfl⟩) hS h

end Go.Proofs.YtchdoakoelfenaaGreat

namespace Go.Proofs.YtchdoakoelfenaaGreat
open Go.RowKit Go.Maps
set_option linter.unusedSimpArgs false
set_option linter.unusedVariables false

/-- A laid line of the call's own, and what it holds. -/
structure RowP (P : List Pd) (base : Nat) (w' : World) (e : Ending) : Prop where
  out : ∃ v, e = .returned v ∧ Ln base w' v P
/-- The like of glyphs alone. -/
structure RowG (L : List Int) (base : Nat) (w' : World) (e : Ending) : Prop where
  out : ∃ v, e = .returned v ∧ Gi base w' v L
theorem Gr.anyP {S S' : Nat → Prop} {w : World} {a : Option Addr} {cap : Nat} {l : List Pd} (h : Gr PdE S w a cap l) : Gr PdE S' w a cap l := by
  refine ⟨h.1, h.2.1, h.2.2.1, fun i hi => ?_⟩
  obtain ⟨b, off, vs, e, h0, hr, hc⟩ := h.2.2.2 i hi
  exact ⟨b, off, vs, e, h0, PdE_rep.2 (PdE_rep.1 hr), hc⟩
theorem info_i21 : (Tryz.prog.info? 3).map (fun i => (i.zero, i.size, i.bytes)) = some (some (.int .i64 0), 1, 8) := by kernel_rfl

set_option maxHeartbeats 2000000 in
set_option maxRecDepth 100000 in
theorem ccloneP_any (S : Nat → Prop) (a : Option Addr) (ca : Nat) (P : List Pd) (w : World) (h : Gr PdE S w a ca P) (hl : P.length ≤ 1000) :
    Calls Tryz.prog 16 #[.slice a P.length ca] w fun e w' => RowP P w.heap.size w' e ∧ Below w.heap.size w w' := by
  cases a with
  | none =>
    have h0 : P = [] := by
      have h1 := h.1
      rw [h.2.2.1 rfl] at h1
      exact List.length_eq_zero_iff.1 (Nat.le_zero.1 h1)
    subst h0
    clear h
    have q22 : ∀ (w : World) (a : Option Addr) (n c n' c' : Nat), (binOp .eql 33 (.slice a n c) (.slice none n' c')).run Tryz.prog w = .ok (.bool a.isNone) w := fun w a n c n' c' => Lib.run_eql_slice_nil w _ _ a n c n' c' Tryz.underlying33
    go_enter Tryz.func16, Tryz.ntmps16
    go_wp2
    go_ret
    exact ⟨⟨_, rfl, Gw.nil _ _ _ _ _⟩, Below.refl _ _⟩
  | some ad =>
    have q22 : ∀ (w : World) (a : Option Addr) (n c n' c' : Nat), (binOp .eql 33 (.slice a n c) (.slice none n' c')).run Tryz.prog w = .ok (.bool a.isNone) w := fun w a n c n' c' => Lib.run_eql_slice_nil w _ _ a n c n' c' Tryz.underlying33
    have hN0 : Ln w.heap.size (w.alloc (.cells #[] 54)) (.slice (some ⟨w.heap.size, 0, none⟩) 0 0) [] := Gw.made (World.ownsRow_made w #[] 0 (Nat.le_refl _) (Nat.zero_le _) rfl)
    have HL : Hid (Gr PdE (fun k => False ∧ (Value.slice (some ⟨w.heap.size, 0, none⟩) 0 0).ownBlock ≠ some k) (w.alloc (.cells #[] 54)) (some ad) ca P) := (h.below (bl1 _)).anyP
    have kl := h.lenB
    have hll : ([] : List Pd).length + P.length ≤ 1000000 := by simp; omega
    have hW := (bl1 (w := w) (.cells #[] 54)).size
    clear h
    go_enter Tryz.func16, Tryz.ntmps16
    go_wp2_with (at_builtin; refine wpList_append_el 33 54 Tryz.underlying33 info_pd rfl (by decide) (by decide) rfl _ _ rfl w.heap.size (fun _ => False) _ [] rfl hN0 _ _ _ P rfl rfl HL.out hll hW ?_)
    intro v1 w1 hT1 hgrow _
    have hB1 : Below w.heap.size w w1 := (bl1 _).grown hgrow hW (fun k hk => by simp [Value.ownBlock] at hk; omega)
    have HV : Hid (RowP P w.heap.size w1 (.returned v1)) := ⟨_, rfl, hT1⟩
    clear hgrow hT1 hll hW hN0
    go_wp2
    go_ret
    exact ⟨HV.out, hB1⟩

/-- Glyphs of the call's own: a store into one. -/
theorem Gi.at21 {base : Nat} {w : World} {g n c : Nat} {L : List Int} (h : Gi base w (.slice (some ⟨g, 0, none⟩) n c) L) {k : Nat} (hk : k < L.length) :
    (∀ x, I64 x → Gi base (w.setCell ⟨g, k, none⟩ (.int .i64 x)) (.slice (some ⟨g, 0, none⟩) n c) (L.set k x)) ∧ (∀ j, w.frozen? ⟨g, j, none⟩ = false) ∧ w.cell? ⟨g, k, none⟩ = some (.int .i64 (L.getD k 0)) := by
  have hne : L ≠ [] := fun e => by rw [e] at hk; simp at hk
  obtain ⟨g', cap, ev, _, _, _, hfz, hcells, hset⟩ := Gw.own h hne
  have eg : g = g' := by injection ev with e1 _ _; cases e1; rfl
  subst eg
  obtain ⟨vs, hr, hc⟩ := hcells k hk
  obtain ⟨rfl, hw⟩ := El.int_rep.1 hr
  have e1 : k * El.int.sz = k := Nat.mul_one k
  refine ⟨fun x hx => ?_, hfz, ?_⟩
  · have := hset k 0 (.int .i64 x) x hk (by decide) (fun S' us hu => by obtain ⟨rfl, h1⟩ := El.int_rep.1 hu; exact El.int_rep.2 ⟨rfl, hx⟩)
    rw [e1] at this
    exact this
  · have := hc 0 (by decide)
    rw [e1] at this
    exact this

set_option maxHeartbeats 2000000 in
set_option maxRecDepth 100000 in
theorem glyphsOf_any (S : Nat → Prop) (a : Option Addr) (ca : Nat) (P : List Pd) (w : World) (h : Gr PdE S w a ca P) (hl : P.length ≤ 1000) :
    Calls Tryz.prog 17 #[.slice a P.length ca] w fun e w' => RowG (naL P) w.heap.size w' e ∧ Below w.heap.size w w' := by
  have HH : Hid (Gr PdE S w a ca P) := h
  obtain ⟨n, hnn⟩ : ∃ n, P.length = n := ⟨_, rfl⟩
  have HN : Hid (P.length = n) := hnn
  rw [hnn] at hl ⊢
  clear h
  obtain ⟨i0, hi0, hz0, hz1, hz2⟩ := info_parts info_i21
  obtain ⟨u2, hmk, hown, hgrow⟩ := run_makeSlice_full w w.heap.size 23 3 i0 _ 1 Tryz.underlying23 hi0 hz0 hz1 .i64 .i64 n (by omega) (by rw [hz2]; omega) (by unfold maxLen; omega) (Nat.le_refl _)
  have hG0 : Gi w.heap.size u2 (.slice (some ⟨w.heap.size, 0, none⟩) n n) (List.replicate n 0) := Gw.zeros (E := El.int) hown rfl (by decide) (El.int_rep.2 ⟨rfl, by decide, by decide⟩)
  have hB2 : Below w.heap.size w u2 := (Below.refl _ _).grown hgrow (Nat.le_refl _) (fun k hk => by cases hk)
  obtain ⟨g, hg⟩ : ∃ g, w.heap.size = g := ⟨_, rfl⟩
  have HG : Hid (w.heap.size = g) := hg
  rw [hg] at hmk hG0
  have HG0 : Hid (Gi g u2 (.slice (some ⟨g, 0, none⟩) n n) (List.replicate n 0)) := hG0
  clear hi0 hz0 hz1 hz2 hown hgrow hnn hG0 hg
  go_enter Tryz.func17, Tryz.ntmps17
  go_wp2
  clear hmk
  go_loopw [11] (fun i wr => ∃ (k : Nat) (L : List Int), k ≤ n ∧ i = .int .i64 k ∧ Hid (L.length = n) ∧ Hid (∀ j, j < k → L.getD j 0 = (P.getD j Pd.none).g) ∧ Hid (Gi g wr (.slice (some ⟨g, 0, none⟩) n n) L) ∧ Below w.heap.size w wr) (fun i _ => n - (intOf i).toNat)
  case atStart => exact ⟨0, _, Nat.zero_le _, rfl, List.length_replicate, (fun j hj => by omega), HG0.out, hB2⟩
  case round =>
    clear HG0 hB2
    obtain ⟨k, L, hk, rfl, HLN, HLT, HR, hB⟩ := hrel
    by_cases hkn : k < n
    · obtain ⟨b, off, ea, hb, hw4, d0, d1, d2, d3⟩ := HH.out.pd hB k (by rw [HN.out]; exact hkn)
      obtain ⟨p, hp⟩ : ∃ p, P.getD k Pd.none = p := ⟨_, rfl⟩
      have HPP : Hid (P.getD k Pd.none = p) := hp
      rw [hp] at hw4 d0 d1 d2 d3
      clear hp
      obtain ⟨pg, px, py, pa⟩ := p
      dsimp only at d0 d1 d2 d3
      have hI : I64 pg := hw4.1
      subst ea
      have i1 : (0 : Int) ≤ (k : Int) := by omega
      have i2 : (k : Int) < (n : Int) := by omega
      obtain ⟨U, hU, XG, hbU⟩ : ∃ U, U = wr.alloc (.cells #[.int .i64 pg, .int .i64 px, .int .i64 py, .int .i64 pa] 54) ∧ Bk 54 U wr.heap.size [.int .i64 pg, .int .i64 px, .int .i64 py, .int .i64 pa] ∧ Below wr.heap.size wr U := ⟨_, rfl, Bk.new _ _ _, bl1 _⟩
      have hBU := hB.trans (hbU.mono hB.size)
      obtain ⟨hset, hfz, c0⟩ := Gi.at21 (HR.out.below hbU) (k := k) (by rw [HLN.out]; exact hkn)
      have hfzk := hfz k
      obtain ⟨y0, y1, y2, y3, -⟩ := XG.four
      have HR2 : Hid (Gi g (U.setCell ⟨g, k, none⟩ (.int .i64 pg)) (.slice (some ⟨g, 0, none⟩) n n) (L.set k pg)) := hset pg hI
      have HB2 : Hid (Below w.heap.size w (U.setCell ⟨g, k, none⟩ (.int .i64 pg))) := hBU.setCell (p := ⟨g, k, none⟩) (by show w.heap.size ≤ g; have := HG.out; omega) _
      have HLN2 : Hid ((L.set k pg).length = n) := by show _ = _; rw [List.length_set]; exact HLN.out
      have HLT2 : Hid (∀ j, j < k + 1 → (L.set k pg).getD j 0 = (P.getD j Pd.none).g) := fun j hj => by
        have := HLN.out
        by_cases hjk : j = k
        · subst hjk
          rw [HPP.out]
          simp [List.getD, show j < L.length by omega]
        · rw [← HLT.out j (by omega)]
          simp [List.getD, List.getElem?_set_ne (fun e => hjk e.symm)]
      clear hset hfz HR HLN HLT HPP hw4 hI
      go_upto_region 5 with fail
      rw [← hU]
      clear hU d0 d1 d2 d3 XG hbU
      go_wp2
      go_roundw
      case rel => exact ⟨k + 1, _, by omega, by go_num, HLN2, HLT2, HR2, HB2.out⟩
      case measure => simp [intOf]; omega
    · have HE : Hid (L = naL P) := by
        show _ = _
        have h1 := HLN.out
        have h2 := HN.out
        apply List.ext_getElem (by rw [naL_len]; omega)
        intro j h3 h4
        have := HLT.out j (by omega)
        rw [← naL_at] at this
        simpa [List.getD, h3, h4] using this
      have HV : Hid (RowG (naL P) w.heap.size wr (.returned (.slice (some ⟨g, 0, none⟩) n n))) := ⟨_, rfl, by rw [← HE.out, HG.out]; exact HR.out⟩
      have g4 : ¬ (k : Int) < (n : Int) := by omega
      clear HLT HR HLN HE
      go_wp2
      go_ret
      exact ⟨HV.out, hB⟩

theorem PdW.zero : PdW Pd.none := ⟨⟨by decide, by decide⟩, ⟨by decide, by decide⟩, ⟨by decide, by decide⟩, ⟨by decide, by decide⟩⟩

set_option maxHeartbeats 4000000 in
set_option maxRecDepth 100000 in
theorem clay_any (a : Option Addr) (ca : Nat) (line : List Int) (b : Option Addr) (cb : Nat) (adv : List Int) (w : World) (h : Ri w a ca line) (h2 : Ri w b cb adv) (hl : line.length ≤ 1000) :
    Calls Tryz.prog 12 #[.slice a line.length ca, .slice b adv.length cb] w fun e w' => RowP (laL line adv) w.heap.size w' e ∧ Below w.heap.size w w' := by
  have ka := h2.lenB
  have HH : Hid (Ri w a ca line) := h
  have HA : Hid (Ri w b cb adv) := h2
  obtain ⟨n, hnn⟩ : ∃ n, line.length = n := ⟨_, rfl⟩
  have HN : Hid (line.length = n) := hnn
  rw [hnn] at hl ⊢
  clear h h2
  obtain ⟨i0, hi0, hz0, hz1, hz2⟩ := info_parts info_pd
  obtain ⟨u2, hmk, hown, hgrow⟩ := run_makeSlice_full w w.heap.size 33 54 i0 _ 4 Tryz.underlying33 hi0 hz0 hz1 .i64 .i64 n (by omega) (by rw [hz2]; omega) (by unfold maxLen; omega) (Nat.le_refl _)
  have hG0 : Ln w.heap.size u2 (.slice (some ⟨w.heap.size, 0, none⟩) n n) (List.replicate n Pd.none) := Gw.zeros (E := PdE) hown rfl (by decide) (PdE_rep.2 ⟨rfl, PdW.zero⟩)
  have hB2 : Below w.heap.size w u2 := (Below.refl _ _).grown hgrow (Nat.le_refl _) (fun k hk => by cases hk)
  obtain ⟨g, hg⟩ : ∃ g, w.heap.size = g := ⟨_, rfl⟩
  have HG : Hid (w.heap.size = g) := hg
  rw [hg] at hmk hG0
  have HG0 : Hid (Ln g u2 (.slice (some ⟨g, 0, none⟩) n n) (List.replicate n Pd.none)) := hG0
  clear hi0 hz0 hz1 hz2 hown hgrow hnn hG0 hg
  go_enter Tryz.func12, Tryz.ntmps12
  go_wp2
  clear hmk
  go_loopw [13] (fun i wr => ∃ (k : Nat) (L : List Pd), k ≤ n ∧ i = .int .i64 k ∧ Hid (L.length = n) ∧ Hid (∀ j, j < k → L.getD j Pd.none = ⟨line.getD j 0, 0, 0, adv.getD j 0⟩) ∧ Hid (∀ j, k ≤ j → j < n → L.getD j Pd.none = Pd.none) ∧ Hid (Ln g wr (.slice (some ⟨g, 0, none⟩) n n) L) ∧ Below w.heap.size w wr) (fun i _ => n - (intOf i).toNat)
  case atStart => exact ⟨0, _, Nat.zero_le _, rfl, List.length_replicate, (fun j hj => by omega), (fun j _ hj => by simp [List.getD, hj]), HG0.out, hB2⟩
  case round =>
    clear HG0 hB2
    obtain ⟨k, L, hk, rfl, HLN, HLT, HLZ, HR, hB⟩ := hrel
    by_cases hkn : k < n
    · obtain ⟨b1, off, ea, hb, d0⟩ := HH.out.at hB k (by rw [HN.out]; exact hkn)
      have hI : I64 (line.getD k 0) := HH.out.i64 (by rw [HN.out]; exact hkn)
      obtain ⟨z, hz⟩ : ∃ z, line.getD k 0 = z := ⟨_, rfl⟩
      have HZZ : Hid (line.getD k 0 = z) := hz
      rw [hz] at hI d0
      clear hz
      subst ea
      have i1 : (0 : Int) ≤ (k : Int) := by omega
      have i2 : (k : Int) < (n : Int) := by omega
      have hkL : k < L.length := by rw [HLN.out]; exact hkn
      obtain ⟨hset, -, -, -, hfz, -, c0, -, -, -⟩ := Ln.at HR.out hkL
      have hzero := HLZ.out k (Nat.le_refl _) hkn
      rw [hzero] at hset c0
      have hfzk := hfz (k * 4)
      obtain ⟨V, hV⟩ : ∃ V, V = wr.setCell ⟨g, k * 4, none⟩ (.int .i64 z) := ⟨_, rfl⟩
      have hR1 : Ln g V (.slice (some ⟨g, 0, none⟩) n n) (L.set k ⟨z, 0, 0, 0⟩) := by rw [hV]; exact hset z hI
      have hB1 : Below w.heap.size w V := by rw [hV]; exact hB.setCell (p := ⟨g, k * 4, none⟩) (by show w.heap.size ≤ g; have := HG.out; omega) _
      have hget : (L.set k (⟨z, 0, 0, 0⟩ : Pd)).getD k Pd.none = ⟨z, 0, 0, 0⟩ := get_set4 hkL _
      obtain ⟨-, -, -, hset3, hfz3, -, -, -, -, c3⟩ := Ln.at hR1 (k := k) (by rw [List.length_set]; exact hkL)
      rw [hget] at hset3 c3
      dsimp only [Pd.none] at c0
      dsimp only at c3 hset3
      simp only [List.set_set] at hset3
      have hfz3k := hfz3 (k * 4 + 3)
      have HLE : Hid (∀ q : Pd, (L.set k q).length = n) := fun q => by rw [List.length_set]; exact HLN.out
      have HTT : Hid (∀ y, adv.getD k 0 = y → ∀ j, j < k + 1 → (L.set k ⟨z, 0, 0, y⟩).getD j Pd.none = ⟨line.getD j 0, 0, 0, adv.getD j 0⟩) := fun y hy j hj => by
        by_cases hjk : j = k
        · subst hjk
          rw [HZZ.out, hy]
          exact get_set4 hkL _
        · rw [← HLT.out j (by omega)]
          simp [List.getD, List.getElem?_set_ne (fun e => hjk e.symm)]
      have HTZ : Hid (∀ q : Pd, ∀ j, k + 1 ≤ j → j < n → (L.set k q).getD j Pd.none = Pd.none) := fun q j h1 h2 => by
        rw [get_oth4 (show k ≠ j by omega)]
        exact HLZ.out j (by omega) h2
      have HR1 : Hid (Ln g V (.slice (some ⟨g, 0, none⟩) n n) (L.set k ⟨z, 0, 0, 0⟩)) := hR1
      clear hset hfz HR HLN HLT HLZ HZZ hI hzero hget hfz3 hR1
      by_cases hka : k < adv.length
      · obtain ⟨b2, off2, ea2, hb2, e0⟩ := HA.out.at hB1 k hka
        have hIa : I64 (adv.getD k 0) := HA.out.i64 hka
        have HTT2 := HTT.out _ rfl
        obtain ⟨y, hy⟩ : ∃ y, adv.getD k 0 = y := ⟨_, rfl⟩
        rw [hy] at hIa e0 HTT2
        have HTT3 : Hid (∀ j, j < k + 1 → (L.set k ⟨z, 0, 0, y⟩).getD j Pd.none = ⟨line.getD j 0, 0, 0, adv.getD j 0⟩) := HTT2
        have HR2 : Hid (Ln g (V.setCell ⟨g, k * 4 + 3, none⟩ (.int .i64 y)) (.slice (some ⟨g, 0, none⟩) n n) (L.set k ⟨z, 0, 0, y⟩)) := hset3 y hIa
        have HB2 : Hid (Below w.heap.size w (V.setCell ⟨g, k * 4 + 3, none⟩ (.int .i64 y))) := hB1.setCell (p := ⟨g, k * 4 + 3, none⟩) (by show w.heap.size ≤ g; have := HG.out; omega) _
        have i3 : (k : Int) < (adv.length : Int) := by omega
        have HLE2 := HLE.out ⟨z, 0, 0, y⟩
        have HLE3 : Hid ((L.set k (⟨z, 0, 0, y⟩ : Pd)).length = n) := HLE2
        have HTZ2 := HTZ.out ⟨z, 0, 0, y⟩
        have HTZ3 : Hid (∀ j, k + 1 ≤ j → j < n → (L.set k (⟨z, 0, 0, y⟩ : Pd)).getD j Pd.none = Pd.none) := HTZ2
        subst ea2
        clear hset3 hy hIa HTT HTT2 HLE HLE2 HTZ HTZ2 HR1 hkL
        go_upto_region 6 with fail
        rw [← hV]
        clear hV c0 d0 hfzk
        go_wp2
        go_roundw
        case rel => exact ⟨k + 1, _, by omega, by go_num, HLE3, HTT3, HTZ3, HR2, HB2.out⟩
        case measure => simp [intOf]; omega
      · have i3 : ¬ (k : Int) < (adv.length : Int) := by omega
        have HTT2 := HTT.out 0 (by rw [List.getD_eq_getElem?_getD, List.getElem?_eq_none (by omega)]; rfl)
        have HTT3 : Hid (∀ j, j < k + 1 → (L.set k ⟨z, 0, 0, 0⟩).getD j Pd.none = ⟨line.getD j 0, 0, 0, adv.getD j 0⟩) := HTT2
        have HLE2 := HLE.out ⟨z, 0, 0, 0⟩
        have HLE3 : Hid ((L.set k (⟨z, 0, 0, 0⟩ : Pd)).length = n) := HLE2
        have HTZ2 := HTZ.out ⟨z, 0, 0, 0⟩
        have HTZ3 : Hid (∀ j, k + 1 ≤ j → j < n → (L.set k (⟨z, 0, 0, 0⟩ : Pd)).getD j Pd.none = Pd.none) := HTZ2
        have HB2 : Hid (Below w.heap.size w V) := hB1
        clear hset3 HTT HTT2 HLE HLE2 HTZ HTZ2 hkL hB1 c3 hfz3k hka
        go_upto_region 6 with fail
        rw [← hV]
        clear hV c0 d0 hfzk
        go_wp2
        go_roundw
        case rel => exact ⟨k + 1, _, by omega, by go_num, HLE3, HTT3, HTZ3, HR1, HB2.out⟩
        case measure => simp [intOf]; omega
    · have HE : Hid (L = laL line adv) := by
        show _ = _
        have h1 := HLN.out
        have h2 := HN.out
        apply List.ext_getElem (by rw [laL_len]; omega)
        intro j h3 h4
        have := HLT.out j (by omega)
        rw [← laL_at (by omega)] at this
        simpa [List.getD, h3, h4] using this
      have HV : Hid (RowP (laL line adv) w.heap.size wr (.returned (.slice (some ⟨g, 0, none⟩) n n))) := ⟨_, rfl, by rw [← HE.out, HG.out]; exact HR.out⟩
      have g4 : ¬ (k : Int) < (n : Int) := by omega
      clear HLT HLZ HR HLN HE
      go_wp2
      go_ret
      exact ⟨HV.out, hB⟩

end Go.Proofs.YtchdoakoelfenaaGreat

namespace Go.Proofs.YtchdoakoelfenaaGreat
open Go.RowKit Go.Maps
set_option linter.unusedSimpArgs false
set_option linter.unusedVariables false

theorem alG_no {l : List Int} {g : Int} {k : Nat} (hk : k < l.length) (h : gyB g (l.getD k 0) = false) : l.all (gyB g) = false := by
  cases hf : l.all (gyB g) with
  | false => rfl
  | true =>
    rw [List.all_eq_true] at hf
    have := hf (l.getD k 0) (by rw [List.getD_eq_getElem?_getD, List.getElem?_eq_getElem hk]; exact List.getElem_mem hk)
    rw [h] at this
    cases this
theorem alG_yes {l : List Int} {g : Int} (h : ∀ k, k < l.length → gyB g (l.getD k 0) = true) : l.all (gyB g) = true := by
  rw [List.all_eq_true]
  intro z hz
  obtain ⟨k, hk, e⟩ := List.getElem_of_mem hz
  have := h k hk
  rw [List.getD_eq_getElem?_getD, List.getElem?_eq_getElem hk, Option.getD_some, e] at this
  exact this

theorem cell_ltL {w : World} {b p : Nat} {v : Value} (h : w.cell? ⟨b, p, none⟩ = some v) : b < w.heap.size := by
  by_cases hb : b < w.heap.size
  · exact hb
  · unfold World.cell? at h
    rw [Array.getElem?_eq_none (show w.heap.size ≤ b by omega)] at h
    simp at h

/-- A rule of a row, cell by cell. -/
theorem Gr.ru10 {S : Nat → Prop} {w wr : World} {a : Option Addr} {cap : Nat} {l : List Ru} (h : Gr RuE S w a cap l) (hb : Below w.heap.size w wr) (k : Nat) (hk : k < l.length) :
    ∃ b off a1 c1 a2 c2, a = some ⟨b, off, none⟩ ∧ b < w.heap.size ∧ RuI (l.getD k Ru.none) ∧ Gr El.int S wr a1 c1 (l.getD k Ru.none).inn ∧ Gr El.int S wr a2 c2 (l.getD k Ru.none).out ∧
      (wr.cell? ⟨b, off + k * 10, none⟩ = some (.slice a1 (l.getD k Ru.none).inn.length c1) ∧ wr.cell? ⟨b, off + k * 10 + 1, none⟩ = some (.slice a2 (l.getD k Ru.none).out.length c2) ∧ wr.cell? ⟨b, off + k * 10 + 2, none⟩ = some (.int .i64 (l.getD k Ru.none).ap) ∧ wr.cell? ⟨b, off + k * 10 + 3, none⟩ = some (.int .i64 (l.getD k Ru.none).lk) ∧
       wr.cell? ⟨b, off + k * 10 + 4, none⟩ = some (.int .i64 (l.getD k Ru.none).x.1) ∧ wr.cell? ⟨b, off + k * 10 + 5, none⟩ = some (.int .i64 (l.getD k Ru.none).x.2) ∧ wr.cell? ⟨b, off + k * 10 + 6, none⟩ = some (.int .i64 (l.getD k Ru.none).y.1) ∧ wr.cell? ⟨b, off + k * 10 + 7, none⟩ = some (.int .i64 (l.getD k Ru.none).y.2) ∧
       wr.cell? ⟨b, off + k * 10 + 8, none⟩ = some (.int .i64 (l.getD k Ru.none).w.1) ∧ wr.cell? ⟨b, off + k * 10 + 9, none⟩ = some (.int .i64 (l.getD k Ru.none).w.2)) := by
  obtain ⟨b, off, a1, c1, a2, c2, e, hlt, hI, h1, h2, hc⟩ := h.ru hb k hk
  exact ⟨b, off, a1, c1, a2, c2, e, hlt, hI, h1, h2, hc 0 (by decide), hc 1 (by decide), hc 2 (by decide), hc 3 (by decide), hc 4 (by decide), hc 5 (by decide), hc 6 (by decide), hc 7 (by decide), hc 8 (by decide), hc 9 (by decide)⟩

/-- A lookup's cells, wherever the walk has come to. -/
theorem Gr.lkAll {S : Nat → Prop} {w : World} {a : Option Addr} {cap : Nat} {l : List Lk} (h : Gr LkE S w a cap l) (k : Nat) (hk : k < l.length) :
    ∃ b off a1 c1, a = some ⟨b, off, none⟩ ∧ I64 (l.getD k Lk.none).kd ∧ ∀ u, Below w.heap.size w u → Gr RuE S u a1 c1 (l.getD k Lk.none).rs ∧ u.cell? ⟨b, off + k * 3, none⟩ = some (.int .i64 (l.getD k Lk.none).kd) ∧ u.cell? ⟨b, off + k * 3 + 1, none⟩ = some (.bool (l.getD k Lk.none).sk) ∧ u.cell? ⟨b, off + k * 3 + 2, none⟩ = some (.slice a1 (l.getD k Lk.none).rs.length c1) := by
  obtain ⟨b, off, a1, c1, e, hb, hi, hr, d0, d1, d2⟩ := h.lk (Below.refl _ _) k hk
  exact ⟨b, off, a1, c1, e, hi, fun u hu => ⟨hr.below hu, (hu.cell (p := ⟨b, off + k * 3, none⟩) hb).trans d0, (hu.cell (p := ⟨b, off + k * 3 + 1, none⟩) hb).trans d1, (hu.cell (p := ⟨b, off + k * 3 + 2, none⟩) hb).trans d2⟩⟩

end Go.Proofs.YtchdoakoelfenaaGreat

namespace Go.Proofs.YtchdoakoelfenaaGreat
open Go.RowKit Go.Maps
set_option linter.unusedSimpArgs false
set_option linter.unusedVariables false

/-- A row in a block known whole. -/
theorem gr_of_bk {α : Type} {E : El α} {S : Nat → Prop} {t : TypeId} {w : World} {g : Nat} {cs : List Value} (vss : List (List Value)) {l : List α} (hb : Bk t w g cs) (hcs : cs = vss.flatten) (hl : vss.length = l.length)
    (hrep : ∀ i, i < l.length → E.rep S w (vss.getD i []) (l.getD i E.dfl)) (hle : l.length ≤ 1000) : Gr E S w (some ⟨g, 0, none⟩) l.length l := by
  have h5 : ∀ i, i < vss.length → (vss.getD i []).length = E.sz := fun i hi => E.len (hrep i (by omega))
  refine ⟨Nat.le_refl _, by unfold maxLen; omega, (fun e => by cases e), fun i hi => ⟨g, 0, vss.getD i [], rfl, hb.lt, hrep i hi, fun j hj => ?_⟩⟩
  have hlt : i * E.sz + j < cs.length := by
    rw [hcs, flat_len' h5]
    have := Nat.mul_le_mul_right E.sz (show i + 1 ≤ vss.length by omega)
    rw [Nat.add_mul] at this
    omega
  rw [Nat.zero_add, hb.cell _ hlt, hcs]
  exact flat_get h5 (by omega) hj
theorem rowT {α : Type} {E : El α} {w : World} {a : Option Addr} {c : Nat} {l : List α} (h : Gr E (fun _ => True) w a c l) (hl : l.length ≤ 1000) : E.row.rep (fun _ => True) w [.slice a l.length c] l := ⟨a, c, rfl, fun _ _ _ _ => trivial, h, by omega⟩
/-- Ints in a block known whole. -/
theorem grI_of_bk {t : TypeId} {w : World} {g : Nat} {zs : List Int} (hb : Bk t w g (zs.map (Value.int .i64))) (hz : ∀ z ∈ zs, I64 z) (hl : zs.length ≤ 1000) : Gr El.int (fun _ => True) w (some ⟨g, 0, none⟩) zs.length zs := by
  refine ⟨Nat.le_refl _, by unfold maxLen; omega, (fun e => by cases e), fun i hi => ⟨g, 0, [.int .i64 (zs.getD i 0)], rfl, hb.lt, El.int_rep.2 ⟨rfl, hz _ (by rw [List.getD_eq_getElem?_getD, List.getElem?_eq_getElem hi]; exact List.getElem_mem hi)⟩, fun j hj => ?_⟩⟩
  obtain rfl : j = 0 := by simp [El.int, El.num] at hj; exact hj
  show w.cell? ⟨g, 0 + i * 1 + 0, none⟩ = _
  rw [Nat.zero_add, Nat.mul_one, Nat.add_zero, hb.cell i (by rw [List.length_map]; exact hi)]
  simp [List.getD, hi]
theorem gr1_of_bk {α : Type} {E : El α} {S : Nat → Prop} {t : TypeId} {w : World} {g : Nat} {cs : List Value} {x : α} (hb : Bk t w g cs) (hr : E.rep S w cs x) : Gr E S w (some ⟨g, 0, none⟩) 1 [x] := Gr.one hr hb.lt (fun j hj => hb.cell j (by rw [E.len hr]; exact hj))
theorem gr2_of_bk {α : Type} {E : El α} {S : Nat → Prop} {t : TypeId} {w : World} {g : Nat} {cs ds : List Value} {x y : α} (hb : Bk t w g (cs ++ ds)) (hr : E.rep S w cs x) (hr2 : E.rep S w ds y) : Gr E S w (some ⟨g, 0, none⟩) 2 [x, y] :=
  gr_of_bk (l := [x, y]) [cs, ds] hb (by simp) rfl (fun i hi => by
    have h2 : i = 0 ∨ i = 1 := by simp at hi; omega
    rcases h2 with rfl | rfl
    · exact hr
    · exact hr2) (by simp)
/-- A rule without slots. -/
def ru0 (inn out : List Int) (lk : Int) : Ru := ⟨inn, out, 0, lk, (0, 0), (0, 0), (0, 0)⟩
theorem ru0_rep {w : World} {a : Option Addr} {ca : Nat} {b : Option Addr} {cb : Nat} {inn out : List Int} {lk : Int} (h1 : Gr El.int (fun _ => True) w a ca inn) (h2 : Gr El.int (fun _ => True) w b cb out) (hl : I64 lk) (l1 : inn.length ≤ 1000) (l2 : out.length ≤ 1000) :
    RuE.rep (fun _ => True) w [.slice a inn.length ca, .slice b out.length cb, .int .i64 0, .int .i64 lk, .int .i64 0, .int .i64 0, .int .i64 0, .int .i64 0, .int .i64 0, .int .i64 0] (ru0 inn out lk) :=
  RuE_rep.2 ⟨a, ca, b, cb, rfl, rowT h1 l1, rowT h2 l2, ⟨by show (-9223372036854775808 : Int) ≤ 0; omega, by show (0 : Int) ≤ 9223372036854775807; omega⟩, hl, ⟨⟨by show (-9223372036854775808 : Int) ≤ 0; omega, by show (0 : Int) ≤ 9223372036854775807; omega⟩, ⟨by show (-9223372036854775808 : Int) ≤ 0; omega, by show (0 : Int) ≤ 9223372036854775807; omega⟩⟩, ⟨⟨by show (-9223372036854775808 : Int) ≤ 0; omega, by show (0 : Int) ≤ 9223372036854775807; omega⟩, ⟨by show (-9223372036854775808 : Int) ≤ 0; omega, by show (0 : Int) ≤ 9223372036854775807; omega⟩⟩, ⟨by show (-9223372036854775808 : Int) ≤ 0; omega, by show (0 : Int) ≤ 9223372036854775807; omega⟩, ⟨by show (-9223372036854775808 : Int) ≤ 0; omega, by show (0 : Int) ≤ 9223372036854775807; omega⟩⟩
theorem lk0_rep {w : World} {a : Option Addr} {c : Nat} {kd : Int} {sk : Bool} {rs : List Ru} (h : Gr RuE (fun _ => True) w a c rs) (hk : I64 kd) (hl : rs.length ≤ 1000) : LkE.rep (fun _ => True) w [.int .i64 kd, .bool sk, .slice a rs.length c] ⟨kd, sk, rs⟩ := LkE_rep.2 ⟨a, c, rfl, hk, rowT h hl⟩

/-- A Bool, whichever. -/
structure BoolL (e : Ending) : Prop where
  out : ∃ b, e = .returned (.bool b)

end Go.Proofs.YtchdoakoelfenaaGreat
