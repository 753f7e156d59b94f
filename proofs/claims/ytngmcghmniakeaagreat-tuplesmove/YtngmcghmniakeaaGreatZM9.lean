/-
  Rows of rows of fractions, of the call's own (Rr), and worlds in which nothing but such rows has turned (Kn). Nothing here is a walk.
  fixed.To14, near: the walks.
  For foundrylaw02.RatioOnce: two sums in two new blocks; texts tell numbers apart.
  fixed.Between: the walk.
  Fractions between two numbers, and signs (plain mathematics; split off FixedEnds' walk).
-/
import Derived.Test.YtngmcghmniakeaaGreatZM7
import Derived.Test.YtngmcghmniakeaaGreatZM8
import Derived.Test.YtngmcghmniakeaaGreatZM6
import Derived.Deep.RegionHeld3
import Derived.Test.YtngmcghmniakeaaGreatZM5
set_option maxHeartbeats 2000000
set_option maxRecDepth 100000
set_option linter.unusedSimpArgs false
set_option linter.unusedVariables false
namespace Go.Proofs.YtngmcghmniakeaaGreat
open Go.RowKit Go.Maps
def slZ : Value := .slice none 0 0
theorem slZ_zero (n : Nat) : ∀ c ∈ (Builtin.zeroCells slZ.cells n).toList, isI c = false := by
 intro c hc
 simp only [Builtin.zeroCells, slZ, Value.cells, Array.toList_map, List.mem_map] at hc
 obtain ⟨j, _, rfl⟩ := hc
 show isI ((#[Value.slice none 0 0])[j % 1]!) = false
 rw [Nat.mod_one]
 rfl
theorem append_noS {P : Program} {w w' : World} {v v' : Value} (base : Nat) (t ty e : TypeId) (i : TypeInfo) (ht : P.underlying t = some (.slice e)) (hi : P.info? e = some i) (hz : i.zero = some slZ) (hsize : i.size = 1) (hby : i.bytes = 24)
    (n : Nat) (xs : List Value) (hown : w.ownsRow base e 1 v n xs) (hn : ∀ g, v.ownBlock = some g → NoI w g)
    (a : Addr) (m pc : Nat) (news : List Value) (hm : 0 < m) (hl : news.length = m * 1) (hnews : ∀ j u, news[j]? = some u → w.cell? (a.add j) = some u) (h1 : ∀ u ∈ news, isI u = false ∧ u.oneCell' = true) (hlen : n + m ≤ 1000000)
    (hr : (Builtin.append_ #[t, t] ty #[v, .slice (some a) m pc]).run P w = .ok v' w') : ∀ g, v'.ownBlock = some g → NoI w' g := by
 have hl' : news.length = m * i.size := by rw [hsize, hl]
 have hnew : ∀ u ∈ news, isI u = false := fun u hu => (h1 u hu).1
 rcases hown.2 with ⟨rfl, rfl⟩ | ⟨g, cap, cur, rfl, hbg, hg, hnc, hcm, hcs, htake⟩
 · have h2 := run_append_nil (P := P) w t ty e i slZ ht hi hz a m pc news hl' hnews hm (by omega) (by rw [hby]; omega)
   rw [h2] at hr; injection hr with e1 e2; subst e1 e2
   intro g hg
   simp [Value.ownBlock] at hg
   subst hg
   refine NoI.of (heap_alloc_new w.drew _) (fun c hc => ?_)
   rw [Array.toList_append, List.mem_append] at hc
   rcases hc with hc | hc
   · exact hnew c (by simpa using hc)
   · exact slZ_zero _ c hc
 · have hcur := (hn g rfl).mem hg
   have hxs : ∀ c ∈ xs, isI c = false := fun c hc => hcur c (by rw [← htake] at hc; exact List.mem_of_mem_take hc)
   by_cases hroom : n + m ≤ cap
   · have hfit : n * i.size + news.length ≤ cur.size := by rw [hsize, hl, hcs]; omega
     have h2 := run_append_room (P := P) w t ty e i ht hi g n cap cur hg a m pc news hl' hnews (fun u hu => (h1 u hu).2) hroom hfit
     rw [h2] at hr; injection hr with e1 e2; subst e1 e2
     intro g' hg'
     simp [Value.ownBlock] at hg'
     subst hg'
     refine NoI.of (setRow_heap w g cur _ e _ hg) (fun c hc => ?_)
     simp only [List.mem_append] at hc
     rcases hc with (hc | hc) | hc
     · exact hcur c (List.mem_of_mem_take hc)
     · exact hnew c hc
     · exact hcur c (List.mem_of_mem_drop hc)
   · have holds : ∀ j u, xs[j]? = some u → w.cell? ((⟨g, 0, none⟩ : Addr).add j) = some u := hown.cells (g := g) rfl
     have h2 := run_append_grow (P := P) w t ty e i slZ ht hi hz ⟨g, 0, none⟩ n cap xs (by rw [hsize]; exact hown.1) holds a m pc news hl' hnews (by omega) (by omega) (growslice_fits (by omega) (by rw [hby]; omega))
     rw [h2] at hr; injection hr with e1 e2; subst e1 e2
     intro g' hg'
     simp [Value.ownBlock] at hg'
     subst hg'
     refine NoI.of (heap_alloc_new w.drew _) (fun c hc => ?_)
     rw [Array.toList_append, Array.toList_append, List.mem_append, List.mem_append] at hc
     rcases hc with (hc | hc) | hc
     · exact hxs c (by simpa using hc)
     · exact hnew c (by simpa using hc)
     · exact slZ_zero _ c hc
theorem info_rts : (Tryz.prog.info? 32).map (fun i => (i.zero, i.size, i.bytes)) = some (some slZ, 1, 24) := by kernel_rfl
def Kn (B : Nat → Prop) (w w' : World) : Prop := Keep (fun k => k < w.heap.size ∧ ¬ (B k ∧ NoI w k)) w w'
theorem Kn.size {B : Nat → Prop} {w w' : World} (h : Kn B w w') : w.heap.size ≤ w'.heap.size := Keep.size h
theorem Kn.of {B : Nat → Prop} {w w' : World} (h : Below w.heap.size w w') : Kn B w w' := Keep.of_below h (fun k hk => hk.1)
theorem Kn.refl (B : Nat → Prop) (w : World) : Kn B w w := Keep.refl _ _
theorem NoI.same {w w' : World} {g : Nat} (h : w'.heap[g]? = w.heap[g]?) : NoI w' g ↔ NoI w g := by
 constructor
 · intro k j v hv
   rw [← World.cell?_of_block (w := w) (a := ⟨g, j, none⟩) h] at hv
   exact k j v hv
 · intro k j v hv
   rw [World.cell?_of_block (w := w) (a := ⟨g, j, none⟩) h] at hv
   exact k j v hv
theorem Kn.trans {B C : Nat → Prop} {a b c : World} (h : Kn B a b) (k : Kn C b c) (hC : ∀ i, C i → i < a.heap.size → B i) : Kn B a c :=
 Keep.trans h (Keep.mono k (fun i hi => ⟨Nat.lt_of_lt_of_le hi.1 h.size, fun hc => hi.2 ⟨hC i hc.1 hi.1, (NoI.same (Keep.block h i hi)).1 hc.2⟩⟩))
theorem Kn.below {B : Nat → Prop} {n : Nat} {w w' : World} (h : Kn B w w') (hn : n ≤ w.heap.size) (hB : ∀ k, B k → n ≤ k) : Below n w w' := Keep.below h (fun k hk => ⟨by omega, fun hc => by have := hB k hc.1; omega⟩)
theorem Kn.block {B : Nat → Prop} {w w' : World} (h : Kn B w w') {k : Nat} (h1 : k < w.heap.size) (h2 : ¬ B k) : w'.heap[k]? = w.heap[k]? := Keep.block h k ⟨h1, fun hc => h2 hc.1⟩
theorem Kn.int {B : Nat → Prop} {w w' : World} (h : Kn B w w') {k : Nat} (h1 : k < w.heap.size) (h2 : ¬ NoI w k) : w'.heap[k]? = w.heap[k]? := Keep.block h k ⟨h1, fun hc => h2 hc.2⟩
theorem Kn.grown {B : Nat → Prop} {w w' : World} {r : Option Nat} (hg : w.grownBy w' r) (hr : ∀ k, r = some k → B k ∧ NoI w k) : Kn B w w' := ⟨hg.os, hg.tape, hg.output, hg.size, fun k hk => hg.block k hk.1 (fun e => hk.2 (hr k e.symm))⟩
theorem Kn.set {B : Nat → Prop} {w : World} {g : Nat} (h : B g ∧ NoI w g) (j : Nat) (x : Value) : Kn B w (w.setCell ⟨g, j, none⟩ x) :=
 Keep.setCell (Keep.refl _ _) (p := ⟨g, j, none⟩) (fun hc => hc.2 h) x
theorem Rd.kn {B : Nat → Prop} {w w' : World} {a : Option Addr} {cap : Nat} {xs : List Nat} (h : Rd w a cap xs) (hk : Kn B w w') : Rd w' a cap xs := by
 obtain ⟨h1, h2, h3, h5, h4⟩ := h
 refine ⟨h1, h2, h3, h5, ?_⟩
 rcases h4 with h4 | ⟨b, off, e, hb1, hc⟩
 · exact .inl h4
 · by_cases h0 : xs = []
   · exact .inl h0
   · have hl : 0 < xs.length := List.length_pos_iff.2 h0
     have hn : ¬ NoI w b := by
      intro hn
      have := hn _ _ (hc 0 hl)
      cases this
     exact .inr ⟨b, off, e, Nat.lt_of_lt_of_le hb1 hk.size, fun i hi => (World.cell?_of_block (w := w) (a := ⟨b, off + i, none⟩) (hk.int hb1 hn)).trans (hc i hi)⟩
theorem Fr.kn {B : Nat → Prop} {w w' : World} {v : Value} {k : Nat} {q : Rat} (h : Fr w v k q) (hk : Kn B w w') : Fr w' v k q := by
 obtain ⟨n, xs, ys, ⟨a, c, a', c', rfl, h1, h2⟩, h3⟩ := h
 exact ⟨n, xs, ys, ⟨a, c, a', c', rfl, h1.kn hk, h2.kn hk⟩, h3⟩
theorem Rz.kn {B : Nat → Prop} {w w' : World} {a : Option Addr} {cap k : Nat} {qs : List Rat} (h : Rz w a cap k qs) (hk : Kn B w w') (hB : ∀ b o, a = some ⟨b, o, none⟩ → ¬ B b) : Rz w' a cap k qs := by
 refine ⟨h.1, h.2.1, fun i hi => ?_⟩
 obtain ⟨b, off, x, y, z, e, hb, c0, c1, c2, hF⟩ := h.2.2 i hi
 have hbl := hk.block hb (hB b off e)
 exact ⟨b, off, x, y, z, e, Nat.lt_of_lt_of_le hb hk.size, (World.cell?_of_block (w := w) (a := ⟨b, off + i * 3, none⟩) hbl).trans c0, (World.cell?_of_block (w := w) (a := ⟨b, off + i * 3 + 1, none⟩) hbl).trans c1, (World.cell?_of_block (w := w) (a := ⟨b, off + i * 3 + 2, none⟩) hbl).trans c2, hF.kn hk⟩
theorem Rf.kn {B : Nat → Prop} {w w' : World} {a : Option Addr} {cap k : Nat} {qs : List Rat} (h : Rf w a cap k qs) (hk : Kn B w w') (hB : ∀ b o, a = some ⟨b, o, none⟩ → ¬ B b) : Rf w' a cap k qs := ⟨h.1.kn hk hB, h.2⟩
theorem Ro.noi {T : TypeId} {base : Nat} {w : World} {v : Value} {k : Nat} {qs : List Rat} (h : Ro T base w v k qs) : ∀ g, v.ownBlock = some g → NoI w g := by
 obtain ⟨vs, h3, hnI, h4⟩ := h
 exact hnI
theorem Ro.kn {B : Nat → Prop} {T : TypeId} {base : Nat} {w w' : World} {v : Value} {k : Nat} {qs : List Rat} (h : Ro T base w v k qs) (hk : Kn B w w') (hB : ∀ g, v.ownBlock = some g → ¬ B g) : Ro T base w' v k qs := by
 have hlo := fun g hg => (h.lo (g := g) hg).2
 obtain ⟨vs, h3, hnI, h4⟩ := h
 refine ⟨vs, ⟨h3.1, ?_⟩, fun g e => ?_, fun i hi => ?_⟩
 · rcases h3.2 with h0 | ⟨g, cap', cur, k1, k2, k3, k4⟩
   · exact .inl h0
   · exact .inr ⟨g, cap', cur, k1, k2, (hk.block (Array.getElem?_eq_some_iff.1 k3).1 (hB g (by rw [k1]; rfl))).trans k3, k4⟩
 · exact (NoI.same (hk.block (hlo g e) (hB g e))).2 (hnI g e)
 · obtain ⟨x, y, z, k0, k1, k2, k3⟩ := h4 i hi
   exact ⟨x, y, z, k0, k1, k2, k3.kn hk⟩
theorem Bk.kn {B : Nat → Prop} {t : TypeId} {w w' : World} {g : Nat} {cs : List Value} (h : Bk t w g cs) (hk : Kn B w w') (hB : ¬ B g) : Bk t w' g cs := (hk.block h.lt hB).trans h
def Rr (B : Nat → Prop) (w : World) (v : Value) (K : Nat) (T : List (List Rat)) : Prop :=
 ∃ vs : List Value, w.ownsRow 0 32 1 v T.length vs ∧ (∀ g, v.ownBlock = some g → B g ∧ NoI w g) ∧
  (∀ i, i < T.length → Ro 69 0 w (vs.getD i nilV) K (T.getD i []) ∧ ∀ g, (vs.getD i nilV).ownBlock = some g → B g ∧ v.ownBlock ≠ some g) ∧
  ∀ i j g, i < T.length → j < T.length → i ≠ j → (vs.getD i nilV).ownBlock = some g → (vs.getD j nilV).ownBlock ≠ some g
theorem Rr.nil (B : Nat → Prop) (w : World) (K : Nat) : Rr B w (.slice none 0 0) K [] := ⟨[], World.ownsRow_nil w 0 _ _, (fun g e => by cases e), (fun i hi => by simp at hi), (fun i j g hi => by simp at hi)⟩
theorem own_kn {C B : Nat → Prop} {w w' : World} {t : TypeId} {sz n : Nat} {v : Value} {vs : List Value} (h3 : w.ownsRow 0 t sz v n vs) (hk : Kn B w w') (hd : ∀ g, v.ownBlock = some g → ¬ B g) : w'.ownsRow 0 t sz v n vs := by
 refine ⟨h3.1, ?_⟩
 rcases h3.2 with h0 | ⟨g, cap', cur, k1, k2, k3, k4⟩
 · exact .inl h0
 · exact .inr ⟨g, cap', cur, k1, k2, (hk.block (Array.getElem?_eq_some_iff.1 k3).1 (hd g (by rw [k1]; rfl))).trans k3, k4⟩
theorem Rr.kn {C B : Nat → Prop} {w w' : World} {v : Value} {K : Nat} {T : List (List Rat)} (h : Rr C w v K T) (hk : Kn B w w') (hd : ∀ k, C k → ¬ B k) : Rr C w' v K T := by
 obtain ⟨vs, h3, h4, h5, h6⟩ := h
 refine ⟨vs, own_kn (C := C) h3 hk (fun g e => hd g (h4 g e).1), fun g e => ⟨(h4 g e).1, (NoI.same (hk.block (World.ownsRow.lt h3 g e).2 (hd g (h4 g e).1))).2 (h4 g e).2⟩, fun i hi => ⟨(h5 i hi).1.kn hk (fun g e => hd g ((h5 i hi).2 g e).1), (h5 i hi).2⟩, h6⟩
theorem Rr.below {C : Nat → Prop} {w w' : World} {v : Value} {K : Nat} {T : List (List Rat)} (h : Rr C w v K T) (hb : Below w.heap.size w w') : Rr C w' v K T := h.kn (Kn.of (B := fun _ => False) hb) (fun _ _ h => h)
theorem Rr.mono {B C : Nat → Prop} {w : World} {v : Value} {K : Nat} {T : List (List Rat)} (h : Rr B w v K T) (hC : ∀ k, B k → k < w.heap.size → C k) : Rr C w v K T := by
 obtain ⟨vs, h3, h4, h5, h6⟩ := h
 refine ⟨vs, h3, fun g e => ⟨hC g (h4 g e).1 (World.ownsRow.lt h3 g e).2, (h4 g e).2⟩, fun i hi => ⟨(h5 i hi).1, fun g e => ⟨hC g ((h5 i hi).2 g e).1 ((h5 i hi).1.lo e).2, ((h5 i hi).2 g e).2⟩⟩, h6⟩
theorem Rr.slice {B : Nat → Prop} {w : World} {v : Value} {K : Nat} {T : List (List Rat)} (h : Rr B w v K T) : ∃ a cap, v = .slice a T.length cap ∧ T.length ≤ cap ∧ cap ≤ maxLen := by
 obtain ⟨vs, h3, h4, h5, h6⟩ := h
 rcases h3.2 with ⟨h0, h1⟩ | ⟨g, cap', cur, k1, k2, k3, k4, k5, _⟩
 · exact ⟨none, 0, by rw [h1]; exact h0, by omega, Nat.zero_le _⟩
 · exact ⟨_, cap', k1, k4, k5⟩
theorem Rr.at {B : Nat → Prop} {w : World} {v : Value} {K : Nat} {T : List (List Rat)} (h : Rr B w v K T) (i : Nat) (hi : i < T.length) :
    ∃ g cap u, v = .slice (some ⟨g, 0, none⟩) T.length cap ∧ g < w.heap.size ∧ B g ∧ T.length ≤ cap ∧ cap ≤ maxLen ∧ w.cell? ⟨g, i, none⟩ = some u ∧ w.frozen? ⟨g, i, none⟩ = false ∧ Ro 69 0 w u K (T.getD i []) ∧ (∀ b, u.ownBlock = some b → B b ∧ b ≠ g) := by
 obtain ⟨vs, h3, h4, h5, h6⟩ := h
 rcases h3.2 with ⟨h0, h1⟩ | ⟨g, cap', cur, k1, k2, k3, k4, k5, k6, k7⟩
 · omega
 · have hvl : vs.length = T.length := by have := h3.1; omega
   have e : vs[i]? = some (vs.getD i nilV) := by rw [List.getD_eq_getElem?_getD, List.getElem?_eq_getElem (by omega)]; rfl
   have hc := h3.cells (g := g) (by rw [k1]; rfl) i _ e
   have hadd : (⟨g, 0, none⟩ : Addr).add i = ⟨g, i, none⟩ := by unfold Addr.add; split <;> simp_all
   rw [hadd] at hc
   refine ⟨g, cap', vs.getD i nilV, k1, (Array.getElem?_eq_some_iff.1 k3).1, (h4 g (by rw [k1]; rfl)).1, k4, k5, hc, frozen_of_row w g i _ _ k3, (h5 i hi).1, fun b e1 => ⟨((h5 i hi).2 b e1).1, fun e2 => ((h5 i hi).2 b e1).2 (by rw [k1, e2]; rfl)⟩⟩
theorem Rr.put {B C : Nat → Prop} {w w' : World} {v : Value} {K : Nat} {T : List (List Rat)} (h : Rr B w v K T) (i : Nat) (hi : i < T.length) {g cap : Nat} {u u' : Value} {l' : List Rat} (hv : v = .slice (some ⟨g, 0, none⟩) T.length cap) (hc : w.cell? ⟨g, i, none⟩ = some u) (hg : w.grownBy w' u.ownBlock) (hu : Ro 69 0 w' u' K l') (ho : u'.ownBlock = u.ownBlock ∨ u'.ownBlock = some w.heap.size) (hone : isI u' = false) (hBC : ∀ k, B k → C k) (hsz : C w.heap.size) :
    Rr C (w'.setCell ⟨g, i, none⟩ u') v K (T.set i l') ∧ Kn B w (w'.setCell ⟨g, i, none⟩ u') := by
 obtain ⟨vs, h3, h4, h5, h6⟩ := h
 have hvg : v.ownBlock = some g := by rw [hv]; rfl
 have hvl : vs.length = T.length := by have := h3.1; omega
 have e : vs[i]? = some (vs.getD i nilV) := by rw [List.getD_eq_getElem?_getD, List.getElem?_eq_getElem (by omega)]; rfl
 have hadd : (⟨g, 0, none⟩ : Addr).add i = ⟨g, i, none⟩ := by unfold Addr.add; split <;> simp_all
 have hc2 := h3.cells (g := g) hvg i _ e
 rw [hadd, hc] at hc2
 have huv : u = vs.getD i nilV := Option.some.inj hc2
 have hgl := (World.ownsRow.lt h3 g hvg).2
 have huB : ∀ b, u.ownBlock = some b → B b ∧ b ≠ g := fun b e1 => by
  rw [huv] at e1
  exact ⟨((h5 i hi).2 b e1).1, fun e2 => ((h5 i hi).2 b e1).2 (by rw [hvg, e2])⟩
 have hun : ∀ b, u.ownBlock = some b → NoI w b := fun b e1 => (h5 i hi).1.noi b (by rw [← huv]; exact e1)
 have hgk : w'.heap[g]? = w.heap[g]? := hg.block g hgl (fun e1 => (huB g e1.symm).2 rfl)
 have hng : NoI w' g := (NoI.same hgk).2 (h4 g hvg).2
 have k1 : Kn B w w' := Kn.grown hg (fun k e1 => ⟨(huB k e1).1, hun k e1⟩)
 have k2 : Kn (fun k => k = g) w' (w'.setCell ⟨g, i, none⟩ u') := Kn.set (B := fun k => k = g) ⟨rfl, hng⟩ i u'
 have k3 : Kn B w (w'.setCell ⟨g, i, none⟩ u') := k1.trans k2 (fun j hj _ => by rw [hj]; exact (h4 g hvg).1)
 have kr : Kn (fun k => some k = u.ownBlock) w w' := Kn.grown hg (fun k e1 => ⟨e1.symm, hun k e1⟩)
 have hu'g : ∀ b, u'.ownBlock = some b → b ≠ g := fun b e1 => by
  rcases ho with ho | ho
  · rw [ho] at e1; exact (huB b e1).2
  · rw [ho] at e1
    injection e1 with e1
    omega
 have hset : (vs.set i u').getD i nilV = u' := by simp [List.getD, show i < vs.length by omega]
 have hoth : ∀ j, j ≠ i → (vs.set i u').getD j nilV = vs.getD j nilV := fun j hj => by simp [List.getD, List.getElem?_set_ne (fun e => hj e.symm)]
 have tset : (T.set i l').getD i [] = l' := by simp [List.getD, hi]
 have toth : ∀ j, j ≠ i → (T.set i l').getD j [] = T.getD j [] := fun j hj => by simp [List.getD, List.getElem?_set_ne (fun e => hj e.symm)]
 have hnew : ∀ j b, j < T.length → j ≠ i → (vs.getD j nilV).ownBlock = some b → u'.ownBlock ≠ some b := fun j b hj hji e1 e2 => by
  rcases ho with ho | ho
  · rw [ho, huv] at e2
    exact h6 j i b hj hi hji e1 e2
  · rw [ho] at e2
    injection e2 with e2
    have := ((h5 j hj).1.lo e1).2
    omega
 refine ⟨⟨vs.set i u', ⟨by rw [List.length_set, List.length_set]; exact h3.1, ?_⟩, fun b e1 => ?_, fun j hj => ?_, fun j m b hj hm hjm e1 => ?_⟩, k3⟩
 · rcases h3.2 with ⟨h0, h1⟩ | ⟨g', cap', cur, q1, q2, q3, q4, q5, q6, q7⟩
   · rw [h0] at hv; cases hv
   · rw [q1] at hvg
     have e1 : some g' = some g := hvg
     injection e1 with e1; subst e1
     have hst := heap_setCell_same w' g' i cur _ u' (hgk.trans q3)
     refine .inr ⟨g', cap', _, by rw [List.length_set]; exact q1, q2, hst, by rw [List.length_set]; exact q4, q5, by simpa using q6, ?_⟩
     rw [List.length_set, ← q7]
     simp [List.take_set]
 · have e2 := e1
   rw [hvg] at e2; injection e2 with e2; subst e2
   exact ⟨hBC _ (h4 g hvg).1, fun j y hy => by
    by_cases hji : j = i
    · subst hji
      have hcw : w'.cell? ⟨g, j, none⟩ = some u := (World.cell?_of_block (w := w) (a := ⟨g, j, none⟩) hgk).trans hc
      rw [World.cell?_setCell_same w' ⟨g, j, none⟩ u' hcw] at hy
      injection hy with hy; rw [← hy]
      exact hone
    · rw [World.cell?_setCell_other w' ⟨g, i, none⟩ ⟨g, j, none⟩ u' (fun e3 => hji (by injection e3 with _ e4 _; exact e4.symm))] at hy
      exact hng j y hy⟩
 · rw [List.length_set] at hj
   by_cases hji : j = i
   · subst hji
     rw [hset, tset]
     refine ⟨hu.kn k2 (fun b e1 => hu'g b e1), fun b e1 => ⟨?_, fun e2 => hu'g b e1 (by rw [hvg] at e2; injection e2 with e2; exact e2.symm)⟩⟩
     rcases ho with ho | ho
     · rw [ho] at e1; exact hBC b (huB b e1).1
     · rw [ho] at e1
       injection e1 with e1; rw [← e1]
       exact hsz
   · rw [hoth j hji, toth j hji]
     refine ⟨((h5 j hj).1.kn kr (fun b e1 e2 => h6 j i b hj hi hji e1 (by rw [← huv]; exact e2.symm))).kn k2 (fun b e1 e2 => ((h5 j hj).2 b e1).2 (by rw [hvg, e2])), fun b e1 => ⟨hBC b ((h5 j hj).2 b e1).1, ((h5 j hj).2 b e1).2⟩⟩
 · rw [List.length_set] at hj hm
   by_cases hji : j = i
   · subst hji
     rw [hset] at e1
     rw [hoth m (fun x => hjm x.symm)]
     intro e2
     exact hnew m b hm (fun x => hjm x.symm) e2 e1
   · rw [hoth j hji] at e1
     by_cases hmi : m = i
     · subst hmi
       rw [hset]
       exact hnew j b hj hji e1
     · rw [hoth m hmi]
       exact h6 j m b hj hm hjm e1
theorem wp_append_rr {w : World} {o : Oper} {a : Act} {K' : Act → World → Prop} {Q : Exit → Act → World → Prop}
    (s x : Operand) (ho : o.op = .call { callee := .builtin .append, args := #[s, x], argTypes := #[63, 63] })
    (B C : Nat → Prop) (v : Value) (K : Nat) (T : List (List Rat)) (hs : a.eval s = v) (h : Rr B w v K T) (g : Nat) (hx : a.eval x = .slice (some ⟨g, 0, none⟩) 1 1) (u : Value) (l : List Rat) (c0 : w.cell? ⟨g, 0, none⟩ = some u) (hu : Ro 69 0 w u K l) (hone : isI u = false ∧ u.oneCell' = true) (hd : ∀ b, u.ownBlock = some b → ¬ B b ∧ C b) (hBC : ∀ k, B k → C k) (hsz : C w.heap.size) (hlen : T.length + 1 ≤ 1000000)
    (h' : ∀ v' w', Rr C w' v' K (T ++ [l]) → Kn B w w' → w.grownBy w' v.ownBlock → K' (a.put o.dst v') w') : o.wp Tryz.prog a w K' Q := by
 obtain ⟨vs, h3, h4, h5, h6⟩ := h
 obtain ⟨i0, hi, hz0, hz1, hz2⟩ := info_parts info_rts
 have hvl : vs.length = T.length := by have := h3.1; omega
 have hnews : ∀ j y, [u][j]? = some y → w.cell? ((⟨g, 0, none⟩ : Addr).add j) = some y := by
  intro j y hj
  match j, hj with
  | 0, hj => simp at hj; subst hj; simpa [Addr.add] using c0
 obtain ⟨v', w', hr, k1, k2, _, k4⟩ := run_append_own_at (P := Tryz.prog) w 0 63 o.type 32 i0 slZ 1 24 Tryz.underlying63 hi hz0 hz1 hz2 rfl (by decide) v T.length vs h3 ⟨g, 0, none⟩ 1 1 [u] rfl hnews (fun y hy => by rw [List.mem_singleton.1 hy]; exact hone.2) (by unfold maxLen; omega) (by omega) (Nat.zero_le _)
 have hn' := append_noS 0 63 o.type 32 i0 Tryz.underlying63 hi hz0 hz1 hz2 T.length vs h3 (fun b e => (h4 b e).2) ⟨g, 0, none⟩ 1 1 [u] (by decide) rfl hnews (fun y hy => by rw [List.mem_singleton.1 hy]; exact hone) hlen hr
 have kn : Kn B w w' := Kn.grown k2 (fun k e => h4 k e)
 have kr : Kn (fun k => some k = v.ownBlock) w w' := Kn.grown k2 (fun k e => ⟨e.symm, (h4 k e).2⟩)
 have hul := fun b e => (hu.lo (g := b) e).2
 have hlast : (vs ++ [u]).getD T.length nilV = u := by simp [List.getD, ← hvl]
 have hfst : ∀ j, j < T.length → (vs ++ [u]).getD j nilV = vs.getD j nilV := fun j hj => by simp [List.getD, List.getElem?_append_left (show j < vs.length by omega)]
 have tlast : (T ++ [l]).getD T.length [] = l := by simp [List.getD]
 have tfst : ∀ j, j < T.length → (T ++ [l]).getD j [] = T.getD j [] := fun j hj => by simp [List.getD, List.getElem?_append_left hj]
 have hv'n : ∀ b, b < w.heap.size → v'.ownBlock = some b → v.ownBlock = some b := fun b hb e => by
  rcases k4 with k4 | k4
  · rw [← k4]; exact e
  · rw [k4] at e
    injection e with e
    omega
 have hR : Rr C w' v' K (T ++ [l]) := by
  refine ⟨vs ++ [u], by rw [List.length_append]; exact k1, fun b e => ⟨?_, hn' b e⟩, fun j hj => ?_, fun j m b hj hm hjm e1 => ?_⟩
  · rcases k4 with k4 | k4
    · rw [k4] at e; exact hBC b (h4 b e).1
    · rw [k4] at e
      injection e with e; rw [← e]
      exact hsz
  · by_cases hjt : j < T.length
    · rw [hfst j hjt, tfst j hjt]
      refine ⟨(h5 j hjt).1.kn kr (fun b e e2 => ((h5 j hjt).2 b e).2 e2.symm), fun b e => ⟨hBC b ((h5 j hjt).2 b e).1, fun e2 => ((h5 j hjt).2 b e).2 (hv'n b ((h5 j hjt).1.lo e).2 e2)⟩⟩
    · obtain rfl : j = T.length := by simp at hj; omega
      rw [hlast, tlast]
      refine ⟨hu.kn kn (fun b e => (hd b e).1), fun b e => ⟨(hd b e).2, fun e2 => (hd b e).1 (h4 b (hv'n b (hul b e) e2)).1⟩⟩
  · have hj' : j < T.length ∨ j = T.length := by simp at hj; omega
    have hm' : m < T.length ∨ m = T.length := by simp at hm; omega
    rcases hj' with hj' | rfl
    · rw [hfst j hj'] at e1
      rcases hm' with hm' | rfl
      · rw [hfst m hm']
        exact h6 j m b hj' hm' hjm e1
      · rw [hlast]
        intro e2
        exact (hd b e2).1 ((h5 j hj').2 b e1).1
    · rw [hlast] at e1
      rcases hm' with hm' | rfl
      · rw [hfst m hm']
        intro e2
        exact (hd b e1).1 ((h5 m hm').2 b e2).1
      · exact absurd rfl hjm
 unfold Oper.wp execOp
 simp only [ho, resolve, invoke, builtin, Sem.run_bind, Sem.run_pure, Result.andThen_ok, List.map_toArray, List.map_cons, List.map_nil, hs, hx, hr]
 exact h' v' w' hR kn k2
theorem Ro.one {w : World} {g k : Nat} {x y z : Value} {q : Rat} (h : Bk 69 w g [x, y, z]) (hF : Fr w (.agg #[x, y, z]) k q) : Ro 69 0 w (.slice (some ⟨g, 0, none⟩) 1 1) k [q] := by
 refine ⟨[x, y, z], ⟨rfl, .inr ⟨g, 1, #[x, y, z], rfl, Nat.zero_le _, h, Nat.le_refl _, by unfold maxLen; omega, rfl, rfl⟩⟩, fun b e => ?_, fun i hi => ?_⟩
 · have e : some g = some b := e
   injection e with e; subst e
   exact NoI.of h (fun c hc => (hF.noI c (by simpa using hc)).1)
 · obtain rfl : i = 0 := by simpa using hi
   exact ⟨x, y, z, rfl, rfl, rfl, hF⟩
def nr (z : Int) : Bool := decide (-1099511627776 ≤ z ∧ z ≤ 1099511627776)
theorem near_any (b : Nat) (zs : List Int) (w : World) (hl : zs.length ≤ 4) (hc : ∀ i, i < zs.length → w.cell? ⟨b, i, none⟩ = some (.int .i64 (zs.getD i 0))) :
    Calls Tryz.prog 211 #[.slice (some ⟨b, 0, none⟩) zs.length 4] w fun e w' => e = .returned (.bool (zs.all nr)) ∧ w = w' := by
 have HC : Hid (∀ i, i < zs.length → w.cell? ⟨b, i, none⟩ = some (.int .i64 (zs.getD i 0))) := hc
 clear hc
 go_enter Tryz.func211, Tryz.ntmps211
 go_wp2
 go_loop [7] (fun i => ∃ k : Nat, k ≤ zs.length ∧ i = .int .i64 k ∧ (∀ j, j < k → nr (zs.getD j 0) = true)) (fun i => zs.length - (intOf i).toNat)
 case atStart => exact ⟨0, Nat.zero_le _, rfl, fun j hj => by omega⟩
 case round =>
  obtain ⟨k, hk, rfl, hal⟩ := hrel
  have HA : Hid (∀ j, j < k → nr (zs.getD j 0) = true) := hal
  clear hal
  by_cases hkn : k < zs.length
  · have c1 := HC.out k hkn
    obtain ⟨x, hx⟩ : ∃ x, zs.getD k 0 = x := ⟨_, rfl⟩
    rw [hx] at c1
    have HX : Hid (zs.getD k 0 = x) := hx
    clear hx
    have hm : x ∈ zs := by
     have := HX.out
     rw [List.getD_eq_getElem?_getD, List.getElem?_eq_getElem hkn] at this
     simp at this
     exact this ▸ List.getElem_mem hkn
    by_cases h1 : x < -1099511627776
    · go_wp2
      go_ret
      exact ⟨ret_bool (by
       symm
       rw [List.all_eq_false]
       exact ⟨x, hm, by simp [nr]; omega⟩), rfl⟩
    · by_cases h2 : 1099511627776 < x
      · go_wp2
        go_ret
        exact ⟨ret_bool (by
         symm
         rw [List.all_eq_false]
         exact ⟨x, hm, by simp [nr]; omega⟩), rfl⟩
      · go_wp2
        go_round
        case rel => exact ⟨k + 1, by omega, by go_num, fun j hj => by
         rcases Nat.lt_or_ge j k with h | h
         · exact HA.out j h
         · have : j = k := by omega
           subst this; rw [HX.out]
           simp [nr]
           omega⟩
        case measure => simp [intOf]; omega
  · obtain rfl : k = zs.length := by omega
    go_wp2
    go_ret
    exact ⟨ret_bool (by
     symm
     rw [List.all_eq_true]
     intro x hx
     obtain ⟨j, hj, rfl⟩ := List.getElem_of_mem hx
     have := HA.out j hj
     rwa [List.getD_eq_getElem?_getD, List.getElem?_eq_getElem hj] at this), rfl⟩
open Go.Lib Classical
theorem Ct.keep {u U : World} {v : Value} {k : Nat} {q : Rat} (h : Ct u v k q) (hK : ∀ a c xs, Rd u a c xs → Rd U a c xs) : Ct U v k q := by
 obtain ⟨n0, x0, y0, ⟨e1, e2, e3, e4, e5, e6, e7⟩, e8⟩ := h
 exact ⟨n0, x0, y0, ⟨e1, e2, e3, e4, e5, hK _ _ _ e6, hK _ _ _ e7⟩, e8⟩
def Two (w : World) (n : Bool) (a : Option Addr) (c : Nat) (xs : List Nat) (a' : Option Addr) (c' : Nat) (ys : List Nat) (m : Bool) (b : Option Addr) (d : Nat) (ps : List Nat) (b' : Option Addr) (d' : Nat) (qs : List Nat) (q : Rat) : Prop :=
 Rd w a c xs ∧ Rd w a' c' ys ∧ Rd w b d ps ∧ Rd w b' d' qs ∧ Fmd n xs ys ∧ xs.length ≤ 9 ∧ ys.length ≤ 9 ∧ qv n xs ys = q ∧ Fmd m ps qs ∧ ps.length ≤ 9 ∧ qs.length ≤ 9 ∧ qv m ps qs = q
def nr4 (a b n d : Int) : Bool := [a, b, n, d].all nr
def btw (a b n d : Int) : Rat := if nr4 a b n d = true then (a : Rat) + ((b - a : Int) : Rat) * ((n : Rat) / (d : Rat)) else 0
theorem nr4_all {a b n d : Int} (h : nr4 a b n d = true) : (-1099511627776 ≤ a ∧ a ≤ 1099511627776) ∧ (-1099511627776 ≤ b ∧ b ≤ 1099511627776) ∧ (-1099511627776 ≤ n ∧ n ≤ 1099511627776) ∧ (-1099511627776 ≤ d ∧ d ≤ 1099511627776) := by
 simp [nr4, nr] at h
 omega
theorem near4_any (a b n d : Int) (t : TypeId) (g : Nat) (w : World) (h : w.heap[g]? = some (.cells #[.int .i64 a, .int .i64 b, .int .i64 n, .int .i64 d] t (0, 0))) :
    Calls Tryz.prog 211 #[.slice (some ⟨g, 0, none⟩) 4 4] w fun e w' => e = .returned (.bool (nr4 a b n d)) ∧ w = w' := by
 refine near_any g [a, b, n, d] _ (by simp) ?_
 intro i hi
 simp at hi
 rcases (show i = 0 ∨ i = 1 ∨ i = 2 ∨ i = 3 by omega) with rfl | rfl | rfl | rfl <;> simp [World.cell?, h]
theorem between_any (a b n d : Int) (w : World) (ha : -9223372036854775808 ≤ a ∧ a < 9223372036854775808) (hb : -9223372036854775808 ≤ b ∧ b < 9223372036854775808) (hn : -9223372036854775808 ≤ n ∧ n < 9223372036854775808) (hd : -9223372036854775808 ≤ d ∧ d < 9223372036854775808) :
    Calls Tryz.prog 205 #[.int .i64 a, .int .i64 b, .int .i64 n, .int .i64 d] w fun e w' => ∃ v', e = .returned v' ∧ Fr w' v' 7 (btw a b n d) ∧ Below w.heap.size w w' := by
 go_enter Tryz.func205, Tryz.ntmps205
 go_wp2_with fail
 obtain ⟨W, hW, B1, R1, hbW⟩ : ∃ W, W = ((w.alloc (.cells #[.bool false, .slice none 0 0, .slice none 0 0] 69)).alloc (.cells #[.int .i64 a, .int .i64 b, .int .i64 n, .int .i64 d] 3)) ∧ Box 69 W w.heap.size (.bool false) (.slice none 0 0) (.slice none 0 0) ∧ W.heap[w.heap.size + 1]? = some (.cells #[.int .i64 a, .int .i64 b, .int .i64 n, .int .i64 d] 3 (0, 0)) ∧ Below w.heap.size w W :=
  ⟨_, rfl, (Box.new _ _ _ _ _).alloc _, by have := heap_alloc_new (w.alloc (.cells #[.bool false, .slice none 0 0, .slice none 0 0] 69)) (.cells #[.int .i64 a, .int .i64 b, .int .i64 n, .int .i64 d] 3); simpa using this, al2 _ _⟩
 rw [← hW]; clear hW
 refine (near4_any a b n d _ _ _ R1).mono ?_
 rintro e u0 ⟨rfl, rfl⟩; clear R1
 by_cases h4 : nr4 a b n d = true
 · obtain ⟨ra, rb, rn, rd⟩ := nr4_all h4
   have HB : Hid (btw a b n d = (a : Rat) + ((b - a : Int) : Rat) * ((n : Rat) / (d : Rat))) := by
    show btw a b n d = _
    unfold btw
    rw [if_pos h4]
   rw [h4]; clear h4
   go_wp2_with fail
   refine (whole_any (b - a) _ (by omega) (by omega)).mono ?_
   rintro e u1 ⟨v1, rfl, hF1, hb1⟩; replace B1 := B1.below hb1
   replace hbW : Below w.heap.size w u1 := hbW.trans (hb1.mono hbW.size)
   clear hb1
   go_wp2_with fail
   refine (make_any n d _ (by omega) (by omega) (by omega) (by omega)).mono ?_
   rintro e u2 ⟨v2, rfl, hF2, hb2⟩; replace B1 := B1.below hb2; replace hF1 := hF1.below hb2
   replace hbW : Below w.heap.size w u2 := hbW.trans (hb2.mono hbW.size)
   clear hb2
   go_wp2_with fail
   refine (qmul_any 2 2 _ _ _ _ _ hF1.ct hF2.ct (by decide) (by decide) (by decide) (by decide)).mono ?_
   rintro e u3 ⟨v3, rfl, hF3, hb3⟩; replace B1 := B1.below hb3
   replace hbW : Below w.heap.size w u3 := hbW.trans (hb3.mono hbW.size)
   clear hb3 hF1 hF2
   have hX := hF3.ct
   obtain ⟨n3, x3, y3, ⟨a3, c3, b3, d3, rfl, _, _⟩, _⟩ := hF3
   have hs := B1.lt
   go_wp2_with fail
   obtain ⟨W2, hW2, B2, hb3⟩ : ∃ W2, W2 = u3.alloc (.cells #[.bool n3, .slice a3 x3.length c3, .slice b3 y3.length d3] 69) ∧ Box 69 W2 u3.heap.size (.bool n3) (.slice a3 x3.length c3) (.slice b3 y3.length d3) ∧ Below u3.heap.size u3 W2 := ⟨_, rfl, Box.new _ _ _ _ _, al1 _⟩
   rw [← hW2]; clear hW2; replace B1 := B1.below hb3; replace hX := hX.below hb3
   replace hbW : Below w.heap.size w W2 := hbW.trans (hb3.mono hbW.size)
   clear hb3
   have hne : u3.heap.size ≠ w.heap.size := by omega
   clear hs
   generalize u3.heap.size = g at B2 hne ⊢
   obtain ⟨p1, p2, p3, _⟩ := B2.cells
   go_region_held3 (fun u => u.cell? ⟨g, 0, none⟩ = some (.bool n3) ∧ u.cell? ⟨g, 1, none⟩ = some (.slice a3 x3.length c3) ∧ u.cell? ⟨g, 2, none⟩ = some (.slice b3 y3.length d3)) (first | (go_keep; done) | (refine ⟨(cell_set3 hne).trans p1, (cell_set3 hne).trans p2, (cell_set3 hne).trans p3⟩))
    (first
     | (go_at_call 63
        refine (whole_any a _ ?_ ?_).mono ?_
        · omega
        · omega
        rintro e u4 ⟨v4, rfl, hF4, hb4⟩
        replace hb4 : Below W2.heap.size W2 u4 := Below.drew1.trans hb4
        replace hX := hX.below hb4; replace B1 := B1.below hb4; replace B2 := B2.below hb4
        replace hbW : Below w.heap.size w u4 := hbW.trans (hb4.mono hbW.size)
        clear hb4 p1 p2 p3
        obtain ⟨p1, p2, p3, _⟩ := B2.cells)
     | (go_at_call 123
        refine (qadd_any 2 4 _ _ _ _ _ hF4.ct hX (by decide) (by decide) (by decide) (by decide)).mono ?_
        rintro e u5 ⟨v5, rfl, hF5, hb5⟩; replace B1 := B1.below hb5; replace B2 := B2.below hb5
        replace hbW : Below w.heap.size w u5 := hbW.trans (hb5.mono hbW.size)
        replace hF5 := hF5.eq HB.out.symm
        clear hb5 hF4 hX p1 p2 p3; obtain ⟨p1, p2, p3, _⟩ := B2.cells; obtain ⟨q1, q2, q3, q4, q5, q6⟩ := B1.cells
        have hs := B1.lt
        obtain ⟨n', xs', ys', ⟨e1, f1, e2, f2, rfl, hx', hy'⟩, hF⟩ := hF5))
   go_wp2
   refine ret3 (v := .agg #[.bool n', .slice e1 xs'.length f1, .slice e2 ys'.length f2]) B1 rfl (fun U hU => by obtain ⟨r1, r2, r3, _⟩ := hU.cells; simp [results, Tryz.results205, go_sem, r1, r2, r3]) (fun U hU hK => ⟨_, rfl, ⟨_, _, _, ⟨_, _, _, _, rfl, hK _ _ _ hx', hK _ _ _ hy'⟩, hF⟩, hU _ _ hbW (by omega)⟩)
 · have e1 : nr4 a b n d = false := by simpa using h4
   have HB : Hid (btw a b n d = 0) := by
    show btw a b n d = _
    unfold btw
    rw [if_neg h4]
   rw [e1]; clear h4 e1
   go_wp2_with fail
   refine (whole_any 0 _ (by decide) (by decide)).mono ?_
   rintro e u1 ⟨v1, rfl, hF1, hb1⟩; replace B1 := B1.below hb1
   replace hbW : Below w.heap.size w u1 := hbW.trans (hb1.mono hbW.size)
   clear hb1
   have hs := B1.lt
   obtain ⟨q1, q2, q3, q4, q5, q6⟩ := B1.cells
   replace hF1 := (hF1.eq (r := btw a b n d) (by rw [HB.out]; rfl)).le (show 2 ≤ 7 by decide)
   obtain ⟨n', xs', ys', ⟨b, d, b', d', rfl, hx', hy'⟩, hF⟩ := hF1; go_wp2
   refine ret3 (v := .agg #[.bool n', .slice b xs'.length d, .slice b' ys'.length d']) B1 rfl (fun U hU => by obtain ⟨r1, r2, r3, _⟩ := hU.cells; simp [results, Tryz.results205, go_sem, r1, r2, r3]) (fun U hU hK => ⟨_, rfl, ⟨_, _, _, ⟨_, _, _, _, rfl, hK _ _ _ hx', hK _ _ _ hy'⟩, hF⟩, hU _ _ hbW (by omega)⟩)
end Go.Proofs.YtngmcghmniakeaaGreat
