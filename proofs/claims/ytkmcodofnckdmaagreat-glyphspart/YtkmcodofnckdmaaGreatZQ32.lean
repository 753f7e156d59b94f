/-
  foundrylaw15.GlyphsRing: the walk.
  A glyph more, of one part; contours of one's own that are moved in place.
  What a law is told of a slice of bytes, or of int32, that came in.
  What a law is told of things that came in, one for all (Opens).
  What a law is told of an outline that came in.
  Rows of int16 that are read.
  What a law of layer 13 is told of what came in: rows of ints, int16 and bools; structs of them.
  What a law of layer 14 is told of what came in: an outline and its tuples.
-/
import Derived.Test.YtkmcodofnckdmaaGreatZQ29
import Derived.Test.YtkmcodofnckdmaaGreatZQ31
import Derived.Test.YtkmcodofnckdmaaGreatZQ28
import Derived.Test.YtkmcodofnckdmaaGreatZQ27
import Derived.Test.YtkmcodofnckdmaaGreatZQ6
import Derived.ProofKit
import Derived.Test.YtkmcodofnckdmaaGreatZQ10
import Derived.Deep.Strs
import Derived.OpenShut
import Derived.SizedLaws
import Derived.Lib.SmallJoins
import Derived.Test.YtkmcodofnckdmaaGreatZQ14
import Derived.Test.YtkmcodofnckdmaaGreatZQ13
set_option maxRecDepth 100000
set_option linter.unusedSimpArgs false
set_option linter.unusedVariables false
namespace Go.Proofs.YtkmcodofnckdmaaGreat
open Go.RowKit Go.Maps
theorem Gw.put {α : Type} {E : El α} {t : TypeId} {base : Nat} {S : Nat → Prop} {w : World} {g n cap : Nat} {l : List α} (h : Gw E t base S w (.slice (some ⟨g, 0, none⟩) n cap) l) {i j : Nat} {x : Value} {y : α} (hi : i < l.length) (hj : j < E.sz)
    (hrep : ∀ vs, E.rep (fun k => S k ∧ k ≠ g) w vs (l.getD i E.dfl) → E.rep (fun k => S k ∧ k ≠ g) w (vs.set j x) y) : Gw E t base S (w.setCell ⟨g, i * E.sz + j, none⟩ x) (.slice (some ⟨g, 0, none⟩) n cap) (l.set i y) := by
 obtain ⟨vss, hl, h3, h4⟩ := h
 have hS1 : ∀ {vs z} {U : World}, E.rep (fun k => S k ∧ (Value.slice (some ⟨g, 0, none⟩) n cap).ownBlock ≠ some k) U vs z → E.rep (fun k => S k ∧ k ≠ g) U vs z := fun h => E.stay h (Nat.le_refl _) (fun k hk _ => ⟨⟨hk.1, fun e => hk.2 (by rw [e]; rfl)⟩, rfl⟩)
 have hS2 : ∀ {vs z} {U : World}, E.rep (fun k => S k ∧ k ≠ g) U vs z → E.rep (fun k => S k ∧ (Value.slice (some ⟨g, 0, none⟩) n cap).ownBlock ≠ some k) U vs z := fun h => E.stay h (Nat.le_refl _) (fun k hk _ => ⟨⟨hk.1, fun e => hk.2 (Option.some.inj e).symm⟩, rfl⟩)
 have h5 : ∀ i, i < vss.length → (vss.getD i []).length = E.sz := fun i hi => E.len (h4 i (by omega))
 rcases h3.2 with ⟨e0, e1⟩ | ⟨g', cap', cur, e0, hb, hg, hc1, hc2, hc3, ht⟩
 · cases e0
 · cases e0
   have hset := heap_setCell_same w g (i * E.sz + j) cur t x hg
   have hoth : ∀ k, k ≠ g → (w.setCell ⟨g, i * E.sz + j, none⟩ x).heap[k]? = w.heap[k]? := fun k hk => Below.heap_setCell _ _ _ _ (fun e => hk e)
   have hsz : (w.setCell ⟨g, i * E.sz + j, none⟩ x).heap.size = w.heap.size := by simp [World.setCell]
   have hst : ∀ vs z, E.rep (fun k => S k ∧ k ≠ g) w vs z → E.rep (fun k => S k ∧ k ≠ g) (w.setCell ⟨g, i * E.sz + j, none⟩ x) vs z := fun vs z hz => E.stay hz (by rw [hsz]; exact Nat.le_refl _) (fun k hk _ => ⟨hk, hoth k hk.2⟩)
   have hfl := flat_set (i := i) (j := j) x h5 (by omega) hj
   refine ⟨vss.set i ((vss.getD i []).set j x), by rw [List.length_set, List.length_set, hl], ⟨?_, .inr ⟨g, cap, _, by rw [List.length_set], hb, hset, by simpa using hc1, hc2, by simpa using hc3, ?_⟩⟩, fun k hk => ?_⟩
   · rw [hfl, List.length_set, List.length_set]; exact h3.1
   · rw [hfl, List.length_set, ← ht]
     simp [List.take_set]
   · rw [List.length_set] at hk
     by_cases hki : k = i
     · subst hki
       have e1 : (vss.set k ((vss.getD k []).set j x)).getD k [] = (vss.getD k []).set j x := by simp [List.getD, show k < vss.length by omega]
       have e2 : (l.set k y).getD k E.dfl = y := by simp [List.getD, hk]
       rw [e1, e2]
       exact hS2 (hst _ _ (hrep _ (hS1 (h4 k hk))))
     · have e1 : (vss.set i ((vss.getD i []).set j x)).getD k [] = vss.getD k [] := by simp [List.getD, List.getElem?_set_ne (fun e => hki e.symm)]
       have e2 : (l.set i y).getD k E.dfl = l.getD k E.dfl := by simp [List.getD, List.getElem?_set_ne (fun e => hki e.symm)]
       rw [e1, e2]
       exact hS2 (hst _ _ (hS1 (h4 k hk)))
theorem info_gl : (Tryz.prog.info? 62).map (fun i => (i.zero, i.size, i.bytes)) = some (some (.agg #[.slice none 0 0, .slice none 0 0, .slice none 0 0, .int .i64 0, .int .i64 0, .bool false]), 6, 96) := by kernel_rfl
def gP (ps : List Pa) : Gl := ⟨⟨[], ps⟩, [], 0, 0, false⟩
theorem i64z : I64 0 := ⟨by decide, by decide⟩
theorem gP_rep {S : Nat → Prop} {w : World} {pa : Option Addr} {pc : Nat} {ps : List Pa} (h : Gr PaE S w pa pc ps) (hS : ∀ b o, pa = some ⟨b, o, none⟩ → ps ≠ [] → S b) (hl : ps.length ≤ 1000) : GlE.rep S w [.slice none 0 0, .slice pa ps.length pc, .slice none 0 0, .int .i64 0, .int .i64 0, .bool false] (gP ps) :=
 GlE_rep.2 ⟨none, 0, pa, pc, none, 0, rfl, ⟨_, _, rfl, (fun _ _ _ hne => absurd rfl hne), Gr.nil _ _ _ _ _ (Nat.zero_le _) (fun _ => rfl), Nat.zero_le _⟩, ⟨_, _, rfl, hS, h, Nat.le_trans hl (by decide)⟩, ⟨_, _, rfl, (fun _ _ _ hne => absurd rfl hne), Gr.nil _ _ _ _ _ (Nat.zero_le _) (fun _ => rfl), Nat.zero_le _⟩, i64z, i64z⟩
theorem pa_one {S : Nat → Prop} {w : World} {g : Nat} {z dx dy : Int} (h : Bk 54 w g [.int .i64 z, .int .i64 dx, .int .i64 dy]) (hz : I64 z) (hx : I64 dx) (hy : I64 dy) : Gr PaE S w (some ⟨g, 0, none⟩) 1 [⟨z, dx, dy⟩] :=
 Gr.one (vs := paC ⟨z, dx, dy⟩) (PaE_rep.2 ⟨rfl, hz, hx, hy⟩) h.lt (fun j hj => h.cell j hj)
theorem part_fo {g bx by' : Int} (h0 : 0 ≤ g) (h1 : g ≤ 65535) (hx : -128 ≤ bx ∧ bx < 128) (hy : -128 ≤ by' ∧ by' < 128) : foT (gP [⟨g, bx, by'⟩]).o [] 0 = true := by
 refine foT_iff.2 ⟨foB_iff.2 ⟨.inl rfl, Nat.zero_le _, by show 1 ≤ 6; omega, (fun c hc => by cases hc), Nat.zero_le _, (fun p hp => by cases hp), fun p hp => ?_⟩, by omega, Nat.zero_le _, fun k hk => by cases hk⟩
 have hp' : p = ⟨g, bx, by'⟩ := List.mem_singleton.1 hp
 rw [hp']
 dsimp only
 omega
theorem part_no {l : List Gl} {g bx by' : Int} (h : dpG l g < 0 ∨ 6 ≤ dpG l g) : dpG (l ++ [gP [⟨g, bx, by'⟩]]) (l.length : Int) = -1 := by
 refine dpG_none ?_
 cases hd : dq (l ++ [gP [⟨g, bx, by'⟩]]) 6 (l.length : Int) with
 | none => rfl
 | some e =>
  exfalso
  obtain ⟨d, h1, h2, h3⟩ := (dq_one (p := ⟨g, bx, by'⟩) rfl).1 hd
  have h4 : dq l 6 g = some d := dq_more h1 (by omega)
  rw [dpG_some h4] at h
  omega
theorem part_yes {l : List Gl} {g bx by' : Int} {d : Nat} (hd : dq l 6 g = some d) (h6 : d < 6) (hsz : szG l g ≤ 600) (hl : l.length ≤ 1000) (hx : -128 ≤ bx ∧ bx < 128) (hy : -128 ≤ by' ∧ by' < 128) :
    dpG (l ++ [gP [⟨g, bx, by'⟩]]) (l.length : Int) = (d : Int) + 1 ∧ szG (l ++ [gP [⟨g, bx, by'⟩]]) (l.length : Int) = szG l g ∧
    (glE (l ++ [gP [⟨g, bx, by'⟩]]) g [] = (flG l [] 6 g).2 ∧ glC (l ++ [gP [⟨g, bx, by'⟩]]) g [] = (flG l [] 6 g).1) ∧
    (glE (l ++ [gP [⟨g, bx, by'⟩]]) (l.length : Int) [] = (flG l [] 6 g).2 ∧ ((flG l [] 6 g).2 = 0 → glC (l ++ [gP [⟨g, bx, by'⟩]]) (l.length : Int) [] = mvC bx by' (flG l [] 6 g).1)) := by
 have hlow := dq_low hd
 obtain ⟨x, hxg, -⟩ := dq_some.1 hd
 obtain ⟨h0, h1, -⟩ := gAt_some hxg
 have hn : dq (l ++ [gP [⟨g, bx, by'⟩]]) 6 (l.length : Int) = some (d + 1) := (dq_one (p := ⟨g, bx, by'⟩) rfl).2 ⟨d, hlow, rfl, by omega⟩
 have hs := szG_one (x := gP [⟨g, bx, by'⟩]) (p := ⟨g, bx, by'⟩) rfl rfl hlow h6
 have hg6 : dq (l ++ [gP [⟨g, bx, by'⟩]]) 6 g = some d := dq_app _ hd
 have hsg : szG (l ++ [gP [⟨g, bx, by'⟩]]) g = szG l g := by
  unfold szG
  rw [hg6, hd]
  show min (sq _ d g) 2001 = min (sq l d g) 2001
  rw [sq_app _ hlow]
 have e6 : flG (l ++ [gP [⟨g, bx, by'⟩]]) [] 6 g = flG l [] 6 g := by rw [flG_more (dq_app _ hlow) (show d ≤ 6 by omega), flG_more hlow (show d ≤ 6 by omega), flG_app _ hlow]
 have en : flG (l ++ [gP [⟨g, bx, by'⟩]]) [] 6 (l.length : Int) = if (flG l [] 6 g).2 = 0 then (mvC bx by' (flG l [] 6 g).1, 0) else ([], (flG l [] 6 g).2) := by
  rw [flG_more (dq_low hn) (show d + 1 ≤ 6 by omega), flG_one (p := ⟨g, bx, by'⟩) rfl rfl rfl (part_fo h0 (by omega) hx hy) hlow, flG_more hlow (show d ≤ 6 by omega)]
 obtain ⟨a1, a2⟩ := glE_some (cs := []) hg6 (by rw [hsg]; omega)
 obtain ⟨b1, b2⟩ := glE_some (cs := []) hn (by rw [hs]; exact Nat.le_trans hsz (by decide))
 refine ⟨by rw [dpG_some hn]; omega, hs, ⟨by rw [a1, e6], by rw [a2, e6]⟩, ?_, ?_⟩
 · rw [b1, en]
   by_cases h : (flG l [] 6 g).2 = 0
   · rw [if_pos h]; exact h.symm
   · rw [if_neg h]
 · intro h
   rw [b2, en, if_pos h]
theorem Gw.putK {t : TypeId} {base : Nat} {S : Nat → Prop} {w : World} {v : Value} {L : List (Nat × List Pn)} (h : Gw PkE t base S w v L) (hn : (L.map Prod.fst).Nodup) {i : Nat} (hi : i < L.length) {k j : Nat} {x : Value} {p : Pn} (hk : k < (L.getD i (0, [])).2.length) (hj : j < 3)
    (hrep : (pnC ((L.getD i (0, [])).2.getD k Pn.none)).set j x = pnC p) (hp : PnW p) : Gw PkE t base S (w.setCell ⟨(L.getD i (0, [])).1, k * 3 + j, none⟩ x) v (L.set i ((L.getD i (0, [])).1, (L.getD i (0, [])).2.set k p)) := by
 obtain ⟨vss, hl, h3, h4⟩ := h
 obtain ⟨cap, e1, hS, hg, hb⟩ := h4 i hi
 have ed : L.getD i PkE.dfl = L.getD i (0, []) := rfl
 rw [ed] at e1 hS hg hb
 obtain ⟨⟨q, c⟩, hqc⟩ : ∃ y, L.getD i (0, []) = y := ⟨_, rfl⟩
 rw [hqc] at e1 hS hg hb hk hrep ⊢
 dsimp only at e1 hS hg hb hk hrep ⊢
 have hset := hg.put (i := k) (j := j) (x := x) (y := p) hk hj (fun vs hvs => by
  obtain ⟨rfl, -⟩ := PnE_rep.1 hvs
  exact PnE_rep.2 ⟨hrep, hp⟩)
 have hoth : ∀ b, b ≠ q → (w.setCell ⟨q, k * 3 + j, none⟩ x).heap[b]? = w.heap[b]? := fun b hb => Below.heap_setCell _ _ _ _ (fun e => hb e)
 have hsz : (w.setCell ⟨q, k * 3 + j, none⟩ x).heap.size = w.heap.size := by simp [World.setCell]
 refine ⟨vss, by rw [List.length_set]; exact hl, ⟨by rw [List.length_set]; exact h3.1, ?_⟩, fun m hm => ?_⟩
 · rw [List.length_set]
   rcases h3.2 with h0 | ⟨g, cap', cur, k1, k2, k3, k4⟩
   · exact .inl h0
   · exact .inr ⟨g, cap', cur, k1, k2, (hoth g (fun e => hS.2 (by rw [k1, e]; rfl))).trans k3, k4⟩
 · rw [List.length_set] at hm
   by_cases hmi : m = i
   · subst hmi
     have e2 : (L.set m (q, c.set k p)).getD m PkE.dfl = (q, c.set k p) := by simp [List.getD, hm]
     rw [e2]
     refine ⟨cap, by rw [e1, List.length_set], hS, ?_, by rw [List.length_set]; exact hb⟩
     show Gw PnE _ 0 _ _ (.slice (some ⟨q, 0, none⟩) (c.set k p).length cap) (c.set k p)
     rw [List.length_set]
     exact hset
   · have e2 : (L.set i (q, c.set k p)).getD m PkE.dfl = L.getD m PkE.dfl := by simp [List.getD, List.getElem?_set_ne (fun e => hmi e.symm)]
     rw [e2]
     obtain ⟨cap2, f1, fS, fg, fb⟩ := h4 m hm
     have hne : (L.getD m PkE.dfl).1 ≠ q := by
      intro e
      have h5 : (L.map Prod.fst)[m]? = (L.map Prod.fst)[i]? := by
       rw [List.getElem?_map, List.getElem?_map, List.getElem?_eq_getElem hm, List.getElem?_eq_getElem hi]
       have h6 : L.getD m PkE.dfl = L[m] := by simp [List.getD, hm]
       have h7 : L.getD i (0, []) = L[i] := by simp [List.getD, hi]
       rw [h6] at e; rw [h7] at hqc
       simp [e, hqc]
      exact hmi ((List.getElem?_inj (by rw [List.length_map]; exact hm) hn).1 h5)
     refine ⟨cap2, f1, fS, fg.stay (by rw [hsz]; exact Nat.le_refl _) (fun b h => h.elim) (fun b hb => ?_), fb⟩
     have hb2 : some (L.getD m PkE.dfl).1 = some b := hb
     injection hb2 with hb2; rw [← hb2]
     exact hoth _ hne
theorem set_fst {L : List (Nat × List Pn)} {i : Nat} {c : List Pn} (hi : i < L.length) : (L.set i ((L.getD i (0, [])).1, c)).map Prod.fst = L.map Prod.fst := by
 rw [List.map_set]
 refine List.ext_getElem (by simp) (fun j h1 h2 => ?_)
 by_cases hj : j = i
 · subst hj
   simp [List.getD, hi]
 · rw [List.getElem_set_ne (fun e => hj e.symm)]
theorem Gw.inK {t : TypeId} {base : Nat} {S : Nat → Prop} {w : World} {v : Value} {L : List (Nat × List Pn)} (h : Gw PkE t base S w v L) {i : Nat} (hi : i < L.length) {q : Nat} {c : List Pn} (hq : L.getD i (0, []) = (q, c)) :
    ∃ gv cv cap, v = .slice (some ⟨gv, 0, none⟩) L.length cv ∧ gv < w.heap.size ∧ w.cell? ⟨gv, i, none⟩ = some (.slice (some ⟨q, 0, none⟩) c.length cap) ∧ Gw PnE 65 0 (fun _ => False) w (.slice (some ⟨q, 0, none⟩) c.length cap) c ∧ S q ∧ q ≠ gv := by
 have hne : L ≠ [] := fun e => by rw [e] at hi; simp at hi
 obtain ⟨gv, cv, ev, hg1, hg2, hg3, hg4, hg5, -⟩ := h.own hne
 obtain ⟨vss, hl, h3, h4⟩ := h
 obtain ⟨vs, hr, hc⟩ := hg5 i hi
 obtain ⟨cap, e1, hS, hI, -⟩ := hr
 obtain ⟨cap2, e2, hS2, hI2, -⟩ := h4 i hi
 have ed : L.getD i PkE.dfl = (q, c) := hq
 rw [ed] at e1 hS hI hS2
 refine ⟨gv, cv, cap, ev, hg2, ?_, hI, hS, fun e => hS2.2 (by rw [ev, e]; rfl)⟩
 have := hc 0 Nat.one_pos
 rw [e1, show i * PkE.sz + 0 = i by show i * 1 + 0 = i; omega] at this
 exact this
theorem Gw.ptK {w : World} {q n cap : Nat} {c : List Pn} (h : Gw PnE 65 0 (fun _ => False) w (.slice (some ⟨q, 0, none⟩) n cap) c) {k : Nat} (hk : k < c.length) :
    q < w.heap.size ∧ PnW (c.getD k Pn.none) ∧ w.cell? ⟨q, k * 3, none⟩ = some (.int .i64 (c.getD k Pn.none).x) ∧ w.cell? ⟨q, k * 3 + 1, none⟩ = some (.int .i64 (c.getD k Pn.none).y) ∧ ∀ m, w.frozen? ⟨q, m, none⟩ = false := by
 obtain ⟨b, off, e, h1, h2, h3, h4, -⟩ := h.gr.pn (Below.refl _ _) k hk
 cases e
 obtain ⟨g, cp, ev, -, -, -, hf, -, -⟩ := h.own (fun e => by rw [e] at hk; simp at hk)
 injection ev with e1 _ _
 cases e1
 rw [Nat.zero_add] at h3 h4
 exact ⟨h1, h2, h3, h4, hf⟩
def fg {α : Type} (n : Nat) (f h : Nat → α) (i : Nat) : List α := (List.range n).map (fun j => if j < i then f j else h j)
theorem fg_len {α : Type} (n : Nat) (f h : Nat → α) (i : Nat) : (fg n f h i).length = n := by unfold fg; rw [List.length_map, List.length_range]
theorem fg_get {α : Type} {n : Nat} {f h : Nat → α} {i j : Nat} (d : α) (hj : j < n) : (fg n f h i).getD j d = if j < i then f j else h j := by
 unfold fg
 rw [List.getD_eq_getElem?_getD, List.getElem?_eq_getElem (by simpa using hj)]
 simp
theorem fg_set {α : Type} {n : Nat} {f h : Nat → α} {i : Nat} (z : α) (hz : z = f i) : (fg n f h i).set i z = fg n f h (i + 1) := by
 unfold fg
 refine List.ext_getElem (by simp) (fun j h1 h2 => ?_)
 by_cases hj : j = i
 · subst hj
   simp [hz]
 · rw [List.getElem_set_ne (fun e => hj e.symm)]
   simp only [List.getElem_map, List.getElem_range]
   by_cases h3 : j < i
   · rw [if_pos h3, if_pos (by omega)]
   · rw [if_neg h3, if_neg (by omega)]
theorem fg_zero {α : Type} (l : List α) (d : α) (f : Nat → α) : fg l.length f (fun j => l.getD j d) 0 = l := by
 unfold fg
 refine List.ext_getElem (by simp) (fun j h1 h2 => ?_)
 simp [List.getD, h2]
theorem fg_all {α β : Type} (l : List α) (d : α) (g : α → β) (h : Nat → β) : fg l.length (fun j => g (l.getD j d)) h l.length = l.map g := by
 unfold fg
 refine List.ext_getElem (by simp) (fun j h1 h2 => ?_)
 have hj : j < l.length := by simpa using h1
 simp [List.getD, hj]
theorem getD_set_self {α : Type} {l : List α} {i : Nat} {x d : α} (hi : i < l.length) : (l.set i x).getD i d = x := by simp [List.getD, hi]
theorem wfo_i64_bounds {n : Int} (h : (Lit.int .i64 n).wf = true) : -9223372036854775808 ≤ n ∧ n ≤ 9223372036854775807 := by
 simp [Lit.wf, IntKind.min, IntKind.max, IntKind.bits, IntKind.signed] at h
 omega
open Go.ChangeShapes Go.WideShapes Go.Joins Go.Deep
def Opens {α : Type} (E : El α) (t : TypeId) : Prop :=
 Tryz.prog.cellsOf t = E.sz ∧ ∀ (H : Type) (enc : TypeId × Value → H) (W : World) (held : Bool) (fuel : Nat) (cs : List Value) (x : DataW H × List MemPlace),
  DataW.trod enc Tryz.prog W 0 (fun _ => true) held fuel t cs = some x → (∀ n ∈ x.1.weights Tryz.prog t, n ≤ reachBytes) → ∃ y : α, E.rep (fun k => k < W.heap.size) W cs y
theorem Opens.num {t : TypeId} {k : IntKind} {lo hi : Int} (ht : Tryz.prog.underlying t = some (.int k)) (hc : Tryz.prog.cellsOf t = 1) (hb : ∀ z, (Lit.int k z).wf = true → lo ≤ z ∧ z ≤ hi) : Opens (El.num k lo hi) t :=
 ⟨hc, fun H enc W held fuel cs x h hz => by
  obtain ⟨z, e, _, hw⟩ := DataW.trod_int ht h
  exact ⟨z, e, hb z hw⟩⟩
theorem Opens.int {t : TypeId} (ht : Tryz.prog.underlying t = some (.int .i64)) (hc : Tryz.prog.cellsOf t = 1) : Opens El.int t := Opens.num ht hc (fun z hw => wfo_i64_bounds hw)
theorem Opens.bool {t : TypeId} (ht : Tryz.prog.underlying t = some .bool) (hc : Tryz.prog.cellsOf t = 1) : Opens El.bool t :=
 ⟨hc, fun H enc W held fuel cs x h hz => by
  obtain ⟨z, e, _⟩ := DataW.trod_bool ht h
  exact ⟨z, e⟩⟩
theorem Opens.via {α β : Type} {E : El α} {t : TypeId} (h : Opens E t) {f : β → α} {d : β} (hf : ∀ x, ∃ y, f y = x) : Opens (E.via f d) t :=
 ⟨h.1, fun H enc W held fuel cs x h1 hz => by
  obtain ⟨z, hz⟩ := h.2 H enc W held fuel cs x h1 hz
  obtain ⟨y, rfl⟩ := hf z
  exact ⟨y, hz⟩⟩
theorem list_of_ltG {α : Type} {d : α} {p : Nat → α → Prop} : ∀ n, (∀ i, i < n → ∃ o, p i o) → ∃ os : List α, os.length = n ∧ ∀ i, i < n → p i (os.getD i d) := by
 intro n
 induction n with
 | zero => exact fun _ => ⟨[], rfl, fun i hi => by omega⟩
 | succ n ih =>
  intro h
  obtain ⟨os, hl, ho⟩ := ih (fun i hi => h i (by omega))
  obtain ⟨o, h1⟩ := h n (by omega)
  refine ⟨os ++ [o], by simp [hl], fun i hi => ?_⟩
  by_cases hi' : i < n
  · have e : (os ++ [o]).getD i d = os.getD i d := by simp [List.getD, List.getElem?_append_left (show i < os.length by omega)]
    rw [e]
    exact ho i hi'
  · have e : i = n := by omega
    subst e
    have e : (os ++ [o]).getD i d = o := by simp [List.getD, ← hl]
    rw [e]
    exact h1
theorem weights_all {H : Type} {P : Program} {e : TypeId} {d : DataW H} : ∀ {l : List (DataW H)}, d ∈ l → ∀ {n : Nat}, n ∈ d.weights P e → n ∈ DataW.weightsAll P e l
 | c :: l, h, n, hn => by
  rw [DataW.weightsAll, List.mem_append]
  rcases List.mem_cons.1 h with h | h
  · exact .inl (by rw [← h]; exact hn)
  · exact .inr (weights_all h hn)
theorem Opens.row {α : Type} {E : El α} {t e : TypeId} (h : Opens E e) (ht : Tryz.prog.underlying t = some (.slice e)) (hc : Tryz.prog.cellsOf t = 1) (hsz : 0 < E.sz) (hby : 1 ≤ Tryz.prog.bytesOf e) : Opens E.row t :=
 ⟨hc, fun H enc W held fuel cs x hf hz => by
  rcases open_slice ht hf with ⟨hcs, _⟩ | ⟨ad, len, cap, m, n, D, Pl, hcs, _, hl, hm, hmm, hx, hel⟩
  · exact ⟨[], none, 0, hcs, (fun b o e1 => by cases e1), Gr.nil _ _ _ _ _ (Nat.zero_le _) (fun _ => rfl), Nat.zero_le _⟩
  · have hle : len ≤ m := by rw [hmm]; split <;> omega
    subst hx
    have hzm : ∀ i, i < len → ∀ k ∈ (D i).weights Tryz.prog e, k ≤ reachBytes := by
     intro i hi k hk
     refine hz k ?_
     simp only [DataW.weights, ht, List.mem_cons, List.mem_append]
     exact .inr (.inl (weights_all (List.mem_map.2 ⟨i, List.mem_range.2 hi, rfl⟩) hk))
    have hzl : len ≤ 140737488351232 := by
     have h1 := hz ((((List.range len).map D).length + ((List.range (m - len)).map fun j => D (len + j)).length) * Tryz.prog.bytesOf e) (by simp only [DataW.weights, ht]; exact List.mem_cons_self)
     rw [List.length_map, List.length_map, List.length_range, List.length_range] at h1
     have h2 : (len + (m - len)) * 1 ≤ (len + (m - len)) * Tryz.prog.bytesOf e := Nat.mul_le_mul_left _ hby
     have h3 : reachBytes = 140737488351232 := rfl
     omega
    have hone : ∀ i, i < len → ∃ o : α, ∃ vs, E.rep (fun k => k < W.heap.size) W vs o ∧ ∀ j, j < E.sz → W.cell? ((ad.add (i * E.sz)).add j) = vs[j]? := by
     intro i hi
     obtain ⟨cs', hc', ht'⟩ := hel i (by omega)
     rw [h.1] at hc'
     obtain ⟨hlen, _, hcell⟩ := World.cells?_some hc'
     obtain ⟨o, ho⟩ := h.2 H enc W held n cs' _ ht' (hzm i hi)
     refine ⟨o, cs', ho, fun j hj => ?_⟩
     have := hcell j (by omega)
     rw [this, List.getElem?_eq_getElem (by omega)]
    obtain ⟨os, hol, ho⟩ := list_of_ltG (d := E.dfl) len hone
    have key : ∀ i, i < len → ∃ b off vs, ad = ⟨b, off, none⟩ ∧ b < W.heap.size ∧ E.rep (fun k => k < W.heap.size) W vs (os.getD i E.dfl) ∧ ∀ j, j < E.sz → W.cell? ⟨b, off + i * E.sz + j, none⟩ = vs[j]? := by
     intro i hi
     obtain ⟨vs, h1, h2⟩ := ho i hi
     obtain ⟨b, off, spot⟩ := ad
     have h0 := h2 0 hsz
     have hv : 0 < vs.length := by rw [E.len h1]; exact hsz
     rw [List.getElem?_eq_getElem hv] at h0
     have hspot : spot = none := by
      obtain ⟨vs', h1', h2'⟩ := ho 0 (by omega)
      have h0' := h2' 0 hsz
      rw [List.getElem?_eq_getElem (by rw [E.len h1']; exact hsz)] at h0'
      have := World.cell?_spot h0'
      simpa [Addr.add] using this
     subst hspot
     have hadd : ∀ i, (⟨b, off, none⟩ : Addr).add i = ⟨b, off + i, none⟩ := by intro i; unfold Addr.add; split <;> simp_all
     have hadd2 : ∀ i j, ((⟨b, off, none⟩ : Addr).add i).add j = ⟨b, off + i + j, none⟩ := by intro i j; rw [hadd]; unfold Addr.add; split <;> simp_all
     have hlt := World.block_lt_of_cell? W _ h0
     rw [hadd2] at hlt
     exact ⟨b, off, vs, rfl, hlt, h1, fun j hj => by rw [← hadd2]; exact h2 j hj⟩
    refine ⟨os, some ad, cap, by rw [hcs, hol], fun b o e1 hne => ?_, ⟨by omega, hm, (fun e => by cases e), fun i hi => ?_⟩, by rw [hol]; exact hzl⟩
    · obtain ⟨b', off', _, e2, hb', _⟩ := key 0 (by have := List.length_pos_iff.2 hne; omega)
      rw [e2] at e1
      cases e1
      exact hb'
    · obtain ⟨b, off, vs, e2, hb, h1, h2⟩ := key i (by omega)
      exact ⟨b, off, vs, by rw [e2], hb, h1, h2⟩⟩
def OpensF {α : Type} (E : El α) (fs : List Field) (off : Nat) : Prop :=
 ∀ (H : Type) (enc : TypeId × Value → H) (W : World) (held : Bool) (n : Nat) (cs : List Value), (∀ f ∈ fs, ∃ y, DataW.trod enc Tryz.prog W 0 (fun _ => true) held n f.type ((cs.drop f.offset).take (Tryz.prog.cellsOf f.type)) = some y ∧ ∀ k ∈ y.1.weights Tryz.prog f.type, k ≤ reachBytes) →
  ∃ x : α, E.rep (fun k => k < W.heap.size) W ((cs.drop off).take E.sz) x
theorem OpensF.last {α : Type} {E : El α} {f : Field} {off : Nat} (h : Opens E f.type) (ho : f.offset = off) : OpensF E [f] off := by
 intro H enc W held n cs hy
 obtain ⟨y, hy, hz⟩ := hy f (by simp)
 rw [h.1, ho] at hy
 exact h.2 H enc W held n _ y hy hz
theorem OpensF.more {α β : Type} {E : El α} {F : El β} {f : Field} {fs : List Field} {off : Nat} (h : Opens E f.type) (ho : f.offset = off) (hs : OpensF F fs (off + E.sz)) : OpensF (E.cat F) (f :: fs) off := by
 intro H enc W held n cs hy
 obtain ⟨y, hy0, hz0⟩ := hy f (by simp)
 rw [h.1, ho] at hy0
 obtain ⟨x, hx⟩ := h.2 H enc W held n _ y hy0 hz0
 obtain ⟨z, hz⟩ := hs H enc W held n cs (fun g hg => hy g (by simp [hg]))
 refine ⟨(x, z), (cs.drop off).take E.sz, (cs.drop (off + E.sz)).take F.sz, ?_, hx, hz⟩
 show (cs.drop off).take (E.sz + F.sz) = _
 rw [List.take_add, List.drop_drop]
theorem Opens.struct {α : Type} {E : El α} {t : TypeId} {fs : Array Field} (ht : Tryz.prog.underlying t = some (.struct fs)) (hc : Tryz.prog.cellsOf t = E.sz) (h : OpensF E fs.toList 0) : Opens E t :=
 ⟨hc, fun H enc W held fuel cs x hf hz => by
  obtain ⟨xs, n, _, hx, hl, hlen, hff⟩ := DataW.trod_struct ht hf
  subst hx
  obtain ⟨y, hy⟩ := h H enc W held n cs (fun f hf' => by
   obtain ⟨i, hi, e⟩ := List.getElem_of_mem hf'
   have := hff i f (by rw [← e]; simp)
   have hix : i < xs.length := by simpa [hlen] using hi
   rw [this]
   refine ⟨xs[i]'hix, by rw [List.getElem?_eq_getElem], fun k hk => hz k ?_⟩
   simp only [DataW.weights, ht]
   refine DataW.weights_mem_each (j := i) (t := f.type) (d := (xs[i]'hix).1) ?_ ?_ k hk
   · rw [List.getElem?_map, List.getElem?_eq_getElem hi, e]
     rfl
   · rw [List.getElem?_map, List.getElem?_eq_getElem hix]
     rfl)
  rw [List.drop_zero, List.take_of_length_le (by rw [hl, hc]; exact Nat.le_refl _)] at hy
  exact ⟨y, hy⟩⟩
theorem Opens.agg {α : Type} {E : El α} {t : TypeId} (h : Opens E t) {fs : Array Field} (ht : Tryz.prog.underlying t = some (.struct fs)) {H : Type} {enc : TypeId × Value → H} {W : World} {held : Bool} {r : Reach} {b0 : Nat} {v : Value} {d : DataW H} {p : List MemPlace}
    (hv : Value.okWide Tryz.prog W r b0 t v) (hd : DataW.Trod enc Tryz.prog W 0 (fun _ => true) held t v d p) (hz : ∀ n ∈ d.weights Tryz.prog t, n ≤ reachBytes) : ∃ (cs : Array Value) (y : α), v = .agg cs ∧ E.rep (fun k => k < W.heap.size) W cs.toList y := by
 obtain ⟨cs, rfl, hsz⟩ := okWide_struct ht hv
 obtain ⟨fuel, hf⟩ := hd
 obtain ⟨y, hy⟩ := h.2 H enc W held fuel _ _ hf hz
 exact ⟨cs, y, rfl, by simpa [Value.cells] using hy⟩
theorem opens_int : Opens El.int 3 := Opens.int Tryz.underlying3 (by kernel_rfl)
theorem opens_bool : Opens El.bool 4 := Opens.bool Tryz.underlying4 (by kernel_rfl)
theorem opens_pn : Opens PnE 65 :=
 (Opens.struct (E := El.int.cat (El.int.cat El.bool)) Tryz.underlying65 (by kernel_rfl) (OpensF.more opens_int rfl (OpensF.more opens_int rfl (OpensF.last opens_bool rfl)))).via (fun x => ⟨⟨x.1, x.2.1, x.2.2⟩, rfl⟩)
theorem opens_pa : Opens PaE 54 :=
 (Opens.struct (E := El.int.cat (El.int.cat El.int)) Tryz.underlying54 (by kernel_rfl) (OpensF.more opens_int rfl (OpensF.more opens_int rfl (OpensF.last opens_int rfl)))).via (fun x => ⟨⟨x.1, x.2.1, x.2.2⟩, rfl⟩)
theorem opens_pns : Opens PnE.row 63 := Opens.row opens_pn Tryz.underlying63 (by kernel_rfl) (by decide) (of_decide_eq_true (by kernel_rfl))
theorem opens_pnss : Opens PnE.row.row 37 := Opens.row opens_pns Tryz.underlying37 (by kernel_rfl) Nat.one_pos (of_decide_eq_true (by kernel_rfl))
theorem opens_pas : Opens PaE.row 55 := Opens.row opens_pa Tryz.underlying55 (by kernel_rfl) (by decide) (of_decide_eq_true (by kernel_rfl))
theorem opens_outline : Opens (PnE.row.row.cat PaE.row) 57 :=
 Opens.struct Tryz.underlying57 (by kernel_rfl) (OpensF.more opens_pnss rfl (OpensF.last opens_pas rfl))
theorem array2' {α : Type} {cs : Array α} (h : cs.size = 2) : ∃ x y, cs = #[x, y] := by
 rcases cs with ⟨l⟩
 rcases l with _ | ⟨x, _ | ⟨y, _ | ⟨z, l⟩⟩⟩
 · simp at h
 · simp at h
 · exact ⟨x, y, rfl⟩
 · simp at h
theorem open_by {H : Type} {enc : TypeId × Value → H} {W : World} {held : Bool} {r : Reach} {b0 : Nat} {v : Value} {d : DataW H} {p : List MemPlace}
    (hv : Value.okWide Tryz.prog W r b0 52 v) (h : DataW.Trod enc Tryz.prog W 0 (fun _ => true) held 52 v d p) :
    ∃ x y : Int, v = .agg #[.int .i8 x, .int .i8 y] ∧ (-128 ≤ x ∧ x < 128) ∧ (-128 ≤ y ∧ y < 128) := by
 have hC : Tryz.prog.cellsOf 52 = 2 := by kernel_rfl
 have hc : Tryz.prog.cellsOf 51 = 1 := by kernel_rfl
 simp only [Value.okWide, Tryz.underlying52] at hv
 obtain ⟨cs, rfl, hsz, _⟩ := hv
 obtain ⟨c0, c1, rfl⟩ := array2' (hsz.trans hC)
 obtain ⟨fuel, hf⟩ := h
 obtain ⟨zs, m, _, _, _, hl, ht⟩ := DataW.trod_array Tryz.underlying52 hf
 have h0 := ht 0 (by decide)
 have h1 := ht 1 (by decide)
 rw [hc] at h0 h1
 rw [List.getElem?_eq_getElem (by omega)] at h0 h1
 obtain ⟨x, e0, _, w0⟩ := DataW.trod_int Tryz.underlying51 h0
 obtain ⟨y, e1, _, w1⟩ := DataW.trod_int Tryz.underlying51 h1
 simp [Value.cells] at e0 e1
 subst e0 e1
 simp [Lit.wf, IntKind.min, IntKind.max, IntKind.bits, IntKind.signed] at w0 w1
 exact ⟨x, y, rfl, by omega, by omega⟩
theorem opens_is : Opens El.int.row 29 := Opens.row opens_int Tryz.underlying29 (by kernel_rfl) Nat.one_pos (of_decide_eq_true (by kernel_rfl))
theorem opens_te : Opens TeE 146 :=
 (Opens.struct (E := El.int.cat (El.int.cat El.int)) Tryz.underlying146 (by kernel_rfl) (OpensF.more opens_int rfl (OpensF.more opens_int rfl (OpensF.last opens_int rfl)))).via (fun x => ⟨⟨x.1, x.2.1, x.2.2⟩, rfl⟩)
theorem opens_tes : Opens TeE.row 116 := Opens.row opens_te Tryz.underlying116 (by kernel_rfl) (by decide) (of_decide_eq_true (by kernel_rfl))
theorem opens_tu : Opens TuE 144 :=
 (Opens.struct (E := TeE.row.cat (El.bool.cat (El.int.row.cat (El.int.row.cat El.int.row)))) Tryz.underlying144 (by kernel_rfl) (OpensF.more opens_tes rfl (OpensF.more opens_bool rfl (OpensF.more opens_is rfl (OpensF.more opens_is rfl (OpensF.last opens_is rfl)))))).via (fun x => ⟨⟨x.1, x.2.1, x.2.2.1, x.2.2.2.1, x.2.2.2.2⟩, rfl⟩)
theorem opens_tus : Opens TuE.row 58 := Opens.row opens_tu Tryz.underlying58 (by kernel_rfl) (by decide) (of_decide_eq_true (by kernel_rfl))
end Go.Proofs.YtkmcodofnckdmaaGreat
