/-
  foundrylaw15.GlyphsRing: the walk.
-/
import Derived.Test.YtkmcodofnckdmaaGreatZR29
import Derived.Test.YtkmcodofnckdmaaGreatZR30
set_option maxHeartbeats 8000000
set_option maxRecDepth 100000
set_option linter.unusedSimpArgs false
set_option linter.unusedVariables false
namespace Go.Proofs.YtkmcodofnckdmaaGreat
open Go.RowKit Go.Maps
theorem Gw.put {α : Type} {E : El α} {t : TypeId} {base : Nat} {S : Nat → Prop} {w : World} {g n cap : Nat} {l : List α} (h : Gw E t base S w (.slice (some ⟨g, 0, none⟩) n cap) l) {i j : Nat} {x : Value} {y : α} (hi : i < l.length) (hj : j < E.sz)
    (hrep : ∀ vs, E.rep (fun k => S k ∧ k ≠ g) w vs (l.getD i E.dfl) → E.rep (fun k => S k ∧ k ≠ g) w (vs.set j x) y) : Gw E t base S (w.setCell ⟨g, i * E.sz + j, none⟩ x) (.slice (some ⟨g, 0, none⟩) n cap) (l.set i y) := by
 obtain ⟨vss, hl, h3, h4⟩ := h
 have hS1 : ∀ {vs z} {U : World}, E.rep (fun k => S k ∧ (Value.slice (some ⟨g, 0, none⟩) n cap).ownBlock ≠ some k) U vs z → E.rep (fun k => S k ∧ k ≠ g) U vs z := fun h => E.stay h (Nat.le_refl _) (fun k hk _ => ⟨⟨hk.1, fun e => hk.2 (by rw [e]; rfl)⟩, rfl⟩)
 have hS2 : ∀ {vs z} {U : World}, E.rep (fun k => S k ∧ k ≠ g) U vs z → E.rep (fun k => S k ∧ (Value.slice (some ⟨g, 0, none⟩) n cap).ownBlock ≠ some k) U vs z := fun h => E.stay h (Nat.le_refl _) (fun k hk _ => ⟨⟨hk.1, fun e => hk.2 (Option.some.inj e).symm⟩, rfl⟩)
 have h5 : ∀ i, i < vss.length → (vss.getD i []).length = E.sz := fun i hi => E.len (h4 i (by omega))
 rcases h3.2 with ⟨e0, e1⟩ | ⟨g', cap', cur, e0, hb, hg, hc1, hc2, hc3, ht⟩
 · cases e0
 · cases e0
   have hset := heap_setCell_same w g (i * E.sz + j) cur t x hg
   have hoth : ∀ k, k ≠ g → (w.setCell ⟨g, i * E.sz + j, none⟩ x).heap[k]? = w.heap[k]? := fun k hk => Below.heap_setCell _ _ _ _ (fun e => hk e)
   have hsz : (w.setCell ⟨g, i * E.sz + j, none⟩ x).heap.size = w.heap.size := by simp [World.setCell]
   have hst : ∀ vs z, E.rep (fun k => S k ∧ k ≠ g) w vs z → E.rep (fun k => S k ∧ k ≠ g) (w.setCell ⟨g, i * E.sz + j, none⟩ x) vs z := fun vs z hz => E.stay hz (by rw [hsz]; exact Nat.le_refl _) (fun k hk _ => ⟨hk, hoth k hk.2⟩)
   have hfl := flat_set (i := i) (j := j) x h5 (by omega) hj
   refine ⟨vss.set i ((vss.getD i []).set j x), by rw [List.length_set, List.length_set, hl], ⟨?_, .inr ⟨g, cap, _, by rw [List.length_set], hb, hset, by simpa using hc1, hc2, by simpa using hc3, ?_⟩⟩, fun k hk => ?_⟩
   · rw [hfl, List.length_set, List.length_set]; exact h3.1
   · rw [hfl, List.length_set, ← ht]
     simp [List.take_set]
   · rw [List.length_set] at hk
     by_cases hki : k = i
     · subst hki
       have e1 : (vss.set k ((vss.getD k []).set j x)).getD k [] = (vss.getD k []).set j x := by simp [List.getD, show k < vss.length by omega]
       have e2 : (l.set k y).getD k E.dfl = y := by simp [List.getD, hk]
       rw [e1, e2]
       exact hS2 (hst _ _ (hrep _ (hS1 (h4 k hk))))
     · have e1 : (vss.set i ((vss.getD i []).set j x)).getD k [] = vss.getD k [] := by simp [List.getD, List.getElem?_set_ne (fun e => hki e.symm)]
       have e2 : (l.set i y).getD k E.dfl = l.getD k E.dfl := by simp [List.getD, List.getElem?_set_ne (fun e => hki e.symm)]
       rw [e1, e2]
       exact hS2 (hst _ _ (hS1 (h4 k hk)))
theorem info_gl : (Tryz.prog.info? 62).map (fun i => (i.zero, i.size, i.bytes)) = some (some (.agg #[.slice none 0 0, .slice none 0 0, .slice none 0 0, .int .i64 0, .int .i64 0, .bool false]), 6, 96) := by kernel_rfl
def gP (ps : List Pa) : Gl := ⟨⟨[], ps⟩, [], 0, 0, false⟩
theorem i64z : I64 0 := ⟨by decide, by decide⟩
theorem gP_rep {S : Nat → Prop} {w : World} {pa : Option Addr} {pc : Nat} {ps : List Pa} (h : Gr PaE S w pa pc ps) (hS : ∀ b o, pa = some ⟨b, o, none⟩ → ps ≠ [] → S b) (hl : ps.length ≤ 1000) : GlE.rep S w [.slice none 0 0, .slice pa ps.length pc, .slice none 0 0, .int .i64 0, .int .i64 0, .bool false] (gP ps) :=
 GlE_rep.2 ⟨none, 0, pa, pc, none, 0, rfl, ⟨_, _, rfl, (fun _ _ _ hne => absurd rfl hne), Gr.nil _ _ _ _ _ (Nat.zero_le _) (fun _ => rfl), Nat.zero_le _⟩, ⟨_, _, rfl, hS, h, Nat.le_trans hl (by decide)⟩, ⟨_, _, rfl, (fun _ _ _ hne => absurd rfl hne), Gr.nil _ _ _ _ _ (Nat.zero_le _) (fun _ => rfl), Nat.zero_le _⟩, i64z, i64z⟩
theorem pa_one {S : Nat → Prop} {w : World} {g : Nat} {z dx dy : Int} (h : Bk 54 w g [.int .i64 z, .int .i64 dx, .int .i64 dy]) (hz : I64 z) (hx : I64 dx) (hy : I64 dy) : Gr PaE S w (some ⟨g, 0, none⟩) 1 [⟨z, dx, dy⟩] :=
 Gr.one (vs := paC ⟨z, dx, dy⟩) (PaE_rep.2 ⟨rfl, hz, hx, hy⟩) h.lt (fun j hj => h.cell j hj)
def cgK (i : Nat) : List Gl := (List.range i).map (fun j : Nat => gP [⟨(j : Int) + 1, 0, 0⟩])
theorem cgK_succ (i : Nat) : cgK (i + 1) = cgK i ++ [gP [⟨(i : Int) + 1, 0, 0⟩]] := by unfold cgK; rw [List.range_succ, List.map_append]; rfl
theorem cgK_len (i : Nat) : (cgK i).length = i := by unfold cgK; simp
def rgL (k : Nat) (ring : Bool) : List Gl := cgK k ++ [gP (if ring then [⟨0, 0, 0⟩] else [])]
theorem rgL_len (k : Nat) (ring : Bool) : (rgL k ring).length = k + 1 := by unfold rgL; rw [List.length_append, cgK_len]; rfl
theorem rgL_get {k : Nat} {ring : Bool} {i : Nat} (hi : i < k) : (rgL k ring).getD i Gl.none = gP [⟨(i : Int) + 1, 0, 0⟩] := by
 unfold rgL cgK
 rw [List.getD_eq_getElem?_getD, List.getElem?_append_left (by simpa using hi)]
 simp [hi]
theorem rgL_last (k : Nat) (ring : Bool) : (rgL k ring).getD k Gl.none = gP (if ring then [⟨0, 0, 0⟩] else []) := by
 unfold rgL
 rw [List.getD_eq_getElem?_getD, List.getElem?_append_right (by rw [cgK_len]; exact Nat.le_refl _), cgK_len, Nat.sub_self]
 rfl
theorem rgL_set (k : Nat) : (rgL k false).set k (gP [⟨0, 0, 0⟩]) = rgL k true := by
 unfold rgL
 rw [List.set_append_right _ _ (by rw [cgK_len]; exact Nat.le_refl _), cgK_len, Nat.sub_self]
 rfl
theorem rgL_mem {k : Nat} {ring : Bool} {x : Gl} (hx : x ∈ rgL k ring) : x.o.cs = [] ∧ x.o.ps.length ≤ 12 := by
 unfold rgL at hx
 rcases List.mem_append.1 hx with hx | hx
 · unfold cgK at hx
   obtain ⟨j, _, rfl⟩ := List.mem_map.1 hx
   exact ⟨rfl, by show 1 ≤ 12; omega⟩
 · rw [List.mem_singleton.1 hx]
   cases ring
   · exact ⟨rfl, by show 0 ≤ 12; omega⟩
   · exact ⟨rfl, by show 1 ≤ 12; omega⟩
def wnt (k : Nat) (ring : Bool) (i : Nat) : Int := if (ring || decide ((6 : Int) < ((k - i : Nat) : Int))) = true then -1 else ((k - i : Nat) : Int)
theorem rg_dp {k : Nat} {ring : Bool} {i : Nat} (hi : i ≤ k) : dpG (rgL k ring) (i : Int) = wnt k ring i := by
 unfold wnt
 cases ring with
 | true =>
  rw [Bool.true_or, if_pos rfl]
  refine dpG_none (dq_ring (fun j hj => ?_) 6 i (by rw [rgL_len]; omega))
  rw [rgL_len] at hj ⊢
  by_cases hjk : j < k
  · rw [rgL_get hjk]
    exact ⟨_, rfl, by show 0 ≤ (j : Int) + 1; omega, by show (j : Int) + 1 < _; omega⟩
  · rw [show j = k by omega, rgL_last]
    exact ⟨_, rfl, by show (0 : Int) ≤ 0; omega, by show (0 : Int) < _; omega⟩
 | false =>
  have h := dq_chain (l := rgL k false) (k := k) (rgL_len _ _) (fun j hj => ⟨0, 0, by rw [rgL_get hj]; show [(⟨(j : Int) + 1, 0, 0⟩ : Pa)] = _; rw [show ((j + 1 : Nat) : Int) = (j : Int) + 1 by omega]⟩) (by rw [rgL_last]; rfl) (k - i) i (by omega)
  have h6 := dq_at (m := 6) h
  rw [Bool.false_or]
  by_cases hk : k - i ≤ 6
  · rw [decide_eq_false (by omega), if_neg (by decide)]
    exact dpG_some (by rw [h6, if_pos hk])
  · rw [decide_eq_true (by omega), if_pos rfl]
    exact dpG_none (by rw [h6, if_neg hk])
theorem rg_sz (k : Nat) (ring : Bool) (g : Int) : szG (rgL k ring) g = 0 := szG_nil (fun x hx => (rgL_mem hx).1) g
theorem rg_fo {k : Nat} {ring : Bool} {s : Sr} {ax : Int} (h : foG (rgL k ring) s ax = true) : ring = false ∧ k ≤ 6 := by
 have h1 := (foGx_iff.1 ((foG_iff.1 h).2.2 0 (by rw [rgL_len]; omega))).1
 have h2 := rg_dp (k := k) (ring := ring) (i := 0) (Nat.zero_le _)
 have h3 : (dpG (rgL k ring) ((0 : Nat) : Int)) ≠ -1 := by
  intro e
  cases hd : dq (rgL k ring) 6 ((0 : Nat) : Int) with
  | none => rw [hd] at h1; cases h1
  | some d => rw [dpG_some hd] at e; omega
 rw [h2] at h3
 unfold wnt at h3
 by_cases hc : (ring || decide ((6 : Int) < ((k - 0 : Nat) : Int))) = true
 · rw [if_pos hc] at h3
   exact absurd rfl h3
 · rw [Bool.not_eq_true, Bool.or_eq_false_iff, decide_eq_false_iff_not] at hc
   exact ⟨hc.1, by omega⟩
theorem tzz_nil (w : World) : Tzz w none 0 [] := by
 unfold Tzz
 simp [maxLen]
theorem rii_nil (w : World) : Rii w none 0 [] := by
 unfold Rii
 simp [maxLen]
theorem glyphsRing_any (nn : Int) (ring : Bool) (w : World) (hnn : 0 ≤ nn ∧ nn < 256) :
    Calls Tryz.prog 8 #[.int .u8 nn, .bool ring] w fun e w' => e = .returned (.bool true) ∧ Below w.heap.size w w' := by
 obtain ⟨h0, h1⟩ := hnn
 obtain ⟨r, hr⟩ : ∃ r : Nat, nn.tmod 30 = (r : Int) := ⟨(nn.tmod 30).toNat, by rw [Int.tmod_eq_emod_of_nonneg h0]; omega⟩
 have hr30 : r < 30 := by rw [Int.tmod_eq_emod_of_nonneg h0] at hr; omega
 go_enter Tryz.func8, Tryz.ntmps8
 go_wp2_with fail
 refine (awake15_any w).mono ?_
 rintro e m1 ⟨rfl, hb1⟩
 have hw8 : IntKind.i64.wrap (r : Int) = (r : Int) := wrapi64 (by omega) (by omega)
 have HB1 : Hid (Below w.heap.size w m1) := hb1
 obtain ⟨k, hk⟩ : ∃ k : Nat, 1 + (r : Int) = (k : Int) := ⟨1 + r, by omega⟩
 have hk30 : k ≤ 30 := by omega
 clear hb1
 go_upto_region 5 with fail
 clear hw8 hr
 obtain ⟨B, hBe⟩ : ∃ b, m1.heap.size = b := ⟨_, rfl⟩
 have HBE : Hid (m1.heap.size = B) := hBe
 clear hBe hk; go_wp2
 go_loopw [6, 7] (fun v i wr => ∃ j : Nat, j ≤ k ∧ i = .int .i64 j ∧ Gw GlE 62 B (fun q => B ≤ q) wr v (cgK j) ∧ Below m1.heap.size m1 wr) (fun _ i _ => k - (intOf i).toNat)
 case atStart => exact ⟨0, Nat.zero_le _, rfl, Gw.nil _ _ _ _ _, Below.refl _ _⟩
 case round =>
  obtain ⟨j, hj, rfl, hG, hB⟩ := hrel; obtain ⟨av, cv, rfl, -, -⟩ := hG.slice
  have HLO : Hid (∀ q, (Value.slice av (cgK j).length cv).ownBlock = some q → B ≤ q ∧ q < wr.heap.size) := fun q e => hG.lo e
  have hBs : B ≤ wr.heap.size := by rw [← HBE.out]; exact hB.size
  by_cases hjk : j < k
  · obtain ⟨U1, hU1, X1, b1⟩ : ∃ V, V = wr.alloc (.cells #[.int .i64 ((j : Int) + 1), .int .i64 0, .int .i64 0] 54) ∧ Bk 54 V wr.heap.size [.int .i64 ((j : Int) + 1), .int .i64 0, .int .i64 0] ∧ Below wr.heap.size wr V := ⟨_, rfl, Bk.new _ _ _, bl1 _⟩
    obtain ⟨U2, hU2, X2, b2⟩ : ∃ V, V = U1.alloc (.cells #[.slice none 0 0, .slice (some ⟨wr.heap.size, 0, none⟩) 1 1, .slice none 0 0, .int .i64 0, .int .i64 0, .bool false] 62) ∧ Bk 62 V U1.heap.size [.slice none 0 0, .slice (some ⟨wr.heap.size, 0, none⟩) 1 1, .slice none 0 0, .int .i64 0, .int .i64 0, .bool false] ∧ Below U1.heap.size U1 V := ⟨_, rfl, Bk.new _ _ _, bl1 _⟩
    have s1 : wr.heap.size + 1 = U1.heap.size := by rw [hU1]; simp
    have HS1 : Hid (wr.heap.size + 1 = U1.heap.size) := s1
    have hG2 := (hG.below b1).below b2
    have X1' := X1.below b2
    have hrep := gP_rep (S := fun q => B ≤ q ∧ (Value.slice av (cgK j).length cv).ownBlock ≠ some q) (pa_one X1' ⟨by omega, by omega⟩ i64z i64z) (fun b o e _ => by cases e; exact ⟨hBs, fun e => by have := (HLO.out _ e).2; omega⟩) (by show 1 ≤ 1000; omega)
    have hone := Gr.one (E := GlE) hrep X2.lt (fun j hj => X2.cell j hj)
    have hB2 : Below m1.heap.size m1 U2 := (hB.trans (b1.mono hB.size)).trans (b2.mono (Nat.le_trans hB.size b1.size))
    have hbs : B ≤ U2.heap.size := by rw [← HBE.out]; exact hB2.size
    have hll : (cgK j).length + 1 ≤ 1000000 := by rw [cgK_len]; omega
    have HU1 : Hid (_ = _) := hU1
    have HU2 : Hid (_ = _) := hU2
    have HCK : Hid (cgK (j + 1) = cgK j ++ [gP [⟨(j : Int) + 1, 0, 0⟩]]) := cgK_succ j
    clear X1 X1' X2 hrep s1 hU1 hU2 hG b1 b2
    generalize cgK j = ck at *
    go_wp2_with (at_builtin; rw [← HU1.out]; try rw [HS1.out]
                 rw [← HU2.out]; refine wpList_append_el 22 62 Tryz.underlying22 info_gl rfl (by decide) (by decide) rfl _ _ rfl B (fun q => B ≤ q) _ ck rfl hG2 (some ⟨U1.heap.size, 0, none⟩) 1 1 [gP [⟨(j : Int) + 1, 0, 0⟩]] rfl rfl hone hll hbs ?_)
    intro v9 w9 hT9 hgrow _
    have hB9 : Below m1.heap.size m1 w9 := by
     have e : (World.alloc (World.alloc wr (.cells #[.int .i64 ((j : Int) + 1), .int .i64 0, .int .i64 0] 54)) (.cells #[.slice none 0 0, .slice (some ⟨wr.heap.size, 0, none⟩) 1 1, .slice none 0 0, .int .i64 0, .int .i64 0, .bool false] 62)) = U2 := by rw [← HU1.out, ← HU2.out]
     try rw [e] at hgrow
     exact hB2.grown hgrow hB2.size (fun q hq => by rw [HBE.out]; exact (HLO.out q hq).1)
    rw [← HCK.out] at hT9; clear hgrow hG2 hone hbs hll hB2 HU1 HU2 HCK HS1; go_wp2
    go_roundw
    case rel => exact ⟨j + 1, by omega, by go_num, hT9, hB9⟩
    case measure => simp [intOf]; omega
  · have ej : j = k := by omega
    have g1 : ¬ (j : Int) < (k : Int) := by omega
    obtain ⟨U2, hU2, X2, b2⟩ : ∃ V, V = wr.alloc (.cells #[.slice none 0 0, .slice none 0 0, .slice none 0 0, .int .i64 0, .int .i64 0, .bool false] 62) ∧ Bk 62 V wr.heap.size [.slice none 0 0, .slice none 0 0, .slice none 0 0, .int .i64 0, .int .i64 0, .bool false] ∧ Below wr.heap.size wr V := ⟨_, rfl, Bk.new _ _ _, bl1 _⟩
    have hrep := gP_rep (S := fun q => B ≤ q ∧ (Value.slice av (cgK j).length cv).ownBlock ≠ some q) (w := U2) (pa := none) (pc := 0) (ps := []) (Gr.nil _ _ _ _ _ (Nat.zero_le _) (fun _ => rfl)) (fun _ _ _ hne => absurd rfl hne) (Nat.zero_le _)
    have hone := Gr.one (E := GlE) hrep X2.lt (fun j hj => X2.cell j hj)
    have hG2 := hG.below b2
    have hB2 : Below m1.heap.size m1 U2 := hB.trans (b2.mono hB.size)
    have hbs : B ≤ U2.heap.size := by rw [← HBE.out]; exact hB2.size
    have hll : (cgK j).length + 1 ≤ 1000000 := by rw [cgK_len]; omega
    have HRG : Hid (cgK j ++ [gP []] = rgL k false) := by show _ = _; rw [ej]; rfl
    have HU2 : Hid (_ = _) := hU2
    clear X2 hrep hU2 hG b2 ej hj hjk
    generalize cgK j = ck at *
    go_wp2_with (at_builtin; rw [← HU2.out]; refine wpList_append_el 22 62 Tryz.underlying22 info_gl rfl (by decide) (by decide) rfl _ _ rfl B (fun q => B ≤ q) _ ck rfl hG2 (some ⟨wr.heap.size, 0, none⟩) 1 1 [gP []] rfl rfl hone hll hbs ?_)
    intro v9 w9 hT9 hgrow _
    have hB9 : Below m1.heap.size m1 w9 := by
     have e : (World.alloc wr (.cells #[.slice none 0 0, .slice none 0 0, .slice none 0 0, .int .i64 0, .int .i64 0, .bool false] 62)) = U2 := by rw [← HU2.out]
     try rw [e] at hgrow
     exact hB2.grown hgrow hB2.size (fun q hq => by rw [HBE.out]; exact (HLO.out q hq).1)
    rw [HRG.out] at hT9; clear hgrow hG2 hone hbs hll hB2 HU2 HRG HLO hB hBs
    obtain ⟨g9, c9, e9, hg9a, hg9b, hg9c, hfr9, hcl9, -⟩ := hT9.own (by intro e; have := congrArg List.length e; rw [rgL_len] at this; cases this)
    rw [rgL_len] at e9; subst e9
    go_upto_if 34 with fail
    go_cut [] from 35 (fun wx => Gw GlE 62 B (fun q => B ≤ q) wx (.slice (some ⟨g9, 0, none⟩) (k + 1) c9) (rgL k ring) ∧ Below m1.heap.size m1 wx)
    case first =>
     cases ring with
     | false =>
      go_wp2
      go_meet
      exact ⟨hT9, hB9⟩
     | true =>
      obtain ⟨U1, hU1, X1, b1⟩ : ∃ V, V = w9.alloc (.cells #[.int .i64 0, .int .i64 0, .int .i64 0] 54) ∧ Bk 54 V w9.heap.size [.int .i64 0, .int .i64 0, .int .i64 0] ∧ Below w9.heap.size w9 V := ⟨_, rfl, Bk.new _ _ _, bl1 _⟩
      have hT1 := hT9.below b1
      have hB1 := hB9.trans (b1.mono hB9.size)
      obtain ⟨z9, hz9⟩ : ∃ z, w9.cell? ⟨g9, k * 6 + 1, none⟩ = some z := by
       obtain ⟨vs, hvs, hc⟩ := hcl9 k (by rw [rgL_len]; omega)
       obtain ⟨ca, cc, pa, pc, ta, tc, rfl, -⟩ := GlE_rep.1 hvs
       exact ⟨_, hc 1 (by decide)⟩
      have hfz := hfr9 (k * 6 + 1)
      have hpr : Gr PaE (fun q => B ≤ q ∧ q ≠ g9) U1 (some ⟨w9.heap.size, 0, none⟩) 1 [⟨0, 0, 0⟩] := pa_one X1 i64z i64z i64z
      have hput := hT1.put (i := k) (j := 1) (x := .slice (some ⟨w9.heap.size, 0, none⟩) 1 1) (y := gP [⟨0, 0, 0⟩]) (by rw [rgL_len]; omega) (by decide) (fun vs hvs => by
       rw [show GlE.dfl = Gl.none from rfl, rgL_last] at hvs
       obtain ⟨ca, cc, pa, pc, ta, tc, rfl, h1, -, h3, h4, h5⟩ := GlE_rep.1 hvs
       exact GlE_rep.2 ⟨ca, cc, some ⟨w9.heap.size, 0, none⟩, 1, ta, tc, rfl, h1, ⟨_, _, rfl, (fun b o e _ => by cases e; exact ⟨by omega, by omega⟩), hpr, by decide⟩, h3, h4, h5⟩)
      rw [rgL_set] at hput
      have hBU : Below m1.heap.size m1 (U1.setCell ⟨g9, k * 6 + 1, none⟩ (.slice (some ⟨w9.heap.size, 0, none⟩) 1 1)) := hB1.setCell (p := ⟨g9, k * 6 + 1, none⟩) (by rw [HBE.out]; exact hg9a) _
      rw [hU1, World.setCell_alloc_past _ _ _ _ hg9b] at hput hBU
      have HPU : Hid (Gw GlE 62 B (fun q => B ≤ q) ((w9.setCell ⟨g9, k * 6 + 1, none⟩ (.slice (some ⟨w9.heap.size, 0, none⟩) 1 1)).alloc (.cells #[.int .i64 0, .int .i64 0, .int .i64 0] 54)) (.slice (some ⟨g9, 0, none⟩) (k + 1) c9) (rgL k true)) := hput
      have HBU : Hid (Below m1.heap.size m1 ((w9.setCell ⟨g9, k * 6 + 1, none⟩ (.slice (some ⟨w9.heap.size, 0, none⟩) 1 1)).alloc (.cells #[.int .i64 0, .int .i64 0, .int .i64 0] 54))) := hBU
      have i1 : (0 : Int) ≤ (k : Int) := by omega
      have i2 : (k : Int) < ((k + 1 : Nat) : Int) := by omega
      have hne9 : g9 ≠ w9.heap.size := by omega
      clear hput hpr X1 b1 hT1 hB1 hT9 hB9 hcl9 hfr9 hU1 hBU; go_wp2
      go_meet
      exact ⟨HPU.out, HBU.out⟩
    case rest =>
     obtain ⟨hG, hB⟩ := hcut; clear hT9 hB9 hcl9 hfr9
     have HG : Hid (Gw GlE 62 B (fun q => B ≤ q) wc (.slice (some ⟨g9, 0, none⟩) (k + 1) c9) (rgL k ring)) := hG
     have hgr := hG.gr
     have HGR : Hid (Gr GlE (fun q => B ≤ q) wc (some ⟨g9, 0, none⟩) c9 (rgL k ring)) := hgr
     have HPS : Hid (∀ x ∈ rgL k ring, x.o.ps.length ≤ 12) := fun x hx => (rgL_mem hx).2
     have HDP : Hid (∀ i, i ≤ k → dpG (rgL k ring) (i : Int) = wnt k ring i) := fun i hi => rg_dp hi
     have HSZ : Hid (∀ g, szG (rgL k ring) g = 0) := fun g => rg_sz k ring g
     have HFO : Hid (foG (rgL k ring) ⟨[], []⟩ 0 = true → ring = false ∧ k ≤ 6) := rg_fo
     have HLE : Hid ((rgL k ring).length = k + 1) := rgL_len k ring
     have HB0 : Hid (Below m1.heap.size m1 wc) := hB
     clear hG hgr hB HG
     generalize rgL k ring = LL at *
     go_wp2
     go_loopw [8] (fun s wr => ∃ i : Nat, i ≤ k + 1 ∧ s = .int .i64 i ∧ Below wc.heap.size wc wr) (fun s _ => k + 1 - (intOf s).toNat)
     case atStart => exact ⟨0, Nat.zero_le _, rfl, Below.refl _ _⟩
     case round =>
      obtain ⟨i, hi, rfl, hB⟩ := hrel
      by_cases hik : i ≤ k
      · have g2 : (i : Int) ≤ (k : Int) := by omega
        have hd := fun U (hU : Below wc.heap.size wc U) => gdepth_any (fun q => B ≤ q) (some ⟨g9, 0, none⟩) c9 LL (i : Int) U (HGR.out.below hU) HPS.out ⟨by omega, by omega⟩
        have hs := fun U (hU : Below wc.heap.size wc U) => gsize_any (fun q => B ≤ q) (some ⟨g9, 0, none⟩) c9 LL (i : Int) U (HGR.out.below hU) HPS.out ⟨by omega, by omega⟩
        rw [HDP.out i hik, HLE.out] at hd; rw [HSZ.out, HLE.out] at hs
        obtain ⟨d, hd0⟩ : ∃ d : Nat, (k : Int) - (i : Int) = (d : Int) := ⟨k - i, by omega⟩
        have hdk : k - i = d := by omega
        have HW : Hid (wnt k ring i = if (ring || decide ((6 : Int) < (d : Int))) = true then -1 else (d : Int)) := by show _ = _; unfold wnt; rw [hdk]
        rw [HW.out] at hd; clear hdk HW
        cases hrg : (ring || decide ((6 : Int) < (d : Int))) with
        | true =>
         rw [hrg, if_pos rfl] at hd
         have FIN : ∀ e : Bool, e = true → True := fun _ _ => trivial
         clear FIN
         cases ring with
         | true =>
          clear hrg
          go_wp2_with fail
          refine (hd _ hB).mono ?_
          rintro e u1 ⟨rfl, hb1⟩
          replace hB := hB.trans (hb1.mono hB.size)
          go_wp2_with fail
          refine (hs _ hB).mono ?_
          rintro e u2 ⟨rfl, hb2⟩
          replace hB := hB.trans (hb2.mono hB.size)
          clear hd hs hb1 hb2; go_wp2
          go_roundw
          case rel => exact ⟨i + 1, by omega, by go_num, hB⟩
          case measure => simp [intOf]; omega
         | false =>
          have g3 : decide ((6 : Int) < (d : Int)) = true := by simpa using hrg
          have g4 : (6 : Int) < (d : Int) := by simpa using hrg
          clear hrg
          go_wp2_with fail
          refine (hd _ hB).mono ?_
          rintro e u1 ⟨rfl, hb1⟩
          replace hB := hB.trans (hb1.mono hB.size)
          go_wp2_with fail
          refine (hs _ hB).mono ?_
          rintro e u2 ⟨rfl, hb2⟩
          replace hB := hB.trans (hb2.mono hB.size)
          clear hd hs hb1 hb2; go_wp2
          go_roundw
          case rel => exact ⟨i + 1, by omega, by go_num, hB⟩
          case measure => simp [intOf]; omega
        | false =>
         rw [hrg, if_neg (by decide)] at hd
         rw [Bool.or_eq_false_iff] at hrg; obtain ⟨rfl, g3⟩ := hrg
         go_wp2_with fail
         refine (hd _ hB).mono ?_
         rintro e u1 ⟨rfl, hb1⟩
         replace hB := hB.trans (hb1.mono hB.size)
         go_wp2_with fail
         refine (hs _ hB).mono ?_
         rintro e u2 ⟨rfl, hb2⟩
         replace hB := hB.trans (hb2.mono hB.size)
         clear hd hs hb1 hb2; go_wp2
         go_roundw
         case rel => exact ⟨i + 1, by omega, by go_num, hB⟩
         case measure => simp [intOf]; omega
      · have g2 : ¬ (i : Int) ≤ (k : Int) := by omega
        have hfo := gform_any (fun q => B ≤ q) (some ⟨g9, 0, none⟩) c9 LL none 0 none 0 ⟨[], []⟩ 0 wr (HGR.out.below hB) HPS.out (tzz_nil _) (rii_nil _) i64z
        rw [HLE.out] at hfo
        have hBf := HB1.out.trans ((HB0.out.trans (hB.mono HB0.out.size)).mono HB1.out.size)
        cases hf : foG LL ⟨[], []⟩ 0 with
        | false =>
         rw [hf] at hfo; clear hf HFO
         go_wp2_with fail
         refine hfo.mono ?_
         rintro e u1 ⟨rfl, hb1⟩
         replace hBf := hBf.trans (hb1.mono hBf.size)
         clear hb1 hfo; go_wp2
         go_ret
         exact ⟨rfl, hBf⟩
        | true =>
         rw [hf] at hfo
         obtain ⟨rfl, hk6⟩ := HFO.out hf
         have g5 : decide ((k : Int) ≤ 6) = true := decide_eq_true (by omega)
         have g6 : (k : Int) ≤ 6 := by omega
         clear hf HFO
         go_wp2_with fail
         refine hfo.mono ?_
         rintro e u1 ⟨rfl, hb1⟩
         replace hBf := hBf.trans (hb1.mono hBf.size)
         clear hb1 hfo; go_wp2
         go_ret
         exact ⟨rfl, hBf⟩
end Go.Proofs.YtkmcodofnckdmaaGreat
