/-
  octets.Page: Later: the walk.
-/
import Derived.Test.YtijehnfadpoapaaO9
import Derived.WalkSpells
namespace Go.Proofs.Ytijehnfadpoapaa
open Go.RowKit Go.Maps
set_option linter.unusedSimpArgs false
set_option linter.unusedVariables false

def St.later (s : St) : St := if s.no then s else { s with bs := s.bs ++ be4 0, ws := s.ws ++ [(s.bs.length : Int)] }
theorem Wf.later {s : St} (h : Wf s) : Wf s.later := by
  unfold St.later
  split
  · exact h
  · refine ⟨h.1.append (byt_be4 0), ?_, ?_, ?_⟩
    · rw [List.nodup_append]
      refine ⟨h.2.1, by simp, ?_⟩
      intro a ha b hb e
      have := h.2.2.1 a ha
      simp at hb
      omega
    · intro x hx
      simp at hx
      rcases hx with hx | hx
      · have := h.2.2.1 x hx
        simp [be4]; omega
      · simp [be4]; omega
    · have := h.2.2.2
      simp [be4]
      omega
theorem St.later_bad {s : St} (h : s.no = true) : s.later = s := by simp [St.later, h]
theorem St.later_ok {s : St} (h : s.no = false) : s.later = { s with bs := s.bs ++ be4 0, ws := s.ws ++ [(s.bs.length : Int)] } := by simp [St.later, h]

theorem wf64 {n : Int} (h : I64 n) : (Lit.int .i64 n).wf = true := WalkArith.wf_i64 h
theorem keyI : Keyed Try.prog 3 := int_keyed Try.underlying3
theorem zeroU (w : World) : (zeroValue 70).run Try.prog w = .ok (.agg #[]) w := by kernel_rfl

/-- A place more that waits. -/
theorem has_more {D : DataW Unit} {ws : List Int} {l : Int} (hm : IsMap D) (h : ∀ x : Int, Maps.has D (.int .i64 x) = decide (x ∈ ws)) (x : Int) :
    Maps.has (D.put (.int .i64 l) (.agg [])) (.int .i64 x) = decide (x ∈ ws ++ [l]) := by
  by_cases e : x = l
  · subst e
    rw [has_put_same hm (show WideAt.IsKeyLit (.int .i64 x) from trivial)]
    simp
  · rw [has_put_other (by intro e2; injection e2 with _ e3; exact e e3), h x]
    simp [e]
theorem size_more {D : DataW Unit} {ws : List Int} {l : Int} (hm : Tidy D) (h : ∀ x : Int, Maps.has D (.int .i64 x) = decide (x ∈ ws)) (hs : Maps.size D = ws.length) (hl : l ∉ ws) :
    Maps.size (D.put (.int .i64 l) (.agg [])) = (ws ++ [l]).length := by
  rw [size_put hm, h l, hs]
  simp [hl]

theorem later_nil (w : World) :
    Calls Try.prog 51 #[.pointer none] w fun e w' => e = .returned (.int .i64 (-1)) ∧ w = w' := by
  go_enter Try.func51, Try.ntmps51
  go_wp2
  go_ret
  exact ⟨rfl, rfl⟩

set_option maxHeartbeats 2000000 in
set_option maxRecDepth 100000 in
theorem later_any (B : Nat) (G : Nat → Prop) (s : St) (w : World) (h : Pc w B G s) (hl : s.bs.length + 4 ≤ 1048576) :
    Calls Try.prog 51 #[pg B] w fun e w' => e = .returned (.int .i64 (s.bs.length : Int)) ∧ Pc w' B G s.later ∧ Keep G w w' := by
  have hP := h
  obtain ⟨h1, h2, h3, vb, vm, h4, h6, h5⟩ := h
  obtain ⟨c0, c1, c2, c3, f0, f1, f2, f3⟩ := h4.cells
  have hmm := @run_makeMap Try.prog
  have q37 : ∀ (w : World) (r : Option Nat), (binOp .eql 54 (.map r) (.map none)).run Try.prog w = .ok (.bool r.isNone) w := fun w r => run_eql_map_nil w _ _ _ r Try.underlying54
  by_cases hno : s.no = true
  · go_enter Try.func51, Try.ntmps51
    go_wp2_with fail
    refine (closed_any B G s _ hP (by omega)).mono ?_
    rintro e u ⟨rfl, rfl⟩
    rw [hno]
    go_wp2
    go_ret
    exact ⟨rfl, by rw [St.later_bad hno]; exact hP, Keep.refl _ _⟩
  · have hno : s.no = false := by simpa using hno
    obtain ⟨l, hll⟩ : ∃ l, s.bs.length = l := ⟨_, rfl⟩
    rw [hll] at c1 
    have HL : Hid (s.bs.length = l) := hll
    have hlb : l + 4 ≤ 1048576 := by omega
    have hkey : keyOf Try.prog 3 (.int .i64 (l : Int)) = some (.int .i64 (l : Int)) := keyOf_int_mk Try.underlying3 (wf64 ⟨by omega, by omega⟩)
    have hnew : (l : Int) ∉ s.ws := fun hm => by have := h3.2.2.1 _ hm; omega
    have HN : Hid ((l : Int) ∉ s.ws) := hnew
    have hwl : s.ws.length < maxLen := by have := h3.2.2.2; unfold maxLen; omega
    clear hll hnew h4 h6 h5 c0 c2 c3 f0 f1 f2 f3
    go_enter Try.func51, Try.ntmps51
    go_wp2_with fail
    refine (closed_any B G s _ hP (by omega)).mono ?_
    rintro e u ⟨rfl, rfl⟩
    rw [hno]
    go_wp2_with fail
    refine (four_any 0 _ ⟨by decide, by decide⟩).mono ?_
    rintro e u ⟨a, cap, rfl, hr, hb⟩
    go_wp2_with fail
    refine (put_any B G s a cap (be4 0) _ (hP.below hb) hr (by simp [be4]; omega)).mono ?_
    rintro e u2 ⟨rfl, hP2, hK2⟩
    have hKw : Keep G w u2 := (Keep.of_below hb h1).trans hK2
    rw [St.app_ok hno] at hP2
    obtain ⟨k1, k2, k3, vb2, vm2, k4, k6, k5⟩ := hP2
    obtain ⟨hR, hM⟩ := k5 hno
    dsimp only at k4 hR hM k3
    obtain ⟨d0, d1, d2, d3, g0, g1, g2, g3⟩ := k4.cells
    clear hb hr hK2 k6 k5 hP c1
    have hlz : s.bs.length + (be4 0).length = l + 4 := by rw [HL.out]; rfl
    have fin : ∀ (W : World) (m : Nat) (D : DataW Unit), Bx4 W B vb2 (.int .i64 ((s.bs ++ be4 0).length : Int)) (.map (some m)) (.bool s.no) → Row W G vb2 (s.bs ++ be4 0) → ¬ G m → (∀ x : Int, Maps.has D (.int .i64 x) = decide (x ∈ s.ws)) → Maps.size D = s.ws.length → Tidy D →
        Keep G w W → ∀ W', W'.ownsMap Try.prog 3 (unitElem (H := Unit)) m (s.ws.length + 1) (D.put (.int .i64 (l : Int)) (.agg [])) → W.mapTurned W' m → Pc W' B G s.later ∧ Keep G w W' := by
      intro W m D b1 r1 hm1 hh hz htd hk W' hown hturn
      have hgr := hturn.grown
      have hne : B ≠ m := by
        rintro rfl
        obtain ⟨es, c, hb, _⟩ := hown
        obtain ⟨es0, c0, es1, c1, hb0, _⟩ := hturn
        exact b1.no_map _ _ hb0
      have hk2 : Keep G w W' := hk.trans ((Keep.refl G W).grown hgr (fun k hk' => Nat.lt_of_lt_of_le (h1 k hk') hk.size) (fun k e => by cases e; exact hm1))
      refine ⟨⟨fun k hk' => Nat.lt_of_lt_of_le (h1 k hk') hk2.size, h2, h3.later, vb2, .map (some m), ?_, fun hn => ?_, fun _ => ?_⟩, hk2⟩
      · rw [St.later_ok hno]
        exact (hgr.block B b1.lt (by simpa using hne)).trans b1
      · rw [St.later_ok hno] at hn
        rw [hno] at hn
        cases hn
      · rw [St.later_ok hno]
        refine ⟨⟨?_, r1.2⟩, .inr ⟨m, D.put (.int .i64 (l : Int)) (.agg []), rfl, hm1, ?_, ?_, ?_⟩⟩
        · refine World.ownsRow.kept r1.1 hgr (.inr ?_)
          obtain ⟨es0, c0, es1, c1, hb0, _⟩ := hturn
          exact r1.ne_map hb0
        · rw [HL.out]
          simpa using hown
        · rw [HL.out]
          exact has_more htd.isMap hh
        · rw [HL.out]
          exact size_more htd hh hz HN.out
    have hB4 : ∀ (W : World) (a b c d : Value) (m : Nat) (D : DataW Unit) (n : Nat), Bx4 W B a b c d → W.ownsMap Try.prog 3 (unitElem (H := Unit)) m n D → m ≠ B := by
      intro W a b c d m D n b1 ho e
      subst e
      obtain ⟨es, c, hb, _⟩ := ho
      exact b1.no_map _ _ hb
    rcases hM with ⟨rfl, hws⟩ | ⟨m, D, rfl, hmG, hown, hhas, hsize⟩
    · have hmade := World.ownsMap_made u2 Try.prog 3 (unitElem (H := Unit))
      have hown0 := hmade.setCell (a := ⟨B, 2, none⟩) (by have := k4.lt; simp; omega) (.map (some u2.heap.size))
      have b1 := (k4.below (bl1 (.map #[] 0))).set2 (.map (some u2.heap.size))
      have hoff : ∀ k, k < (u2.alloc (.map #[] 0)).heap.size → k ≠ B → ((u2.alloc (.map #[] 0)).setCell ⟨B, 2, none⟩ (.map (some u2.heap.size))).heap[k]? = (u2.alloc (.map #[] 0)).heap[k]? := fun k _ hk => Below.heap_setCell _ ⟨B, 2, none⟩ _ k hk
      have r1 := (hR.stay (w' := u2.alloc (.map #[] 0)) (fun k hk _ => (bl1 (.map #[] 0)).block k hk)).off (k4.below (bl1 (.map #[] 0))) (by decide) hoff
      have hk1 : Keep G w ((u2.alloc (.map #[] 0)).setCell ⟨B, 2, none⟩ (.map (some u2.heap.size))) := (hKw.alloc k1 _).setCell (p := ⟨B, 2, none⟩) h2 _
      have fin0 := fin _ u2.heap.size (.map []) b1 r1 (fun hG => by have := k1 _ hG; omega) (by intro x; rw [hws]; rfl) (by rw [hws]; rfl) tidy_empty hk1
      rw [hws] at fin0
      obtain ⟨x0, x1, x2, x3, y0, y1, y2, y3⟩ := (k4.below (bl1 (.map #[] 0))).cells
      clear x0 x1 x3 y0 y1 y3
      clear fin hR k4 k3 hmade hKw d0 d1 d3
      go_wp2_with (first | (at_mapUpdate; refine wpList_mapUpdate_in _ rfl _ _ _ 54 rfl 3 70 keyI Try.underlying54 (unitElem (H := Unit)) u2.heap.size 0 (.map []) rfl hown0 (by decide) _ _ _ rfl rfl hkey _ [] unitElem_mk ?_; intro w1 hown1 hturn1) | go_in)
      go_ret
      exact ⟨rt_int (by rw [HL.out]), fin0 _ hown1 hturn1⟩
    · have fin0 := fin _ m D k4 hR hmG hhas hsize (hown.tidy keyI) hKw
      clear fin hR k4 k3 hKw d0 d1 d3
      go_wp2_with (first | (at_mapUpdate; refine wpList_mapUpdate_in _ rfl _ _ _ 54 rfl 3 70 keyI Try.underlying54 (unitElem (H := Unit)) m _ D rfl hown hwl _ _ _ rfl rfl hkey _ [] unitElem_mk ?_; intro w1 hown1 hturn1) | go_in)
      go_ret
      exact ⟨rt_int (by rw [HL.out]), fin0 _ hown1 hturn1⟩

end Go.Proofs.Ytijehnfadpoapaa
