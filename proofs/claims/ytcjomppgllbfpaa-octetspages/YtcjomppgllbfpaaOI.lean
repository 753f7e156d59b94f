/-
  foundryref04.Page: Later, Now: the walks.
-/
import Derived.Test.YtcjomppgllbfpaaOH
namespace Go.Proofs.Ytcjomppgllbfpaa
open Go.RowKit Go.Maps
set_option linter.unusedSimpArgs false
set_option linter.unusedVariables false

set_option maxHeartbeats 2000000 in
theorem slater_any (B : Nat) (G : Nat → Prop) (s : St) (w : World) (h : Ps w B G s) (hl : s.bs.length + 4 ≤ 1048576) :
    Calls Try.prog 48 #[pg B] w fun e w' => e = .returned (.int .i64 (s.bs.length : Int)) ∧ Ps w' B G s.later ∧ Keep G w w' := by
  obtain ⟨i0, hi, hz0, hz1, hz2⟩ := info_parts info_byte
  have hP := h
  obtain ⟨h1, h2, h3, vb, vw, h4, h5, h6⟩ := h
  obtain ⟨a, c, rfl⟩ := h5.slice
  obtain ⟨c0, c1, c2, f0, f1, f2⟩ := h4.cells
  by_cases hno : s.no = true
  · go_enter Try.func48, Try.ntmps48
    go_wp2_with fail
    refine (done_any B G s _ hP (by omega)).mono ?_
    rintro e u ⟨rfl, rfl⟩
    rw [hno]
    go_wp2
    go_ret
    exact ⟨rfl, by rw [St.later_bad hno]; exact hP, Keep.refl _ _⟩
  have hno : s.no = false := by simpa using hno
  obtain ⟨l, hll⟩ : ∃ l, s.bs.length = l := ⟨_, rfl⟩
  have HL : Hid (s.bs.length = l) := hll
  have hlb : l + 4 ≤ 1048576 := by omega
  have hwl : s.ws.length + 1 ≤ 2000000000 := by have := h3.2.2.2; omega
  rw [hll] at c0 h4 h5
  clear hll hl
  go_enter Try.func48, Try.ntmps48
  rw [HL.out]
  go_wp2_with fail
  refine (done_any B G s _ hP (by rw [HL.out]; omega)).mono ?_
  rintro e u ⟨rfl, rfl⟩
  rw [hno]
  go_wp2_with fail
  refine drewRegion (by kernel_rfl) ?_
  have hbw : Below w.heap.size w w.drew := Below.drew (Below.refl _ _)
  have hQ : Bx3 w.drew B (.slice a l c) vw (.bool false) := by rw [← hno]; exact h4.below hbw
  have hR := h5.stay (w' := w.drew) (fun k hk _ => hbw.block k hk)
  have hI := h6.stay (w' := w.drew) (fun k hk _ => hbw.block k hk)
  generalize w.drew = u3 at hbw hQ hR hI ⊢
  have d0 := hQ.cells.1
  have g0 := hQ.cells.2.2.2.1
  refine aTake (i := 0) (v := ?v21) rfl (by kernel_rfl) (by kernel_rfl) (by kernel_rfl) (fun _ _ _ h => h) (Or.inl ⟨by rfl, ?y21⟩) ?r21
  case y21 =>
    intro w9
    go_simp
    try with_reducible rfl
  try simp only [Act.put, List.setIfInBounds_toArray, List.set_cons_zero, List.set_cons_succ]
  refine aTake (i := 1) (v := ?v22) rfl (by kernel_rfl) (by kernel_rfl) (by kernel_rfl) (fun _ _ _ h => h) (Or.inl ⟨by rfl, ?y22⟩) ?r22
  case y22 =>
    intro w9
    go_simp
    try with_reducible rfl
  try simp only [Act.put, List.setIfInBounds_toArray, List.set_cons_zero, List.set_cons_succ]
  refine aTake (i := 2) (v := ?v23) rfl (by kernel_rfl) (by kernel_rfl) (by kernel_rfl) (fun _ _ _ h => h) (Or.inl ⟨by rfl, ?y23⟩) ?r23
  case y23 =>
    intro w9
    go_simp
    try with_reducible rfl
  try simp only [Act.put, List.setIfInBounds_toArray, List.set_cons_zero, List.set_cons_succ]
  refine aTake (i := 3) (v := ?v24) rfl (by kernel_rfl) (by kernel_rfl) (by kernel_rfl) (fun _ _ _ h => h) (Or.inl ⟨by rfl, ?y24⟩) ?r24
  case y24 =>
    intro w9
    go_simp
    try with_reducible rfl
  try simp only [Act.put, List.setIfInBounds_toArray, List.set_cons_zero, List.set_cons_succ]
  refine wpAny_ready (rs := [4, 5]) (by kernel_rfl) (by simp) (aCons (i := 4) rfl (by rfl) (fun K hK => ?_) (aCons (i := 5) rfl (by rfl) (fun K hK => ?_) AllReady.nil))
  · go_simp
    refine hK.out _ _ ?_
    clear hK K
    try simp only [Act.put, List.setIfInBounds_toArray, List.set_cons_zero, List.set_cons_succ]
    refine wpAny_ready (rs := [5]) (by kernel_rfl) (by simp) (aCons (i := 5) rfl (by rfl) (fun K hK => ?_) AllReady.nil)
    go_simp
    refine (big4_any 0 _ (by decide) (by decide)).mono ?_
    rintro e u4 ⟨a4, c4, rfl, hr4, hb4⟩
    go_wp2_with fail
    have hQ := hQ.below hb4
    have hR := hR.stay (fun k hk _ => hb4.block k hk)
    have hI := hI.stay (fun k hk _ => hb4.block k hk)
    have hbw := hbw.trans (hb4.mono hbw.size)
    have d0 := hQ.cells.1
    have g0 := hQ.cells.2.2.2.1
    refine hK.out _ _ ?_
    clear hK K
    try simp only [Act.put, List.setIfInBounds_toArray, List.set_cons_zero, List.set_cons_succ]
    refine wpAny_ready (rs := [6]) (by kernel_rfl) (by simp) (aCons (i := 6) rfl (by rfl) (fun K hK => ?_) AllReady.nil)
    refine wp_append_rb (.tmp 16) (.tmp 17) 22 rfl 5 i0 Try.underlying22 hi hz0 hz1 hz2 _ l s.bs rfl (by have := hR.1; rw [HL.out] at this; exact this) a4 c4 _ (be4 0) rfl rfl (by simp [be4]) hr4 (by simp [be4]; omega) ?_
    intro v' w1 hown hgrow hat
    obtain ⟨ts, hts⟩ : ∃ ts, s.bs ++ be4 0 = ts := ⟨_, rfl⟩
    have htl : l + (be4 0).length = ts.length := by rw [← hts, List.length_append, HL.out]
    rw [hts, htl] at hown
    have hBt : Byt ts := hts ▸ h3.1.append (byt_be4 0)
    have HT : Hid (s.bs ++ be4 0 = ts) := hts
    have h1' : ∀ k, G k → k < u4.heap.size := fun k hk => Nat.lt_of_lt_of_le (h1 k hk) hbw.size
    have hwf : Wf { s with bs := ts } := by have := h3.app (byt_be4 0); rw [St.app_ok hno, hts] at this; exact this
    have hfin := Ps.appd (s := s) h1' h2 (by rw [hno]; exact hQ) (by rw [← HL.out] at hR; rw [← HL.out]; exact hR) hI hown hgrow hat hwf
    have h42 := hQ.grown (xs := s.bs) (by rw [← HL.out] at hR; rw [← HL.out]; exact hR) hgrow
    obtain ⟨a2, cap2, rfl, _⟩ := Rw.of hBt hown
    have d0 := h42.cells.1
    have g0 := h42.cells.2.2.2.1
    clear hts htl
    refine hK.out _ _ ?_
    clear hK K
    try simp only [Act.put, List.setIfInBounds_toArray, List.set_cons_zero, List.set_cons_succ]
    refine aTake (i := 7) (v := ?v25) rfl (by kernel_rfl) (by kernel_rfl) (by kernel_rfl) (fun _ _ _ h => h) (Or.inl ⟨by rfl, ?y25⟩) ?r25
    case y25 =>
      intro w9
      go_simp
      try with_reducible rfl
    try simp only [Act.put, List.setIfInBounds_toArray, List.set_cons_zero, List.set_cons_succ]
    refine aTake (i := 8) (v := ?v26) rfl (by kernel_rfl) (by kernel_rfl) (by kernel_rfl) (fun _ _ _ h => h) (Or.inl ⟨by rfl, ?y26⟩) ?r26
    case y26 =>
      intro w9
      go_simp
      try with_reducible rfl
    try simp only [Act.put, List.setIfInBounds_toArray, List.set_cons_zero, List.set_cons_succ]
    refine wpAny_ready (rs := [9]) (by kernel_rfl) (by simp) (aCons (i := 9) rfl (by rfl) (fun K hK => ?_) AllReady.nil)
    go_simp
    refine hK.out _ _ ?_
    clear hK K
    try simp only [Act.put, List.setIfInBounds_toArray, List.set_cons_zero, List.set_cons_succ]
    refine wpAny_done (by kernel_rfl) ?_ _
    have hK4 := (Keep.of_below hbw h1).trans hfin.2
    obtain ⟨m1, m2, m3, vb5, vw5, m4, m5, m6⟩ := hfin.1
    dsimp only at m3 m4 m5 m6
    obtain ⟨W, hW⟩ : ∃ W, W = w1.setCell ⟨B, 0, none⟩ (.slice a2 ts.length cap2) := ⟨_, rfl⟩
    rw [← hW] at hK4 m1 m4 m5 m6 ⊢
    clear hW hfin h42 hown hgrow hat d0 g0 hQ hR hI hr4 hb4
    obtain ⟨x0, x1, x2, y0, y1, y2⟩ := m4.cells
    have n4 := m4.below (bl1 (.cells #[.int .i64 (l : Int)] 3))
    have n5 := m5.stay (w' := W.alloc (.cells #[.int .i64 (l : Int)] 3)) (fun k hk _ => (bl1 _).block k hk)
    have n6 := m6.stay (w' := W.alloc (.cells #[.int .i64 (l : Int)] 3)) (fun k hk _ => (bl1 _).block k hk)
    have hcn := cell_one_new W (.int .i64 (l : Int)) 3 0 _ rfl
    have nK := hK4.trans (Keep.of_below (bl1 (.cells #[.int .i64 (l : Int)] 3)) m1)
    have n1 : ∀ k, G k → k < (W.alloc (.cells #[.int .i64 (l : Int)] 3)).heap.size := fun k hk => by have := m1 k hk; simp; omega
    go_wp2_with (at_builtin; refine wpList_append_int rfl _ _ rfl (l : Int) n6.1 rfl W.heap.size rfl hcn hwl ?_)
    intro v6 w6 hown6 hgrow6 hat6
    have p4 := n4.grownI n6.1 hgrow6
    have p5 := n5.grownI n6.1 hgrow6
    have hnG : ∀ g, v6.ownBlock = some g → ¬ G g := by
      intro g hg hGg
      rcases hat6 with hat | hat
      · exact n6.2 g (by rw [← hat]; exact hg) hGg
      · rw [hat] at hg
        have := n1 g hGg
        simp at hg
        simp at this
        omega
    have hK6 : Keep G (W.alloc (.cells #[.int .i64 (l : Int)] 3)) w6 := (Keep.refl G _).grown hgrow6 n1 (fun k hk => n6.2 k hk)
    have hwl2 := h3.later
    rw [St.later_ok hno, HT.out, HL.out] at hwl2
    have hfin := Ps.waits (s := { s with bs := ts }) (ws' := s.ws ++ [(l : Int)]) n1 h2 n4 n5 hown6 p4 p5 hK6 hnG hwl2
    obtain ⟨a7, c7, e7, _⟩ := hown6.slice
    subst e7
    obtain ⟨q0, q1, q2, r0, r1, r2⟩ := p4.cells
    have HLT : Hid (s.later = ⟨ts, s.ws ++ [(l : Int)], s.no⟩) := by show s.later = _; rw [St.later_ok hno, HT.out, HL.out]
    clear hwl2 hK6 p4 p5 n4 n5 n6 hcn
    go_wp2
    go_ret
    rw [show (s.ws ++ [(l : Int)]).length = s.ws.length + 1 by simp] at hfin
    exact ⟨rfl, by rw [HLT.out]; exact hfin.1, nK.trans hfin.2⟩
  · go_simp
    refine (big4_any 0 _ (by decide) (by decide)).mono ?_
    rintro e u4 ⟨a4, c4, rfl, hr4, hb4⟩
    go_wp2_with fail
    have hQ := hQ.below hb4
    have hR := hR.stay (fun k hk _ => hb4.block k hk)
    have hI := hI.stay (fun k hk _ => hb4.block k hk)
    have hbw := hbw.trans (hb4.mono hbw.size)
    have d0 := hQ.cells.1
    have g0 := hQ.cells.2.2.2.1
    refine hK.out _ _ ?_
    clear hK K
    try simp only [Act.put, List.setIfInBounds_toArray, List.set_cons_zero, List.set_cons_succ]
    refine wpAny_ready (rs := [4]) (by kernel_rfl) (by simp) (aCons (i := 4) rfl (by rfl) (fun K hK => ?_) AllReady.nil)
    go_simp
    refine hK.out _ _ ?_
    clear hK K
    try simp only [Act.put, List.setIfInBounds_toArray, List.set_cons_zero, List.set_cons_succ]
    refine wpAny_ready (rs := [6]) (by kernel_rfl) (by simp) (aCons (i := 6) rfl (by rfl) (fun K hK => ?_) AllReady.nil)
    refine wp_append_rb (.tmp 16) (.tmp 17) 22 rfl 5 i0 Try.underlying22 hi hz0 hz1 hz2 _ l s.bs rfl (by have := hR.1; rw [HL.out] at this; exact this) a4 c4 _ (be4 0) rfl rfl (by simp [be4]) hr4 (by simp [be4]; omega) ?_
    intro v' w1 hown hgrow hat
    obtain ⟨ts, hts⟩ : ∃ ts, s.bs ++ be4 0 = ts := ⟨_, rfl⟩
    have htl : l + (be4 0).length = ts.length := by rw [← hts, List.length_append, HL.out]
    rw [hts, htl] at hown
    have hBt : Byt ts := hts ▸ h3.1.append (byt_be4 0)
    have HT : Hid (s.bs ++ be4 0 = ts) := hts
    have h1' : ∀ k, G k → k < u4.heap.size := fun k hk => Nat.lt_of_lt_of_le (h1 k hk) hbw.size
    have hwf : Wf { s with bs := ts } := by have := h3.app (byt_be4 0); rw [St.app_ok hno, hts] at this; exact this
    have hfin := Ps.appd (s := s) h1' h2 (by rw [hno]; exact hQ) (by rw [← HL.out] at hR; rw [← HL.out]; exact hR) hI hown hgrow hat hwf
    have h42 := hQ.grown (xs := s.bs) (by rw [← HL.out] at hR; rw [← HL.out]; exact hR) hgrow
    obtain ⟨a2, cap2, rfl, _⟩ := Rw.of hBt hown
    have d0 := h42.cells.1
    have g0 := h42.cells.2.2.2.1
    clear hts htl
    refine hK.out _ _ ?_
    clear hK K
    try simp only [Act.put, List.setIfInBounds_toArray, List.set_cons_zero, List.set_cons_succ]
    refine aTake (i := 7) (v := ?v27) rfl (by kernel_rfl) (by kernel_rfl) (by kernel_rfl) (fun _ _ _ h => h) (Or.inl ⟨by rfl, ?y27⟩) ?r27
    case y27 =>
      intro w9
      go_simp
      try with_reducible rfl
    try simp only [Act.put, List.setIfInBounds_toArray, List.set_cons_zero, List.set_cons_succ]
    refine aTake (i := 8) (v := ?v28) rfl (by kernel_rfl) (by kernel_rfl) (by kernel_rfl) (fun _ _ _ h => h) (Or.inl ⟨by rfl, ?y28⟩) ?r28
    case y28 =>
      intro w9
      go_simp
      try with_reducible rfl
    try simp only [Act.put, List.setIfInBounds_toArray, List.set_cons_zero, List.set_cons_succ]
    refine wpAny_ready (rs := [9]) (by kernel_rfl) (by simp) (aCons (i := 9) rfl (by rfl) (fun K hK => ?_) AllReady.nil)
    go_simp
    refine hK.out _ _ ?_
    clear hK K
    try simp only [Act.put, List.setIfInBounds_toArray, List.set_cons_zero, List.set_cons_succ]
    refine wpAny_done (by kernel_rfl) ?_ _
    have hK4 := (Keep.of_below hbw h1).trans hfin.2
    obtain ⟨m1, m2, m3, vb5, vw5, m4, m5, m6⟩ := hfin.1
    dsimp only at m3 m4 m5 m6
    obtain ⟨W, hW⟩ : ∃ W, W = w1.setCell ⟨B, 0, none⟩ (.slice a2 ts.length cap2) := ⟨_, rfl⟩
    rw [← hW] at hK4 m1 m4 m5 m6 ⊢
    clear hW hfin h42 hown hgrow hat d0 g0 hQ hR hI hr4 hb4
    obtain ⟨x0, x1, x2, y0, y1, y2⟩ := m4.cells
    have n4 := m4.below (bl1 (.cells #[.int .i64 (l : Int)] 3))
    have n5 := m5.stay (w' := W.alloc (.cells #[.int .i64 (l : Int)] 3)) (fun k hk _ => (bl1 _).block k hk)
    have n6 := m6.stay (w' := W.alloc (.cells #[.int .i64 (l : Int)] 3)) (fun k hk _ => (bl1 _).block k hk)
    have hcn := cell_one_new W (.int .i64 (l : Int)) 3 0 _ rfl
    have nK := hK4.trans (Keep.of_below (bl1 (.cells #[.int .i64 (l : Int)] 3)) m1)
    have n1 : ∀ k, G k → k < (W.alloc (.cells #[.int .i64 (l : Int)] 3)).heap.size := fun k hk => by have := m1 k hk; simp; omega
    go_wp2_with (at_builtin; refine wpList_append_int rfl _ _ rfl (l : Int) n6.1 rfl W.heap.size rfl hcn hwl ?_)
    intro v6 w6 hown6 hgrow6 hat6
    have p4 := n4.grownI n6.1 hgrow6
    have p5 := n5.grownI n6.1 hgrow6
    have hnG : ∀ g, v6.ownBlock = some g → ¬ G g := by
      intro g hg hGg
      rcases hat6 with hat | hat
      · exact n6.2 g (by rw [← hat]; exact hg) hGg
      · rw [hat] at hg
        have := n1 g hGg
        simp at hg
        simp at this
        omega
    have hK6 : Keep G (W.alloc (.cells #[.int .i64 (l : Int)] 3)) w6 := (Keep.refl G _).grown hgrow6 n1 (fun k hk => n6.2 k hk)
    have hwl2 := h3.later
    rw [St.later_ok hno, HT.out, HL.out] at hwl2
    have hfin := Ps.waits (s := { s with bs := ts }) (ws' := s.ws ++ [(l : Int)]) n1 h2 n4 n5 hown6 p4 p5 hK6 hnG hwl2
    obtain ⟨a7, c7, e7, _⟩ := hown6.slice
    subst e7
    obtain ⟨q0, q1, q2, r0, r1, r2⟩ := p4.cells
    have HLT : Hid (s.later = ⟨ts, s.ws ++ [(l : Int)], s.no⟩) := by show s.later = _; rw [St.later_ok hno, HT.out, HL.out]
    clear hwl2 hK6 p4 p5 n4 n5 n6 hcn
    go_wp2
    go_ret
    rw [show (s.ws ++ [(l : Int)]).length = s.ws.length + 1 by simp] at hfin
    exact ⟨rfl, by rw [HLT.out]; exact hfin.1, nK.trans hfin.2⟩

end Go.Proofs.Ytcjomppgllbfpaa
