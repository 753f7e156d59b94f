/-
  foundryref04.Page: put, Put8, Put16, Put32, PutBytes, PutTag, Pad, All: the walks.
  Rows of pairs and of bends of the call's own (Po, Pq), and how they grow.
  Pages: what is put, in plain words; new pages.
-/
import Derived.Test.YtdholmnniccbcaaGreatDoorZ25
import Derived.Test.YtdholmnniccbcaaGreatDoorZ24
import Derived.Test.YtdholmnniccbcaaGreatDoorZ10
import Derived.Test.YtdholmnniccbcaaGreatDoorZ23
namespace Go.Proofs.YtdholmnniccbcaaGreatDoor
open Go.RowKit Go.Maps
set_option linter.unusedSimpArgs false
set_option linter.unusedVariables false
set_option maxHeartbeats 1000000 in
set_option maxRecDepth 100000 in
theorem sall_any (B : Nat) (G : Nat → Prop) (s : St) (w : World) (h : Ps w B G s) (hl : s.bs.length ≤ 1048576) :
    Calls Tryz.prog 51 #[pg B] w fun e w' => ∃ a' cap', e = .returned (.tuple #[.slice a' (allB s).length cap', .int .i64 (allE s)]) ∧ Rw 5 w.heap.size w' a' cap' (allB s) ∧ Below w.heap.size w w' := by
  obtain ⟨i0, hi, hz0, hz1, hz2⟩ := info_parts info_byte
  obtain ⟨h1, h2, h3, vb, vw, h4, h5, h6⟩ := h
  obtain ⟨c0, c1, c2, f0, f1, f2⟩ := h4.cells
  obtain ⟨a, c, rfl⟩ := h5.slice
  obtain ⟨aw, cw, rfl, q1, q2, _⟩ := h6.1.slice
  have hrb := h5.rb h3.1
  unfold maxLen at q2
  by_cases hno : s.no = true
  · have HE : Hid (allE s = 4) := by show allE s = 4; simp [allE, hno]
    have HB : Hid (allB s = []) := by show allB s = []; simp [allB, hno]
    rw [hno] at c2
    clear h1 h2 h3 h4 h5 h6 hno
    go_enter Tryz.func51, Tryz.ntmps51
    go_wp2
    go_ret2
    refine ⟨none, 0, rt_two (by rw [HB.out]; rfl) (by rw [HE.out]; rfl), ?_, Below.refl _ _⟩
    rw [HB.out]
    exact Rw.nil _ _
  · have hno : s.no = false := by simpa using hno
    rw [hno] at c2
    by_cases hws : s.ws = []
    · have HE : Hid (allE s = 0) := by show allE s = 0; simp [allE, hno, hws]
      have HB : Hid (allB s = s.bs) := by show allB s = s.bs; simp [allB, hno, hws]
      rw [hws] at c1
      generalize s.bs = bs at *
      clear h1 h2 h3 h4 h5 h6 hno hws
      go_enter Tryz.func51, Tryz.ntmps51
      go_wp2_with (at_builtin; refine wpList_append_rb rfl _ _ 39 rfl w.heap.size 5 i0 Tryz.underlying39 hi hz0 hz1 hz2 _ 0 [] rfl (World.ownsRow_nil w _ _ 1) a c _ bs rfl rfl hrb (by omega) (Nat.le_refl _) ?_)
      intro v' w1 hown hgrow hat
      obtain ⟨a', cap', rfl, hres⟩ := Rw.of hrb.lim hown
      go_wp2
      go_ret2
      refine ⟨a', cap', rt_two (by rw [HB.out]; rfl) (by rw [HE.out]; rfl), ?_, (Below.refl _ _).grown hgrow (Nat.le_refl _) (fun k hk => by simp [Value.ownBlock] at hk)⟩
      rw [HB.out]
      exact hres
    · have HE : Hid (allE s = 1) := by show allE s = 1; simp [allE, hno, hws]
      have HB : Hid (allB s = []) := by show allB s = []; simp [allB, hno, hws]
      have hpos : 0 < s.ws.length := List.length_pos_iff.2 hws
      have hpos' : 0 < (s.ws.length : Int) := by omega
      clear h1 h2 h3 h4 h5 h6 hno hws
      go_enter Tryz.func51, Tryz.ntmps51
      go_wp2
      go_ret2
      refine ⟨none, 0, rt_two (by rw [HB.out]; rfl) (by rw [HE.out]; rfl), ?_, Below.refl _ _⟩
      rw [HB.out]
      exact Rw.nil _ _

set_option maxHeartbeats 4000000 in
set_option maxRecDepth 100000 in
theorem sput_any (n lo hi1 : Int) (be : Int → List Nat) (hbyt : ∀ x, Byt (be x)) (hlen : ∀ x, (be x).length ≤ 4) (hne : ∀ x, be x ≠ []) (hper : ∀ x, be (x + (hi1 + 1)) = be x)
    (hbig : ∀ (x : Int) (w : World), 0 ≤ x → x ≤ 9223372036854775807 → Calls Tryz.prog 113 #[.int .i64 x, .int .i64 n] w fun e w' => ∃ a cap, e = .returned (.slice a (be x).length cap) ∧ Rb w' a cap (be x) ∧ Below w.heap.size w w')
    (hlo : lo = -(hi1 + 1) / 2) (hh0 : 0 ≤ hi1) (hh1 : hi1 ≤ 4294967295) (put : St → Int → St) (hput : ∀ s x, put s x = if lo ≤ x ∧ x ≤ hi1 then s.app (be x) else s.fail)
    (B : Nat) (G : Nat → Prop) (s : St) (x : Int) (w : World) (h : Ps w B G s) (hx : I64 x) (hl : s.bs.length + 4 ≤ 1048576) :
    Calls Tryz.prog 82 #[pg B, .int .i64 x, .int .i64 n, .int .i64 lo, .int .i64 hi1] w fun e w' => e = .returned (.tuple #[]) ∧ Ps w' B G (put s x) ∧ Keep G w w' := by
  obtain ⟨i0, hi, hz0, hz1, hz2⟩ := info_parts info_byte
  have hP := h
  obtain ⟨h1, h2, h3, vb, vw, h4, h5, h6⟩ := h
  obtain ⟨x1, x2⟩ := hx
  obtain ⟨c0, c1, c2, f0, f1, f2⟩ := h4.cells
  have HPER : Hid (∀ x, be (x + (hi1 + 1)) = be x) := hper
  clear hper
  have hlo1 : -2147483648 ≤ lo := by omega
  have hlo2 : lo ≤ 0 := by omega
  by_cases hno : s.no = true
  · have hst : Hid (put s x = s) := by
      show put s x = s
      rw [hput]
      split
      · exact St.app_bad hno _
      · exact St.fail_bad hno
    clear hput
    go_enter Tryz.func82, Tryz.ntmps82
    go_wp2_with fail
    refine (done_any B G s _ hP (by omega)).mono ?_
    rintro e u ⟨rfl, rfl⟩
    rw [hno]
    go_wp2
    (try simp only [Exit.inBlock, Exit.then]); refine bodyPost_ret (results_none rfl _ _ _) rfl ?_
    exact ⟨rfl, by rw [hst.out]; exact hP, Keep.refl _ _⟩
  have hno : s.no = false := by simpa using hno
  by_cases hr : lo ≤ x ∧ x ≤ hi1
  rotate_left
  · have hst : Hid (put s x = s.fail) := by show put s x = _; rw [hput, if_neg hr]
    obtain ⟨hP2, hK2⟩ := Ps.failed h1 h2 h3 h4 h5 h6 true
    have hor : x < lo ∨ (lo ≤ x ∧ hi1 < x) := by omega
    clear hr hput
    rcases hor with r1 | ⟨r1, r2⟩
    all_goals
      go_enter Tryz.func82, Tryz.ntmps82
      go_wp2_with fail
      refine (done_any B G s _ hP (by omega)).mono ?_
      rintro e u ⟨rfl, rfl⟩
      rw [hno]
      go_wp2
      (try simp only [Exit.inBlock, Exit.then]); refine bodyPost_ret (results_none rfl _ _ _) rfl ?_
      exact ⟨rfl, by rw [hst.out]; exact hP2, hK2⟩
  have hst : Hid (put s x = s.app (be x)) := by show put s x = _; rw [hput, if_pos hr]
  obtain ⟨r1, r2⟩ := hr
  clear hput
  by_cases hneg : x < 0
  · have hX0 : 0 ≤ x + (hi1 + 1) := by omega
    have hX1 : x + (hi1 + 1) ≤ 9223372036854775807 := by omega
    clear hlo
    go_enter Tryz.func82, Tryz.ntmps82
    go_wp2_with fail
    refine (done_any B G s _ hP (by omega)).mono ?_
    rintro e u ⟨rfl, rfl⟩
    rw [hno]
    go_wp2_with fail
    refine drewRegion (by kernel_rfl) ?_
    have hbw : Below w.heap.size w w.drew := Below.drew (Below.refl _ _)
    have hQ : Bx3 w.drew B vb vw (.bool false) := by rw [← hno]; exact h4.below hbw
    have hR := h5.stay (w' := w.drew) (fun k hk _ => hbw.block k hk)
    have hI := h6.stay (w' := w.drew) (fun k hk _ => hbw.block k hk)
    generalize w.drew = u3 at hbw hQ hR hI ⊢
    have d0 := hQ.cells.1
    have g0 := hQ.cells.2.2.2.1
    refine aTake (i := 0) (v := ?v1) rfl (by kernel_rfl) (by kernel_rfl) (by kernel_rfl) (fun _ _ _ h => h) (Or.inl ⟨by rfl, ?y1⟩) ?r1
    case y1 =>
      intro w9
      go_simp
      try with_reducible rfl
    try simp only [Act.put, List.setIfInBounds_toArray, List.set_cons_zero, List.set_cons_succ]
    refine aTake (i := 1) (v := ?v2) rfl (by kernel_rfl) (by kernel_rfl) (by kernel_rfl) (fun _ _ _ h => h) (Or.inl ⟨by rfl, ?y2⟩) ?r2
    case y2 =>
      intro w9
      go_simp
      try with_reducible rfl
    try simp only [Act.put, List.setIfInBounds_toArray, List.set_cons_zero, List.set_cons_succ]
    refine aTake (i := 2) (v := ?v3) rfl (by kernel_rfl) (by kernel_rfl) (by kernel_rfl) (fun _ _ _ h => h) (Or.inl ⟨by rfl, ?y3⟩) ?r3
    case y3 =>
      intro w9
      go_simp
      try with_reducible rfl
    try simp only [Act.put, List.setIfInBounds_toArray, List.set_cons_zero, List.set_cons_succ]
    refine aTake (i := 3) (v := ?v4) rfl (by kernel_rfl) (by kernel_rfl) (by kernel_rfl) (fun _ _ _ h => h) (Or.inl ⟨by rfl, ?y4⟩) ?r4
    case y4 =>
      intro w9
      go_simp
      try with_reducible rfl
    try simp only [Act.put, List.setIfInBounds_toArray, List.set_cons_zero, List.set_cons_succ]
    refine aTake (i := 5) (v := ?v5) rfl (by kernel_rfl) (by kernel_rfl) (by kernel_rfl) (fun _ _ _ h => h) (Or.inl ⟨by rfl, ?y5⟩) ?r5
    case y5 =>
      intro w9
      go_simp
      try with_reducible rfl
    try simp only [Act.put, List.setIfInBounds_toArray, List.set_cons_zero, List.set_cons_succ]
    refine aTake (i := 6) (v := ?v6) rfl (by kernel_rfl) (by kernel_rfl) (by kernel_rfl) (fun _ _ _ h => h) (Or.inl ⟨by rfl, ?y6⟩) ?r6
    case y6 =>
      intro w9
      go_simp
      try with_reducible rfl
    try simp only [Act.put, List.setIfInBounds_toArray, List.set_cons_zero, List.set_cons_succ]
    refine wpAny_ready (rs := [4, 7]) (by kernel_rfl) (by simp) (aCons (i := 4) rfl (by rfl) (fun K hK => ?_) (aCons (i := 7) rfl (by rfl) (fun K hK => ?_) AllReady.nil))
    · go_simp
      refine hK.out _ _ ?_
      clear hK K
      try simp only [Act.put, List.setIfInBounds_toArray, List.set_cons_zero, List.set_cons_succ]
      refine wpAny_ready (rs := [7]) (by kernel_rfl) (by simp) (aCons (i := 7) rfl (by rfl) (fun K hK => ?_) AllReady.nil)
      go_simp
      refine (hbig (x + (hi1 + 1)) _ hX0 hX1).mono ?_
      rintro e u4 ⟨a4, c4, rfl, hr4, hb4⟩
      go_wp2_with fail
      have hQ := hQ.below hb4
      have hR := hR.stay (fun k hk _ => hb4.block k hk)
      have hI := hI.stay (fun k hk _ => hb4.block k hk)
      have hbw := hbw.trans (hb4.mono hbw.size)
      have d0 := hQ.cells.1
      have g0 := hQ.cells.2.2.2.1
      refine hK.out _ _ ?_
      clear hK K
      try simp only [Act.put, List.setIfInBounds_toArray, List.set_cons_zero, List.set_cons_succ]
      refine wpAny_ready (rs := [8]) (by kernel_rfl) (by simp) (aCons (i := 8) rfl (by rfl) (fun K hK => ?_) AllReady.nil)
      refine wp_append_rb (.tmp 33) (.tmp 36) 39 rfl 5 i0 Tryz.underlying39 hi hz0 hz1 hz2 _ s.bs.length s.bs rfl hR.1 a4 c4 _ (be (x + (hi1 + 1))) rfl rfl (hne (x + (hi1 + 1))) hr4 (by have := hlen (x + (hi1 + 1)); omega) ?_
      intro v' w1 hown hgrow hat
      obtain ⟨ts, hts⟩ : ∃ ts, s.bs ++ be (x + (hi1 + 1)) = ts := ⟨_, rfl⟩
      have htl : s.bs.length + (be (x + (hi1 + 1))).length = ts.length := by rw [← hts, List.length_append]
      rw [hts, htl] at hown
      have hBt : Byt ts := hts ▸ h3.1.append (hbyt (x + (hi1 + 1)))
      have HT : Hid (s.bs ++ be (x + (hi1 + 1)) = ts) := hts
      have h1' : ∀ k, G k → k < u4.heap.size := fun k hk => Nat.lt_of_lt_of_le (h1 k hk) hbw.size
      have hfin := Ps.appd (s := s) h1' h2 (by rw [hno]; exact hQ) hR hI hown hgrow hat (by have := h3.app (hbyt (x + (hi1 + 1))); rw [St.app_ok hno, hts] at this; exact this)
      have h42 := hQ.grown hR hgrow
      obtain ⟨a2, cap2, rfl, _⟩ := Rw.of hBt hown
      have d0 := h42.cells.1
      have g0 := h42.cells.2.2.2.1
      clear hts htl
      refine hK.out _ _ ?_
      clear hK K
      try simp only [Act.put, List.setIfInBounds_toArray, List.set_cons_zero, List.set_cons_succ]
      refine aTake (i := 9) (v := ?v7) rfl (by kernel_rfl) (by kernel_rfl) (by kernel_rfl) (fun _ _ _ h => h) (Or.inl ⟨by rfl, ?y7⟩) ?r7
      case y7 =>
        intro w9
        go_simp
        try with_reducible rfl
      try simp only [Act.put, List.setIfInBounds_toArray, List.set_cons_zero, List.set_cons_succ]
      refine aTake (i := 10) (v := ?v8) rfl (by kernel_rfl) (by kernel_rfl) (by kernel_rfl) (fun _ _ _ h => h) (Or.inl ⟨by rfl, ?y8⟩) ?r8
      case y8 =>
        intro w9
        go_simp
        try with_reducible rfl
      try simp only [Act.put, List.setIfInBounds_toArray, List.set_cons_zero, List.set_cons_succ]
      refine wpAny_ready (rs := [11]) (by kernel_rfl) (by simp) (aCons (i := 11) rfl (by rfl) (fun K hK => ?_) AllReady.nil)
      go_simp
      refine hK.out _ _ ?_
      clear hK K
      try simp only [Act.put, List.setIfInBounds_toArray, List.set_cons_zero, List.set_cons_succ]
      refine wpAny_done (by kernel_rfl) ?_ _
      go_wp2
      go_end0
      have hKz := (Keep.of_below hbw h1).trans hfin.2
      refine ⟨rfl, ?_, hKz⟩
      rw [hst.out, ← HPER.out x, St.app_ok hno, HT.out]
      exact hfin.1
    · go_simp
      refine (hbig (x + (hi1 + 1)) _ hX0 hX1).mono ?_
      rintro e u4 ⟨a4, c4, rfl, hr4, hb4⟩
      go_wp2_with fail
      have hQ := hQ.below hb4
      have hR := hR.stay (fun k hk _ => hb4.block k hk)
      have hI := hI.stay (fun k hk _ => hb4.block k hk)
      have hbw := hbw.trans (hb4.mono hbw.size)
      have d0 := hQ.cells.1
      have g0 := hQ.cells.2.2.2.1
      refine hK.out _ _ ?_
      clear hK K
      try simp only [Act.put, List.setIfInBounds_toArray, List.set_cons_zero, List.set_cons_succ]
      refine wpAny_ready (rs := [4]) (by kernel_rfl) (by simp) (aCons (i := 4) rfl (by rfl) (fun K hK => ?_) AllReady.nil)
      go_simp
      refine hK.out _ _ ?_
      clear hK K
      try simp only [Act.put, List.setIfInBounds_toArray, List.set_cons_zero, List.set_cons_succ]
      refine wpAny_ready (rs := [8]) (by kernel_rfl) (by simp) (aCons (i := 8) rfl (by rfl) (fun K hK => ?_) AllReady.nil)
      refine wp_append_rb (.tmp 33) (.tmp 36) 39 rfl 5 i0 Tryz.underlying39 hi hz0 hz1 hz2 _ s.bs.length s.bs rfl hR.1 a4 c4 _ (be (x + (hi1 + 1))) rfl rfl (hne (x + (hi1 + 1))) hr4 (by have := hlen (x + (hi1 + 1)); omega) ?_
      intro v' w1 hown hgrow hat
      obtain ⟨ts, hts⟩ : ∃ ts, s.bs ++ be (x + (hi1 + 1)) = ts := ⟨_, rfl⟩
      have htl : s.bs.length + (be (x + (hi1 + 1))).length = ts.length := by rw [← hts, List.length_append]
      rw [hts, htl] at hown
      have hBt : Byt ts := hts ▸ h3.1.append (hbyt (x + (hi1 + 1)))
      have HT : Hid (s.bs ++ be (x + (hi1 + 1)) = ts) := hts
      have h1' : ∀ k, G k → k < u4.heap.size := fun k hk => Nat.lt_of_lt_of_le (h1 k hk) hbw.size
      have hfin := Ps.appd (s := s) h1' h2 (by rw [hno]; exact hQ) hR hI hown hgrow hat (by have := h3.app (hbyt (x + (hi1 + 1))); rw [St.app_ok hno, hts] at this; exact this)
      have h42 := hQ.grown hR hgrow
      obtain ⟨a2, cap2, rfl, _⟩ := Rw.of hBt hown
      have d0 := h42.cells.1
      have g0 := h42.cells.2.2.2.1
      clear hts htl
      refine hK.out _ _ ?_
      clear hK K
      try simp only [Act.put, List.setIfInBounds_toArray, List.set_cons_zero, List.set_cons_succ]
      refine aTake (i := 9) (v := ?v9) rfl (by kernel_rfl) (by kernel_rfl) (by kernel_rfl) (fun _ _ _ h => h) (Or.inl ⟨by rfl, ?y9⟩) ?r9
      case y9 =>
        intro w9
        go_simp
        try with_reducible rfl
      try simp only [Act.put, List.setIfInBounds_toArray, List.set_cons_zero, List.set_cons_succ]
      refine aTake (i := 10) (v := ?v10) rfl (by kernel_rfl) (by kernel_rfl) (by kernel_rfl) (fun _ _ _ h => h) (Or.inl ⟨by rfl, ?y10⟩) ?r10
      case y10 =>
        intro w9
        go_simp
        try with_reducible rfl
      try simp only [Act.put, List.setIfInBounds_toArray, List.set_cons_zero, List.set_cons_succ]
      refine wpAny_ready (rs := [11]) (by kernel_rfl) (by simp) (aCons (i := 11) rfl (by rfl) (fun K hK => ?_) AllReady.nil)
      go_simp
      refine hK.out _ _ ?_
      clear hK K
      try simp only [Act.put, List.setIfInBounds_toArray, List.set_cons_zero, List.set_cons_succ]
      refine wpAny_done (by kernel_rfl) ?_ _
      go_wp2
      go_end0
      have hKz := (Keep.of_below hbw h1).trans hfin.2
      refine ⟨rfl, ?_, hKz⟩
      rw [hst.out, ← HPER.out x, St.app_ok hno, HT.out]
      exact hfin.1
  · have hX0 : 0 ≤ x := by omega
    have hX1 : x ≤ 9223372036854775807 := x2
    clear hlo
    go_enter Tryz.func82, Tryz.ntmps82
    go_wp2_with fail
    refine (done_any B G s _ hP (by omega)).mono ?_
    rintro e u ⟨rfl, rfl⟩
    rw [hno]
    go_wp2_with fail
    refine drewRegion (by kernel_rfl) ?_
    have hbw : Below w.heap.size w w.drew := Below.drew (Below.refl _ _)
    have hQ : Bx3 w.drew B vb vw (.bool false) := by rw [← hno]; exact h4.below hbw
    have hR := h5.stay (w' := w.drew) (fun k hk _ => hbw.block k hk)
    have hI := h6.stay (w' := w.drew) (fun k hk _ => hbw.block k hk)
    generalize w.drew = u3 at hbw hQ hR hI ⊢
    have d0 := hQ.cells.1
    have g0 := hQ.cells.2.2.2.1
    refine aTake (i := 0) (v := ?v11) rfl (by kernel_rfl) (by kernel_rfl) (by kernel_rfl) (fun _ _ _ h => h) (Or.inl ⟨by rfl, ?y11⟩) ?r11
    case y11 =>
      intro w9
      go_simp
      try with_reducible rfl
    try simp only [Act.put, List.setIfInBounds_toArray, List.set_cons_zero, List.set_cons_succ]
    refine aTake (i := 1) (v := ?v12) rfl (by kernel_rfl) (by kernel_rfl) (by kernel_rfl) (fun _ _ _ h => h) (Or.inl ⟨by rfl, ?y12⟩) ?r12
    case y12 =>
      intro w9
      go_simp
      try with_reducible rfl
    try simp only [Act.put, List.setIfInBounds_toArray, List.set_cons_zero, List.set_cons_succ]
    refine aTake (i := 2) (v := ?v13) rfl (by kernel_rfl) (by kernel_rfl) (by kernel_rfl) (fun _ _ _ h => h) (Or.inl ⟨by rfl, ?y13⟩) ?r13
    case y13 =>
      intro w9
      go_simp
      try with_reducible rfl
    try simp only [Act.put, List.setIfInBounds_toArray, List.set_cons_zero, List.set_cons_succ]
    refine aTake (i := 3) (v := ?v14) rfl (by kernel_rfl) (by kernel_rfl) (by kernel_rfl) (fun _ _ _ h => h) (Or.inl ⟨by rfl, ?y14⟩) ?r14
    case y14 =>
      intro w9
      go_simp
      try with_reducible rfl
    try simp only [Act.put, List.setIfInBounds_toArray, List.set_cons_zero, List.set_cons_succ]
    refine aTake (i := 5) (v := ?v15) rfl (by kernel_rfl) (by kernel_rfl) (by kernel_rfl) (fun _ _ _ h => h) (Or.inl ⟨by rfl, ?y15⟩) ?r15
    case y15 =>
      intro w9
      go_simp
      try with_reducible rfl
    try simp only [Act.put, List.setIfInBounds_toArray, List.set_cons_zero, List.set_cons_succ]
    refine aTake (i := 6) (v := ?v16) rfl (by kernel_rfl) (by kernel_rfl) (by kernel_rfl) (fun _ _ _ h => h) (Or.inl ⟨by rfl, ?y16⟩) ?r16
    case y16 =>
      intro w9
      go_simp
      try with_reducible rfl
    try simp only [Act.put, List.setIfInBounds_toArray, List.set_cons_zero, List.set_cons_succ]
    refine wpAny_ready (rs := [4, 7]) (by kernel_rfl) (by simp) (aCons (i := 4) rfl (by rfl) (fun K hK => ?_) (aCons (i := 7) rfl (by rfl) (fun K hK => ?_) AllReady.nil))
    · go_simp
      refine hK.out _ _ ?_
      clear hK K
      try simp only [Act.put, List.setIfInBounds_toArray, List.set_cons_zero, List.set_cons_succ]
      refine wpAny_ready (rs := [7]) (by kernel_rfl) (by simp) (aCons (i := 7) rfl (by rfl) (fun K hK => ?_) AllReady.nil)
      go_simp
      refine (hbig x _ hX0 hX1).mono ?_
      rintro e u4 ⟨a4, c4, rfl, hr4, hb4⟩
      go_wp2_with fail
      have hQ := hQ.below hb4
      have hR := hR.stay (fun k hk _ => hb4.block k hk)
      have hI := hI.stay (fun k hk _ => hb4.block k hk)
      have hbw := hbw.trans (hb4.mono hbw.size)
      have d0 := hQ.cells.1
      have g0 := hQ.cells.2.2.2.1
      refine hK.out _ _ ?_
      clear hK K
      try simp only [Act.put, List.setIfInBounds_toArray, List.set_cons_zero, List.set_cons_succ]
      refine wpAny_ready (rs := [8]) (by kernel_rfl) (by simp) (aCons (i := 8) rfl (by rfl) (fun K hK => ?_) AllReady.nil)
      refine wp_append_rb (.tmp 33) (.tmp 36) 39 rfl 5 i0 Tryz.underlying39 hi hz0 hz1 hz2 _ s.bs.length s.bs rfl hR.1 a4 c4 _ (be x) rfl rfl (hne x) hr4 (by have := hlen x; omega) ?_
      intro v' w1 hown hgrow hat
      obtain ⟨ts, hts⟩ : ∃ ts, s.bs ++ be x = ts := ⟨_, rfl⟩
      have htl : s.bs.length + (be x).length = ts.length := by rw [← hts, List.length_append]
      rw [hts, htl] at hown
      have hBt : Byt ts := hts ▸ h3.1.append (hbyt x)
      have HT : Hid (s.bs ++ be x = ts) := hts
      have h1' : ∀ k, G k → k < u4.heap.size := fun k hk => Nat.lt_of_lt_of_le (h1 k hk) hbw.size
      have hfin := Ps.appd (s := s) h1' h2 (by rw [hno]; exact hQ) hR hI hown hgrow hat (by have := h3.app (hbyt x); rw [St.app_ok hno, hts] at this; exact this)
      have h42 := hQ.grown hR hgrow
      obtain ⟨a2, cap2, rfl, _⟩ := Rw.of hBt hown
      have d0 := h42.cells.1
      have g0 := h42.cells.2.2.2.1
      clear hts htl
      refine hK.out _ _ ?_
      clear hK K
      try simp only [Act.put, List.setIfInBounds_toArray, List.set_cons_zero, List.set_cons_succ]
      refine aTake (i := 9) (v := ?v17) rfl (by kernel_rfl) (by kernel_rfl) (by kernel_rfl) (fun _ _ _ h => h) (Or.inl ⟨by rfl, ?y17⟩) ?r17
      case y17 =>
        intro w9
        go_simp
        try with_reducible rfl
      try simp only [Act.put, List.setIfInBounds_toArray, List.set_cons_zero, List.set_cons_succ]
      refine aTake (i := 10) (v := ?v18) rfl (by kernel_rfl) (by kernel_rfl) (by kernel_rfl) (fun _ _ _ h => h) (Or.inl ⟨by rfl, ?y18⟩) ?r18
      case y18 =>
        intro w9
        go_simp
        try with_reducible rfl
      try simp only [Act.put, List.setIfInBounds_toArray, List.set_cons_zero, List.set_cons_succ]
      refine wpAny_ready (rs := [11]) (by kernel_rfl) (by simp) (aCons (i := 11) rfl (by rfl) (fun K hK => ?_) AllReady.nil)
      go_simp
      refine hK.out _ _ ?_
      clear hK K
      try simp only [Act.put, List.setIfInBounds_toArray, List.set_cons_zero, List.set_cons_succ]
      refine wpAny_done (by kernel_rfl) ?_ _
      go_wp2
      go_end0
      have hKz := (Keep.of_below hbw h1).trans hfin.2
      refine ⟨rfl, ?_, hKz⟩
      rw [hst.out, St.app_ok hno, HT.out]
      exact hfin.1
    · go_simp
      refine (hbig x _ hX0 hX1).mono ?_
      rintro e u4 ⟨a4, c4, rfl, hr4, hb4⟩
      go_wp2_with fail
      have hQ := hQ.below hb4
      have hR := hR.stay (fun k hk _ => hb4.block k hk)
      have hI := hI.stay (fun k hk _ => hb4.block k hk)
      have hbw := hbw.trans (hb4.mono hbw.size)
      have d0 := hQ.cells.1
      have g0 := hQ.cells.2.2.2.1
      refine hK.out _ _ ?_
      clear hK K
      try simp only [Act.put, List.setIfInBounds_toArray, List.set_cons_zero, List.set_cons_succ]
      refine wpAny_ready (rs := [4]) (by kernel_rfl) (by simp) (aCons (i := 4) rfl (by rfl) (fun K hK => ?_) AllReady.nil)
      go_simp
      refine hK.out _ _ ?_
      clear hK K
      try simp only [Act.put, List.setIfInBounds_toArray, List.set_cons_zero, List.set_cons_succ]
      refine wpAny_ready (rs := [8]) (by kernel_rfl) (by simp) (aCons (i := 8) rfl (by rfl) (fun K hK => ?_) AllReady.nil)
      refine wp_append_rb (.tmp 33) (.tmp 36) 39 rfl 5 i0 Tryz.underlying39 hi hz0 hz1 hz2 _ s.bs.length s.bs rfl hR.1 a4 c4 _ (be x) rfl rfl (hne x) hr4 (by have := hlen x; omega) ?_
      intro v' w1 hown hgrow hat
      obtain ⟨ts, hts⟩ : ∃ ts, s.bs ++ be x = ts := ⟨_, rfl⟩
      have htl : s.bs.length + (be x).length = ts.length := by rw [← hts, List.length_append]
      rw [hts, htl] at hown
      have hBt : Byt ts := hts ▸ h3.1.append (hbyt x)
      have HT : Hid (s.bs ++ be x = ts) := hts
      have h1' : ∀ k, G k → k < u4.heap.size := fun k hk => Nat.lt_of_lt_of_le (h1 k hk) hbw.size
      have hfin := Ps.appd (s := s) h1' h2 (by rw [hno]; exact hQ) hR hI hown hgrow hat (by have := h3.app (hbyt x); rw [St.app_ok hno, hts] at this; exact this)
      have h42 := hQ.grown hR hgrow
      obtain ⟨a2, cap2, rfl, _⟩ := Rw.of hBt hown
      have d0 := h42.cells.1
      have g0 := h42.cells.2.2.2.1
      clear hts htl
      refine hK.out _ _ ?_
      clear hK K
      try simp only [Act.put, List.setIfInBounds_toArray, List.set_cons_zero, List.set_cons_succ]
      refine aTake (i := 9) (v := ?v19) rfl (by kernel_rfl) (by kernel_rfl) (by kernel_rfl) (fun _ _ _ h => h) (Or.inl ⟨by rfl, ?y19⟩) ?r19
      case y19 =>
        intro w9
        go_simp
        try with_reducible rfl
      try simp only [Act.put, List.setIfInBounds_toArray, List.set_cons_zero, List.set_cons_succ]
      refine aTake (i := 10) (v := ?v20) rfl (by kernel_rfl) (by kernel_rfl) (by kernel_rfl) (fun _ _ _ h => h) (Or.inl ⟨by rfl, ?y20⟩) ?r20
      case y20 =>
        intro w9
        go_simp
        try with_reducible rfl
      try simp only [Act.put, List.setIfInBounds_toArray, List.set_cons_zero, List.set_cons_succ]
      refine wpAny_ready (rs := [11]) (by kernel_rfl) (by simp) (aCons (i := 11) rfl (by rfl) (fun K hK => ?_) AllReady.nil)
      go_simp
      refine hK.out _ _ ?_
      clear hK K
      try simp only [Act.put, List.setIfInBounds_toArray, List.set_cons_zero, List.set_cons_succ]
      refine wpAny_done (by kernel_rfl) ?_ _
      go_wp2
      go_end0
      have hKz := (Keep.of_below hbw h1).trans hfin.2
      refine ⟨rfl, ?_, hKz⟩
      rw [hst.out, St.app_ok hno, HT.out]
      exact hfin.1

theorem per1 (x : Int) : be1 (x + (255 + 1)) = be1 x := by
  simp only [be1, List.cons.injEq, and_true]
  omega
theorem per2 (x : Int) : be2 (x + (65535 + 1)) = be2 x := by
  simp only [be2, List.cons.injEq, and_true]
  omega
theorem sput16_any (B : Nat) (G : Nat → Prop) (s : St) (x : Int) (w : World) (h : Ps w B G s) (hx : I64 x) (hl : s.bs.length + 4 ≤ 1048576) :
    Calls Tryz.prog 50 #[pg B, .int .i64 x] w fun e w' => e = .returned (.tuple #[]) ∧ Ps w' B G (s.put16 x) ∧ Keep G w w' := by
  go_enter Tryz.func50, Tryz.ntmps50
  go_wp2_with fail
  refine (sput_any 2 (-32768) 65535 be2 byt_be2 (fun x => by simp [be2]) (fun x => by simp [be2]) per2 big2_any (by decide) (by decide) (by decide) St.put16 (fun _ _ => rfl) B G s x _ h hx hl).mono ?_
  rintro e u ⟨rfl, hP, hK⟩
  go_wp2
  go_end0
  exact ⟨rfl, hP, hK⟩

theorem per4 (x : Int) : be4 (x + (4294967295 + 1)) = be4 x := by
  simp only [be4, List.cons.injEq, and_true]
  omega
end Go.Proofs.YtdholmnniccbcaaGreatDoor

namespace Go.Proofs.YtdholmnniccbcaaGreatDoor
open Go.RowKit Go.Maps
set_option linter.unusedSimpArgs false
set_option linter.unusedVariables false

theorem BxP.kept {G : Nat → Prop} {w w' : World} {g : Nat} {x y : Value} (h : BxP w g x y) (hk : Keep G w w') (hg : G g) : BxP w' g x y := (hk.block g hg).trans h
theorem info_pr : (Tryz.prog.info? 49).map (fun i => (i.zero, i.size, i.bytes)) = some (some (.agg #[.int .i64 0, .int .i64 0]), 2, 16) := by kernel_rfl
theorem info_prs : (Tryz.prog.info? 22).map (fun i => (i.zero, i.size, i.bytes)) = some (some (.slice none 0 0), 1, 24) := by kernel_rfl

/-- The cells of pairs. -/
def prL : List Pr → List Value
  | [] => []
  | t :: l => [.int .i64 t.1, .int .i64 t.2] ++ prL l
theorem prL_append (l m : List Pr) : prL (l ++ m) = prL l ++ prL m := by
  induction l with
  | nil => rfl
  | cons t l ih => rw [List.cons_append, prL, prL, ih, List.append_assoc]
theorem prL_len (l : List Pr) : (prL l).length = l.length * 2 := by
  induction l with
  | nil => rfl
  | cons t l ih => rw [prL, List.length_append, ih]; simp; omega
theorem prL_get : ∀ (l : List Pr) (i : Nat), i < l.length → (prL l)[i * 2]? = some (.int .i64 (l.getD i (0, 0)).1) ∧ (prL l)[i * 2 + 1]? = some (.int .i64 (l.getD i (0, 0)).2) := by
  intro l
  induction l with
  | nil => intro i hi; simp at hi
  | cons t l ih =>
    intro i hi
    cases i with
    | zero => simp [prL, List.getD]
    | succ i =>
      have := ih i (by simpa using hi)
      rw [prL]
      simp only [show (i + 1) * 2 = i * 2 + 2 by omega, List.getD_cons_succ]
      simp only [List.cons_append, List.nil_append, show i * 2 + 2 + 1 = i * 2 + 1 + 2 by omega]
      simpa using this
/-- A row of pairs of the call's own. -/
def Po (base : Nat) (w : World) (v : Value) (l : List Pr) : Prop := (∀ t ∈ l, I64 t.1 ∧ I64 t.2) ∧ w.ownsRow base 49 2 v l.length (prL l)
theorem Po.nil (base : Nat) (w : World) : Po base w (.slice none 0 0) [] := ⟨(fun t ht => by cases ht), World.ownsRow_nil w base _ 2⟩
theorem Po.slice {base : Nat} {w : World} {v : Value} {l : List Pr} (h : Po base w v l) : ∃ a cap, v = .slice a l.length cap ∧ Pz w a cap l ∧ ∀ b o, a = some ⟨b, o, none⟩ → base ≤ b := by
  obtain ⟨h1, h3⟩ := h
  rcases h3.2 with ⟨rfl, h0⟩ | ⟨g, cap, cur, rfl, hb, hg, hc1, hc2, hc3, ht⟩
  · have : l = [] := List.length_eq_zero_iff.1 h0
    subst this
    exact ⟨none, 0, rfl, Pz.nil _ _ _ (Nat.zero_le _), fun b o e => by cases e⟩
  · refine ⟨_, cap, rfl, ⟨hc1, hc2, h1, fun i hi => ?_⟩, fun b o e => by cases e; exact hb⟩
    obtain ⟨k0, k1⟩ := prL_get l i hi
    have hadd : ∀ j, (⟨g, 0, none⟩ : Addr).add j = ⟨g, 0 + j, none⟩ := by intro j; unfold Addr.add; split <;> simp_all
    have d0 := h3.cells (g := g) rfl (i * 2) _ k0
    have d1 := h3.cells (g := g) rfl (i * 2 + 1) _ k1
    rw [hadd] at d0 d1
    exact ⟨g, 0, rfl, (Array.getElem?_eq_some_iff.1 hg).1, d0, d1⟩
theorem Po.below {base : Nat} {w w' : World} {v : Value} {l : List Pr} (h : Po base w v l) (hb : Below w.heap.size w w') : Po base w' v l := by
  obtain ⟨h1, h3⟩ := h
  refine ⟨h1, h3.1, ?_⟩
  rcases h3.2 with h0 | ⟨g, cap', cur, k1, k2, k3, k4⟩
  · exact .inl h0
  · exact .inr ⟨g, cap', cur, k1, k2, (hb.block g (Array.getElem?_eq_some_iff.1 k3).1).trans k3, k4⟩
theorem Po.lo {base : Nat} {w : World} {v : Value} {l : List Pr} (h : Po base w v l) {g : Nat} (hg : v.ownBlock = some g) : base ≤ g := (World.ownsRow.lt h.2 g hg).1
/-- 'append(l, p)': p is laid in a block of its own first. -/
theorem wpList_append_pr {w : World} {ops : Array Oper} {rest : List Oper} {o : Oper} {a : Act} {Q : Exit → Act → World → Prop}
    (hgd : o.guard = none) (s x : Operand) (ho : o.op = .call { callee := .builtin .append, args := #[s, x], argTypes := #[22, 22] })
    (base : Nat) (v : Value) (l : List Pr) (hs : a.eval s = v) (hown : Po base w v l) (g : Nat) (t : Pr) (hx : a.eval x = .slice (some ⟨g, 0, none⟩) 1 1)
    (c0 : w.cell? ⟨g, 0, none⟩ = some (.int .i64 t.1)) (c1 : w.cell? ⟨g, 1, none⟩ = some (.int .i64 t.2))
    (ht : I64 t.1 ∧ I64 t.2) (hlen : l.length + 1 ≤ 1000000) (hbase : base ≤ w.heap.size)
    (h : ∀ v' w', Po base w' v' (l ++ [t]) → w.grownBy w' v.ownBlock → wpList Tryz.prog ops Q rest (a.put o.dst v') w') : wpList Tryz.prog ops Q (o :: rest) a w := by
  obtain ⟨i0, hi, hz0, hz1, hz2⟩ := info_parts info_pr
  refine wpList_append_own_at w hgd s x 22 ho base 49 i0 (.agg #[.int .i64 0, .int .i64 0]) 2 16 Tryz.underlying22 hi hz0 hz1 hz2 rfl (by decide) v l.length (prL l) hs hown.2 ⟨g, 0, none⟩ 1 1 [.int .i64 t.1, .int .i64 t.2] hx rfl ?_ ?_ (by unfold maxLen; omega) (by omega) hbase ?_
  · intro j u hj
    match j, hj with
    | 0, hj => simp at hj; subst hj; simpa [Addr.add] using c0
    | 1, hj => simp at hj; subst hj; simpa [Addr.add] using c1
  · intro u hu
    simp at hu
    rcases hu with rfl | rfl <;> rfl
  · intro v' w' k1 k2 _ _
    refine h v' w' ⟨fun s hs => ?_, ?_⟩ k2
    · rcases List.mem_append.1 hs with hs | hs
      · exact hown.1 s hs
      · rw [List.mem_singleton.1 hs]; exact ht
    · rw [prL_append, List.length_append]
      exact k1

/-- A row of bends of the call's own. -/
def Pq (base : Nat) (w : World) (v : Value) (m : List (List Pr)) : Prop :=
  ∃ vs : List Value, w.ownsRow base 22 1 v m.length vs ∧ ∀ i, i < m.length → ∃ a cap, vs[i]? = some (.slice a (m.getD i []).length cap) ∧ Pz w a cap (m.getD i []) ∧ ∀ b o, a = some ⟨b, o, none⟩ → m.getD i [] ≠ [] → v.ownBlock ≠ some b
theorem Pq.nil (base : Nat) (w : World) : Pq base w (.slice none 0 0) [] := ⟨[], World.ownsRow_nil w base _ 1, fun i hi => by simp at hi⟩
theorem Pq.slice {base : Nat} {w : World} {v : Value} {m : List (List Pr)} (h : Pq base w v m) : ∃ a cap, v = .slice a m.length cap ∧ Pzz w a cap m := by
  obtain ⟨vs, h3, h4⟩ := h
  rcases h3.2 with ⟨rfl, h0⟩ | ⟨g, cap, cur, rfl, hb, hg, hc1, hc2, hc3, ht⟩
  · have : m = [] := List.length_eq_zero_iff.1 h0
    subst this
    exact ⟨none, 0, rfl, Pzz.nil _ _ _ (Nat.zero_le _)⟩
  · refine ⟨_, cap, rfl, hc1, hc2, fun i hi => ?_⟩
    obtain ⟨a', cap', k0, k1, _⟩ := h4 i hi
    have hadd : ∀ j, (⟨g, 0, none⟩ : Addr).add j = ⟨g, 0 + j, none⟩ := by intro j; unfold Addr.add; split <;> simp_all
    have d0 := h3.cells (g := g) rfl i _ k0
    rw [hadd] at d0
    exact ⟨g, 0, a', cap', rfl, (Array.getElem?_eq_some_iff.1 hg).1, d0, k1⟩
theorem Pq.below {base : Nat} {w w' : World} {v : Value} {m : List (List Pr)} (h : Pq base w v m) (hb : Below w.heap.size w w') : Pq base w' v m := by
  obtain ⟨vs, h3, h4⟩ := h
  refine ⟨vs, ⟨h3.1, ?_⟩, fun i hi => ?_⟩
  · rcases h3.2 with h0 | ⟨g, cap', cur, k1, k2, k3, k4⟩
    · exact .inl h0
    · exact .inr ⟨g, cap', cur, k1, k2, (hb.block g (Array.getElem?_eq_some_iff.1 k3).1).trans k3, k4⟩
  · obtain ⟨a', cap', k0, k1, k2⟩ := h4 i hi
    exact ⟨a', cap', k0, k1.below hb, k2⟩
theorem Pq.lo {base : Nat} {w : World} {v : Value} {m : List (List Pr)} (h : Pq base w v m) {g : Nat} (hg : v.ownBlock = some g) : base ≤ g ∧ g < w.heap.size := by
  obtain ⟨vs, h3, _⟩ := h
  exact World.ownsRow.lt h3 g hg
/-- 'append(l, pairs)': the slice is laid in a block of its own first. -/
theorem wpList_append_bn {w : World} {ops : Array Oper} {rest : List Oper} {o : Oper} {a : Act} {Q : Exit → Act → World → Prop}
    (hgd : o.guard = none) (s x : Operand) (ho : o.op = .call { callee := .builtin .append, args := #[s, x], argTypes := #[29, 29] })
    (base : Nat) (v : Value) (m : List (List Pr)) (hs : a.eval s = v) (hown : Pq base w v m) (g : Nat) (a' : Option Addr) (cap' : Nat) (l : List Pr) (hx : a.eval x = .slice (some ⟨g, 0, none⟩) 1 1)
    (c0 : w.cell? ⟨g, 0, none⟩ = some (.slice a' l.length cap')) (hl : Pz w a' cap' l) (hne : ∀ b o, a' = some ⟨b, o, none⟩ → l ≠ [] → v.ownBlock ≠ some b) (hlen : m.length + 1 ≤ 1000000) (hbase : base ≤ w.heap.size)
    (h : ∀ v' w', Pq base w' v' (m ++ [l]) → w.grownBy w' v.ownBlock → wpList Tryz.prog ops Q rest (a.put o.dst v') w') : wpList Tryz.prog ops Q (o :: rest) a w := by
  obtain ⟨i0, hi, hz0, hz1, hz2⟩ := info_parts info_prs
  obtain ⟨vs, h3, h4⟩ := hown
  refine wpList_append_own_at w hgd s x 29 ho base 22 i0 (.slice none 0 0) 1 24 Tryz.underlying29 hi hz0 hz1 hz2 rfl (by decide) v m.length vs hs h3 ⟨g, 0, none⟩ 1 1 [.slice a' l.length cap'] hx rfl ?_ ?_ (by unfold maxLen; omega) (by omega) hbase ?_
  · intro j u hj
    match j, hj with
    | 0, hj => simp at hj; subst hj; simpa [Addr.add] using c0
  · intro u hu
    simp at hu
    subst hu
    rfl
  · intro v' w' k1 k2 _ k4
    have hvs : vs.length = m.length := by have := h3.1; omega
    have hkeep : ∀ a2 c2 l2, Pz w a2 c2 l2 → (∀ b o, a2 = some ⟨b, o, none⟩ → l2 ≠ [] → v.ownBlock ≠ some b) → Pz w' a2 c2 l2 ∧ (∀ b o, a2 = some ⟨b, o, none⟩ → l2 ≠ [] → v'.ownBlock ≠ some b) := by
      intro a2 c2 l2 hp hn
      refine ⟨hp.keep k2.size (fun b hb ho hl2 => ?_), fun b o e hl2 => ?_⟩
      · obtain ⟨o, e⟩ := ho
        exact k2.block b hb (fun e' => hn b o e hl2 e'.symm)
      · rcases k4 with k4 | k4
        · rw [k4]; exact hn b o e hl2
        · rw [k4]
          intro e'
          have : 0 < l2.length := List.length_pos_iff.2 hl2
          obtain ⟨b2, o2, e2, hb2, _⟩ := hp.2.2.2 0 this
          rw [e] at e2
          cases e2
          cases e'
          exact absurd hb2 (Nat.lt_irrefl _)
    refine h v' w' ⟨vs ++ [.slice a' l.length cap'], by rw [List.length_append]; exact k1, fun i hi => ?_⟩ k2
    by_cases him : i < m.length
    · obtain ⟨a2, c2, q0, q1, q2⟩ := h4 i him
      have e : (m ++ [l]).getD i [] = m.getD i [] := by simp [List.getD, List.getElem?_append_left him]
      rw [e]
      obtain ⟨r1, r2⟩ := hkeep _ _ _ q1 q2
      exact ⟨a2, c2, by rw [List.getElem?_append_left (by omega)]; exact q0, r1, r2⟩
    · have him' : i = m.length := by simp at hi; omega
      subst him'
      have e : (m ++ [l]).getD m.length [] = l := by simp [List.getD]
      rw [e]
      obtain ⟨r1, r2⟩ := hkeep _ _ _ hl hne
      exact ⟨a', cap', by rw [List.getElem?_append_right (by omega), hvs]; simp, r1, r2⟩

end Go.Proofs.YtdholmnniccbcaaGreatDoor

namespace Go.Proofs.YtdholmnniccbcaaGreatDoor
open Go.RowKit Go.Maps
set_option linter.unusedSimpArgs false
set_option linter.unusedVariables false

theorem put32A {bs : List Nat} {ws : List Int} {n : Int} (h1 : -2147483648 ≤ n) (h2 : n ≤ 4294967295) : (St.mk bs ws false).put32 n = ⟨bs ++ be4 n, ws, false⟩ := by simp [St.put32, h1, h2, St.app]
theorem put16A {bs : List Nat} {ws : List Int} {n : Int} (h1 : -32768 ≤ n) (h2 : n ≤ 65535) : (St.mk bs ws false).put16 n = ⟨bs ++ be2 n, ws, false⟩ := by simp [St.put16, h1, h2, St.app]
theorem tagA {bs : List Nat} {ws : List Int} {xs : List Nat} (h : gd xs = true) : (St.mk bs ws false).tag xs = ⟨bs ++ xs, ws, false⟩ := by simp [St.tag, h, St.app]
theorem ps_newA (w : World) (G : Nat → Prop) (hG : ∀ k, G k → k < w.heap.size) : Ps (w.alloc (.cells #[.slice none 0 0, .slice none 0 0, .bool false] 84)) w.heap.size G St.zero := by
  refine ⟨fun k hk => by have := hG k hk; simp; omega, fun h => by have := hG _ h; omega, Wf.zero, .slice none 0 0, .slice none 0 0, heap_alloc_new w _, ⟨World.ownsRow_nil _ 0 _ 1, fun g hg => by cases hg⟩, ⟨OwnI.nil _, fun g hg => by cases hg⟩⟩
theorem pc_newA (w : World) (G : Nat → Prop) (hG : ∀ k, G k → k < w.heap.size) : Pc (w.alloc (.cells #[.slice none 0 0, .int .i64 0, .map none, .bool false] 78)) w.heap.size G St.zero := by
  refine ⟨fun k hk => by have := hG k hk; simp; omega, fun h => by have := hG _ h; omega, Wf.zero, .slice none 0 0, .map none, heap_alloc_new w _, (fun h => by cases h), fun _ => ⟨⟨World.ownsRow_nil _ 0 _ 1, fun g hg => by cases hg⟩, .inl ⟨rfl, rfl⟩⟩⟩
theorem Pc.moreA {w : World} {B : Nat} {G : Nat → Prop} {s : St} (h : Pc w B G s) (o : Obj) : Pc (w.alloc o) B (fun k => G k ∨ k = w.heap.size) s := by
  refine h.guard_new (by simp) (fun k hk _ => (bl1 o).block k hk) ?_
  rintro k (hk | rfl)
  · exact ⟨by have := h.1 k hk; simp; omega, fun _ => hk⟩
  · exact ⟨by simp, fun hlt => absurd hlt (Nat.lt_irrefl _)⟩

end Go.Proofs.YtdholmnniccbcaaGreatDoor
