/-
  foundryref04.Page: put, Put8, Put16, Put32, PutBytes, PutTag, Pad, All: the walks.
  Pages: what is put, in plain words; new pages.
  The bytes of a store, piece by piece (plain mathematics); a block of three cells beside a page.
-/
import Derived.Test.YtjefaccpmoignaaZ19
import Derived.Test.YtjefaccpmoignaaZ17
import Derived.Test.YtjefaccpmoignaaZ18
import Derived.Test.YtjefaccpmoignaaZ6
namespace Go.Proofs.Ytjefaccpmoignaa
open Go.RowKit Go.Maps
set_option linter.unusedSimpArgs false
set_option linter.unusedVariables false
set_option maxHeartbeats 1000000 in
set_option maxRecDepth 100000 in
theorem sall_any (B : Nat) (G : Nat → Prop) (s : St) (w : World) (h : Ps w B G s) (hl : s.bs.length ≤ 1048576) :
    Calls Try.prog 36 #[pg B] w fun e w' => ∃ a' cap', e = .returned (.tuple #[.slice a' (allB s).length cap', .int .i64 (allE s)]) ∧ Rw 5 w.heap.size w' a' cap' (allB s) ∧ Below w.heap.size w w' := by
  obtain ⟨i0, hi, hz0, hz1, hz2⟩ := info_parts info_byte
  obtain ⟨h1, h2, h3, vb, vw, h4, h5, h6⟩ := h
  obtain ⟨c0, c1, c2, f0, f1, f2⟩ := h4.cells
  obtain ⟨a, c, rfl⟩ := h5.slice
  obtain ⟨aw, cw, rfl, q1, q2, _⟩ := h6.1.slice
  have hrb := h5.rb h3.1
  unfold maxLen at q2
  by_cases hno : s.no = true
  · have HE : Hid (allE s = 4) := by show allE s = 4; simp [allE, hno]
    have HB : Hid (allB s = []) := by show allB s = []; simp [allB, hno]
    rw [hno] at c2
    clear h1 h2 h3 h4 h5 h6 hno
    go_enter Try.func36, Try.ntmps36
    go_wp2
    go_ret2
    refine ⟨none, 0, rt_two (by rw [HB.out]; rfl) (by rw [HE.out]; rfl), ?_, Below.refl _ _⟩
    rw [HB.out]
    exact Rw.nil _ _
  · have hno : s.no = false := by simpa using hno
    rw [hno] at c2
    by_cases hws : s.ws = []
    · have HE : Hid (allE s = 0) := by show allE s = 0; simp [allE, hno, hws]
      have HB : Hid (allB s = s.bs) := by show allB s = s.bs; simp [allB, hno, hws]
      rw [hws] at c1
      generalize s.bs = bs at *
      clear h1 h2 h3 h4 h5 h6 hno hws
      go_enter Try.func36, Try.ntmps36
      go_wp2_with (at_builtin; refine wpList_append_rb rfl _ _ 26 rfl w.heap.size 5 i0 Try.underlying26 hi hz0 hz1 hz2 _ 0 [] rfl (World.ownsRow_nil w _ _ 1) a c _ bs rfl rfl hrb (by omega) (Nat.le_refl _) ?_)
      intro v' w1 hown hgrow hat
      obtain ⟨a', cap', rfl, hres⟩ := Rw.of hrb.lim hown
      go_wp2
      go_ret2
      refine ⟨a', cap', rt_two (by rw [HB.out]; rfl) (by rw [HE.out]; rfl), ?_, (Below.refl _ _).grown hgrow (Nat.le_refl _) (fun k hk => by simp [Value.ownBlock] at hk)⟩
      rw [HB.out]
      exact hres
    · have HE : Hid (allE s = 1) := by show allE s = 1; simp [allE, hno, hws]
      have HB : Hid (allB s = []) := by show allB s = []; simp [allB, hno, hws]
      have hpos : 0 < s.ws.length := List.length_pos_iff.2 hws
      have hpos' : 0 < (s.ws.length : Int) := by omega
      clear h1 h2 h3 h4 h5 h6 hno hws
      go_enter Try.func36, Try.ntmps36
      go_wp2
      go_ret2
      refine ⟨none, 0, rt_two (by rw [HB.out]; rfl) (by rw [HE.out]; rfl), ?_, Below.refl _ _⟩
      rw [HB.out]
      exact Rw.nil _ _

set_option maxHeartbeats 4000000 in
set_option maxRecDepth 100000 in
theorem sput_any (n lo hi1 : Int) (be : Int → List Nat) (hbyt : ∀ x, Byt (be x)) (hlen : ∀ x, (be x).length ≤ 4) (hne : ∀ x, be x ≠ []) (hper : ∀ x, be (x + (hi1 + 1)) = be x)
    (hbig : ∀ (x : Int) (w : World), 0 ≤ x → x ≤ 9223372036854775807 → Calls Try.prog 82 #[.int .i64 x, .int .i64 n] w fun e w' => ∃ a cap, e = .returned (.slice a (be x).length cap) ∧ Rb w' a cap (be x) ∧ Below w.heap.size w w')
    (hlo : lo = -(hi1 + 1) / 2) (hh0 : 0 ≤ hi1) (hh1 : hi1 ≤ 4294967295) (put : St → Int → St) (hput : ∀ s x, put s x = if lo ≤ x ∧ x ≤ hi1 then s.app (be x) else s.fail)
    (B : Nat) (G : Nat → Prop) (s : St) (x : Int) (w : World) (h : Ps w B G s) (hx : I64 x) (hl : s.bs.length + 4 ≤ 1048576) :
    Calls Try.prog 63 #[pg B, .int .i64 x, .int .i64 n, .int .i64 lo, .int .i64 hi1] w fun e w' => e = .returned (.tuple #[]) ∧ Ps w' B G (put s x) ∧ Keep G w w' := by
  obtain ⟨i0, hi, hz0, hz1, hz2⟩ := info_parts info_byte
  have hP := h
  obtain ⟨h1, h2, h3, vb, vw, h4, h5, h6⟩ := h
  obtain ⟨x1, x2⟩ := hx
  obtain ⟨c0, c1, c2, f0, f1, f2⟩ := h4.cells
  have HPER : Hid (∀ x, be (x + (hi1 + 1)) = be x) := hper
  clear hper
  have hlo1 : -2147483648 ≤ lo := by omega
  have hlo2 : lo ≤ 0 := by omega
  by_cases hno : s.no = true
  · have hst : Hid (put s x = s) := by
      show put s x = s
      rw [hput]
      split
      · exact St.app_bad hno _
      · exact St.fail_bad hno
    clear hput
    go_enter Try.func63, Try.ntmps63
    go_wp2_with fail
    refine (done_any B G s _ hP (by omega)).mono ?_
    rintro e u ⟨rfl, rfl⟩
    rw [hno]
    go_wp2
    (try simp only [Exit.inBlock, Exit.then]); refine bodyPost_ret (results_none rfl _ _ _) rfl ?_
    exact ⟨rfl, by rw [hst.out]; exact hP, Keep.refl _ _⟩
  have hno : s.no = false := by simpa using hno
  by_cases hr : lo ≤ x ∧ x ≤ hi1
  rotate_left
  · have hst : Hid (put s x = s.fail) := by show put s x = _; rw [hput, if_neg hr]
    obtain ⟨hP2, hK2⟩ := Ps.failed h1 h2 h3 h4 h5 h6 true
    have hor : x < lo ∨ (lo ≤ x ∧ hi1 < x) := by omega
    clear hr hput
    rcases hor with r1 | ⟨r1, r2⟩
    all_goals
      go_enter Try.func63, Try.ntmps63
      go_wp2_with fail
      refine (done_any B G s _ hP (by omega)).mono ?_
      rintro e u ⟨rfl, rfl⟩
      rw [hno]
      go_wp2
      (try simp only [Exit.inBlock, Exit.then]); refine bodyPost_ret (results_none rfl _ _ _) rfl ?_
      exact ⟨rfl, by rw [hst.out]; exact hP2, hK2⟩
  have hst : Hid (put s x = s.app (be x)) := by show put s x = _; rw [hput, if_pos hr]
  obtain ⟨r1, r2⟩ := hr
  clear hput
  by_cases hneg : x < 0
  · have hX0 : 0 ≤ x + (hi1 + 1) := by omega
    have hX1 : x + (hi1 + 1) ≤ 9223372036854775807 := by omega
    clear hlo
    go_enter Try.func63, Try.ntmps63
    go_wp2_with fail
    refine (done_any B G s _ hP (by omega)).mono ?_
    rintro e u ⟨rfl, rfl⟩
    rw [hno]
    go_wp2_with fail
    refine drewRegion (by kernel_rfl) ?_
    have hbw : Below w.heap.size w w.drew := Below.drew (Below.refl _ _)
    have hQ : Bx3 w.drew B vb vw (.bool false) := by rw [← hno]; exact h4.below hbw
    have hR := h5.stay (w' := w.drew) (fun k hk _ => hbw.block k hk)
    have hI := h6.stay (w' := w.drew) (fun k hk _ => hbw.block k hk)
    generalize w.drew = u3 at hbw hQ hR hI ⊢
    have d0 := hQ.cells.1
    have g0 := hQ.cells.2.2.2.1
    refine aTake (i := 0) (v := ?v1) rfl (by kernel_rfl) (by kernel_rfl) (by kernel_rfl) (fun _ _ _ h => h) (Or.inl ⟨by rfl, ?y1⟩) ?r1
    case y1 =>
      intro w9
      go_simp
      try with_reducible rfl
    try simp only [Act.put, List.setIfInBounds_toArray, List.set_cons_zero, List.set_cons_succ]
    refine aTake (i := 1) (v := ?v2) rfl (by kernel_rfl) (by kernel_rfl) (by kernel_rfl) (fun _ _ _ h => h) (Or.inl ⟨by rfl, ?y2⟩) ?r2
    case y2 =>
      intro w9
      go_simp
      try with_reducible rfl
    try simp only [Act.put, List.setIfInBounds_toArray, List.set_cons_zero, List.set_cons_succ]
    refine aTake (i := 2) (v := ?v3) rfl (by kernel_rfl) (by kernel_rfl) (by kernel_rfl) (fun _ _ _ h => h) (Or.inl ⟨by rfl, ?y3⟩) ?r3
    case y3 =>
      intro w9
      go_simp
      try with_reducible rfl
    try simp only [Act.put, List.setIfInBounds_toArray, List.set_cons_zero, List.set_cons_succ]
    refine aTake (i := 3) (v := ?v4) rfl (by kernel_rfl) (by kernel_rfl) (by kernel_rfl) (fun _ _ _ h => h) (Or.inl ⟨by rfl, ?y4⟩) ?r4
    case y4 =>
      intro w9
      go_simp
      try with_reducible rfl
    try simp only [Act.put, List.setIfInBounds_toArray, List.set_cons_zero, List.set_cons_succ]
    refine aTake (i := 5) (v := ?v5) rfl (by kernel_rfl) (by kernel_rfl) (by kernel_rfl) (fun _ _ _ h => h) (Or.inl ⟨by rfl, ?y5⟩) ?r5
    case y5 =>
      intro w9
      go_simp
      try with_reducible rfl
    try simp only [Act.put, List.setIfInBounds_toArray, List.set_cons_zero, List.set_cons_succ]
    refine aTake (i := 6) (v := ?v6) rfl (by kernel_rfl) (by kernel_rfl) (by kernel_rfl) (fun _ _ _ h => h) (Or.inl ⟨by rfl, ?y6⟩) ?r6
    case y6 =>
      intro w9
      go_simp
      try with_reducible rfl
    try simp only [Act.put, List.setIfInBounds_toArray, List.set_cons_zero, List.set_cons_succ]
    refine wpAny_ready (rs := [4, 7]) (by kernel_rfl) (by simp) (aCons (i := 4) rfl (by rfl) (fun K hK => ?_) (aCons (i := 7) rfl (by rfl) (fun K hK => ?_) AllReady.nil))
    · go_simp
      refine hK.out _ _ ?_
      clear hK K
      try simp only [Act.put, List.setIfInBounds_toArray, List.set_cons_zero, List.set_cons_succ]
      refine wpAny_ready (rs := [7]) (by kernel_rfl) (by simp) (aCons (i := 7) rfl (by rfl) (fun K hK => ?_) AllReady.nil)
      go_simp
      refine (hbig (x + (hi1 + 1)) _ hX0 hX1).mono ?_
      rintro e u4 ⟨a4, c4, rfl, hr4, hb4⟩
      go_wp2_with fail
      have hQ := hQ.below hb4
      have hR := hR.stay (fun k hk _ => hb4.block k hk)
      have hI := hI.stay (fun k hk _ => hb4.block k hk)
      have hbw := hbw.trans (hb4.mono hbw.size)
      have d0 := hQ.cells.1
      have g0 := hQ.cells.2.2.2.1
      refine hK.out _ _ ?_
      clear hK K
      try simp only [Act.put, List.setIfInBounds_toArray, List.set_cons_zero, List.set_cons_succ]
      refine wpAny_ready (rs := [8]) (by kernel_rfl) (by simp) (aCons (i := 8) rfl (by rfl) (fun K hK => ?_) AllReady.nil)
      refine wp_append_rb (.tmp 33) (.tmp 36) 26 rfl 5 i0 Try.underlying26 hi hz0 hz1 hz2 _ s.bs.length s.bs rfl hR.1 a4 c4 _ (be (x + (hi1 + 1))) rfl rfl (hne (x + (hi1 + 1))) hr4 (by have := hlen (x + (hi1 + 1)); omega) ?_
      intro v' w1 hown hgrow hat
      obtain ⟨ts, hts⟩ : ∃ ts, s.bs ++ be (x + (hi1 + 1)) = ts := ⟨_, rfl⟩
      have htl : s.bs.length + (be (x + (hi1 + 1))).length = ts.length := by rw [← hts, List.length_append]
      rw [hts, htl] at hown
      have hBt : Byt ts := hts ▸ h3.1.append (hbyt (x + (hi1 + 1)))
      have HT : Hid (s.bs ++ be (x + (hi1 + 1)) = ts) := hts
      have h1' : ∀ k, G k → k < u4.heap.size := fun k hk => Nat.lt_of_lt_of_le (h1 k hk) hbw.size
      have hfin := Ps.appd (s := s) h1' h2 (by rw [hno]; exact hQ) hR hI hown hgrow hat (by have := h3.app (hbyt (x + (hi1 + 1))); rw [St.app_ok hno, hts] at this; exact this)
      have h42 := hQ.grown hR hgrow
      obtain ⟨a2, cap2, rfl, _⟩ := Rw.of hBt hown
      have d0 := h42.cells.1
      have g0 := h42.cells.2.2.2.1
      clear hts htl
      refine hK.out _ _ ?_
      clear hK K
      try simp only [Act.put, List.setIfInBounds_toArray, List.set_cons_zero, List.set_cons_succ]
      refine aTake (i := 9) (v := ?v7) rfl (by kernel_rfl) (by kernel_rfl) (by kernel_rfl) (fun _ _ _ h => h) (Or.inl ⟨by rfl, ?y7⟩) ?r7
      case y7 =>
        intro w9
        go_simp
        try with_reducible rfl
      try simp only [Act.put, List.setIfInBounds_toArray, List.set_cons_zero, List.set_cons_succ]
      refine aTake (i := 10) (v := ?v8) rfl (by kernel_rfl) (by kernel_rfl) (by kernel_rfl) (fun _ _ _ h => h) (Or.inl ⟨by rfl, ?y8⟩) ?r8
      case y8 =>
        intro w9
        go_simp
        try with_reducible rfl
      try simp only [Act.put, List.setIfInBounds_toArray, List.set_cons_zero, List.set_cons_succ]
      refine wpAny_ready (rs := [11]) (by kernel_rfl) (by simp) (aCons (i := 11) rfl (by rfl) (fun K hK => ?_) AllReady.nil)
      go_simp
      refine hK.out _ _ ?_
      clear hK K
      try simp only [Act.put, List.setIfInBounds_toArray, List.set_cons_zero, List.set_cons_succ]
      refine wpAny_done (by kernel_rfl) ?_ _
      go_wp2
      go_end0
      have hKz := (Keep.of_below hbw h1).trans hfin.2
      refine ⟨rfl, ?_, hKz⟩
      rw [hst.out, ← HPER.out x, St.app_ok hno, HT.out]
      exact hfin.1
    · go_simp
      refine (hbig (x + (hi1 + 1)) _ hX0 hX1).mono ?_
      rintro e u4 ⟨a4, c4, rfl, hr4, hb4⟩
      go_wp2_with fail
      have hQ := hQ.below hb4
      have hR := hR.stay (fun k hk _ => hb4.block k hk)
      have hI := hI.stay (fun k hk _ => hb4.block k hk)
      have hbw := hbw.trans (hb4.mono hbw.size)
      have d0 := hQ.cells.1
      have g0 := hQ.cells.2.2.2.1
      refine hK.out _ _ ?_
      clear hK K
      try simp only [Act.put, List.setIfInBounds_toArray, List.set_cons_zero, List.set_cons_succ]
      refine wpAny_ready (rs := [4]) (by kernel_rfl) (by simp) (aCons (i := 4) rfl (by rfl) (fun K hK => ?_) AllReady.nil)
      go_simp
      refine hK.out _ _ ?_
      clear hK K
      try simp only [Act.put, List.setIfInBounds_toArray, List.set_cons_zero, List.set_cons_succ]
      refine wpAny_ready (rs := [8]) (by kernel_rfl) (by simp) (aCons (i := 8) rfl (by rfl) (fun K hK => ?_) AllReady.nil)
      refine wp_append_rb (.tmp 33) (.tmp 36) 26 rfl 5 i0 Try.underlying26 hi hz0 hz1 hz2 _ s.bs.length s.bs rfl hR.1 a4 c4 _ (be (x + (hi1 + 1))) rfl rfl (hne (x + (hi1 + 1))) hr4 (by have := hlen (x + (hi1 + 1)); omega) ?_
      intro v' w1 hown hgrow hat
      obtain ⟨ts, hts⟩ : ∃ ts, s.bs ++ be (x + (hi1 + 1)) = ts := ⟨_, rfl⟩
      have htl : s.bs.length + (be (x + (hi1 + 1))).length = ts.length := by rw [← hts, List.length_append]
      rw [hts, htl] at hown
      have hBt : Byt ts := hts ▸ h3.1.append (hbyt (x + (hi1 + 1)))
      have HT : Hid (s.bs ++ be (x + (hi1 + 1)) = ts) := hts
      have h1' : ∀ k, G k → k < u4.heap.size := fun k hk => Nat.lt_of_lt_of_le (h1 k hk) hbw.size
      have hfin := Ps.appd (s := s) h1' h2 (by rw [hno]; exact hQ) hR hI hown hgrow hat (by have := h3.app (hbyt (x + (hi1 + 1))); rw [St.app_ok hno, hts] at this; exact this)
      have h42 := hQ.grown hR hgrow
      obtain ⟨a2, cap2, rfl, _⟩ := Rw.of hBt hown
      have d0 := h42.cells.1
      have g0 := h42.cells.2.2.2.1
      clear hts htl
      refine hK.out _ _ ?_
      clear hK K
      try simp only [Act.put, List.setIfInBounds_toArray, List.set_cons_zero, List.set_cons_succ]
      refine aTake (i := 9) (v := ?v9) rfl (by kernel_rfl) (by kernel_rfl) (by kernel_rfl) (fun _ _ _ h => h) (Or.inl ⟨by rfl, ?y9⟩) ?r9
      case y9 =>
        intro w9
        go_simp
        try with_reducible rfl
      try simp only [Act.put, List.setIfInBounds_toArray, List.set_cons_zero, List.set_cons_succ]
      refine aTake (i := 10) (v := ?v10) rfl (by kernel_rfl) (by kernel_rfl) (by kernel_rfl) (fun _ _ _ h => h) (Or.inl ⟨by rfl, ?y10⟩) ?r10
      case y10 =>
        intro w9
        go_simp
        try with_reducible rfl
      try simp only [Act.put, List.setIfInBounds_toArray, List.set_cons_zero, List.set_cons_succ]
      refine wpAny_ready (rs := [11]) (by kernel_rfl) (by simp) (aCons (i := 11) rfl (by rfl) (fun K hK => ?_) AllReady.nil)
      go_simp
      refine hK.out _ _ ?_
      clear hK K
      try simp only [Act.put, List.setIfInBounds_toArray, List.set_cons_zero, List.set_cons_succ]
      refine wpAny_done (by kernel_rfl) ?_ _
      go_wp2
      go_end0
      have hKz := (Keep.of_below hbw h1).trans hfin.2
      refine ⟨rfl, ?_, hKz⟩
      rw [hst.out, ← HPER.out x, St.app_ok hno, HT.out]
      exact hfin.1
  · have hX0 : 0 ≤ x := by omega
    have hX1 : x ≤ 9223372036854775807 := x2
    clear hlo
    go_enter Try.func63, Try.ntmps63
    go_wp2_with fail
    refine (done_any B G s _ hP (by omega)).mono ?_
    rintro e u ⟨rfl, rfl⟩
    rw [hno]
    go_wp2_with fail
    refine drewRegion (by kernel_rfl) ?_
    have hbw : Below w.heap.size w w.drew := Below.drew (Below.refl _ _)
    have hQ : Bx3 w.drew B vb vw (.bool false) := by rw [← hno]; exact h4.below hbw
    have hR := h5.stay (w' := w.drew) (fun k hk _ => hbw.block k hk)
    have hI := h6.stay (w' := w.drew) (fun k hk _ => hbw.block k hk)
    generalize w.drew = u3 at hbw hQ hR hI ⊢
    have d0 := hQ.cells.1
    have g0 := hQ.cells.2.2.2.1
    refine aTake (i := 0) (v := ?v11) rfl (by kernel_rfl) (by kernel_rfl) (by kernel_rfl) (fun _ _ _ h => h) (Or.inl ⟨by rfl, ?y11⟩) ?r11
    case y11 =>
      intro w9
      go_simp
      try with_reducible rfl
    try simp only [Act.put, List.setIfInBounds_toArray, List.set_cons_zero, List.set_cons_succ]
    refine aTake (i := 1) (v := ?v12) rfl (by kernel_rfl) (by kernel_rfl) (by kernel_rfl) (fun _ _ _ h => h) (Or.inl ⟨by rfl, ?y12⟩) ?r12
    case y12 =>
      intro w9
      go_simp
      try with_reducible rfl
    try simp only [Act.put, List.setIfInBounds_toArray, List.set_cons_zero, List.set_cons_succ]
    refine aTake (i := 2) (v := ?v13) rfl (by kernel_rfl) (by kernel_rfl) (by kernel_rfl) (fun _ _ _ h => h) (Or.inl ⟨by rfl, ?y13⟩) ?r13
    case y13 =>
      intro w9
      go_simp
      try with_reducible rfl
    try simp only [Act.put, List.setIfInBounds_toArray, List.set_cons_zero, List.set_cons_succ]
    refine aTake (i := 3) (v := ?v14) rfl (by kernel_rfl) (by kernel_rfl) (by kernel_rfl) (fun _ _ _ h => h) (Or.inl ⟨by rfl, ?y14⟩) ?r14
    case y14 =>
      intro w9
      go_simp
      try with_reducible rfl
    try simp only [Act.put, List.setIfInBounds_toArray, List.set_cons_zero, List.set_cons_succ]
    refine aTake (i := 5) (v := ?v15) rfl (by kernel_rfl) (by kernel_rfl) (by kernel_rfl) (fun _ _ _ h => h) (Or.inl ⟨by rfl, ?y15⟩) ?r15
    case y15 =>
      intro w9
      go_simp
      try with_reducible rfl
    try simp only [Act.put, List.setIfInBounds_toArray, List.set_cons_zero, List.set_cons_succ]
    refine aTake (i := 6) (v := ?v16) rfl (by kernel_rfl) (by kernel_rfl) (by kernel_rfl) (fun _ _ _ h => h) (Or.inl ⟨by rfl, ?y16⟩) ?r16
    case y16 =>
      intro w9
      go_simp
      try with_reducible rfl
    try simp only [Act.put, List.setIfInBounds_toArray, List.set_cons_zero, List.set_cons_succ]
    refine wpAny_ready (rs := [4, 7]) (by kernel_rfl) (by simp) (aCons (i := 4) rfl (by rfl) (fun K hK => ?_) (aCons (i := 7) rfl (by rfl) (fun K hK => ?_) AllReady.nil))
    · go_simp
      refine hK.out _ _ ?_
      clear hK K
      try simp only [Act.put, List.setIfInBounds_toArray, List.set_cons_zero, List.set_cons_succ]
      refine wpAny_ready (rs := [7]) (by kernel_rfl) (by simp) (aCons (i := 7) rfl (by rfl) (fun K hK => ?_) AllReady.nil)
      go_simp
      refine (hbig x _ hX0 hX1).mono ?_
      rintro e u4 ⟨a4, c4, rfl, hr4, hb4⟩
      go_wp2_with fail
      have hQ := hQ.below hb4
      have hR := hR.stay (fun k hk _ => hb4.block k hk)
      have hI := hI.stay (fun k hk _ => hb4.block k hk)
      have hbw := hbw.trans (hb4.mono hbw.size)
      have d0 := hQ.cells.1
      have g0 := hQ.cells.2.2.2.1
      refine hK.out _ _ ?_
      clear hK K
      try simp only [Act.put, List.setIfInBounds_toArray, List.set_cons_zero, List.set_cons_succ]
      refine wpAny_ready (rs := [8]) (by kernel_rfl) (by simp) (aCons (i := 8) rfl (by rfl) (fun K hK => ?_) AllReady.nil)
      refine wp_append_rb (.tmp 33) (.tmp 36) 26 rfl 5 i0 Try.underlying26 hi hz0 hz1 hz2 _ s.bs.length s.bs rfl hR.1 a4 c4 _ (be x) rfl rfl (hne x) hr4 (by have := hlen x; omega) ?_
      intro v' w1 hown hgrow hat
      obtain ⟨ts, hts⟩ : ∃ ts, s.bs ++ be x = ts := ⟨_, rfl⟩
      have htl : s.bs.length + (be x).length = ts.length := by rw [← hts, List.length_append]
      rw [hts, htl] at hown
      have hBt : Byt ts := hts ▸ h3.1.append (hbyt x)
      have HT : Hid (s.bs ++ be x = ts) := hts
      have h1' : ∀ k, G k → k < u4.heap.size := fun k hk => Nat.lt_of_lt_of_le (h1 k hk) hbw.size
      have hfin := Ps.appd (s := s) h1' h2 (by rw [hno]; exact hQ) hR hI hown hgrow hat (by have := h3.app (hbyt x); rw [St.app_ok hno, hts] at this; exact this)
      have h42 := hQ.grown hR hgrow
      obtain ⟨a2, cap2, rfl, _⟩ := Rw.of hBt hown
      have d0 := h42.cells.1
      have g0 := h42.cells.2.2.2.1
      clear hts htl
      refine hK.out _ _ ?_
      clear hK K
      try simp only [Act.put, List.setIfInBounds_toArray, List.set_cons_zero, List.set_cons_succ]
      refine aTake (i := 9) (v := ?v17) rfl (by kernel_rfl) (by kernel_rfl) (by kernel_rfl) (fun _ _ _ h => h) (Or.inl ⟨by rfl, ?y17⟩) ?r17
      case y17 =>
        intro w9
        go_simp
        try with_reducible rfl
      try simp only [Act.put, List.setIfInBounds_toArray, List.set_cons_zero, List.set_cons_succ]
      refine aTake (i := 10) (v := ?v18) rfl (by kernel_rfl) (by kernel_rfl) (by kernel_rfl) (fun _ _ _ h => h) (Or.inl ⟨by rfl, ?y18⟩) ?r18
      case y18 =>
        intro w9
        go_simp
        try with_reducible rfl
      try simp only [Act.put, List.setIfInBounds_toArray, List.set_cons_zero, List.set_cons_succ]
      refine wpAny_ready (rs := [11]) (by kernel_rfl) (by simp) (aCons (i := 11) rfl (by rfl) (fun K hK => ?_) AllReady.nil)
      go_simp
      refine hK.out _ _ ?_
      clear hK K
      try simp only [Act.put, List.setIfInBounds_toArray, List.set_cons_zero, List.set_cons_succ]
      refine wpAny_done (by kernel_rfl) ?_ _
      go_wp2
      go_end0
      have hKz := (Keep.of_below hbw h1).trans hfin.2
      refine ⟨rfl, ?_, hKz⟩
      rw [hst.out, St.app_ok hno, HT.out]
      exact hfin.1
    · go_simp
      refine (hbig x _ hX0 hX1).mono ?_
      rintro e u4 ⟨a4, c4, rfl, hr4, hb4⟩
      go_wp2_with fail
      have hQ := hQ.below hb4
      have hR := hR.stay (fun k hk _ => hb4.block k hk)
      have hI := hI.stay (fun k hk _ => hb4.block k hk)
      have hbw := hbw.trans (hb4.mono hbw.size)
      have d0 := hQ.cells.1
      have g0 := hQ.cells.2.2.2.1
      refine hK.out _ _ ?_
      clear hK K
      try simp only [Act.put, List.setIfInBounds_toArray, List.set_cons_zero, List.set_cons_succ]
      refine wpAny_ready (rs := [4]) (by kernel_rfl) (by simp) (aCons (i := 4) rfl (by rfl) (fun K hK => ?_) AllReady.nil)
      go_simp
      refine hK.out _ _ ?_
      clear hK K
      try simp only [Act.put, List.setIfInBounds_toArray, List.set_cons_zero, List.set_cons_succ]
      refine wpAny_ready (rs := [8]) (by kernel_rfl) (by simp) (aCons (i := 8) rfl (by rfl) (fun K hK => ?_) AllReady.nil)
      refine wp_append_rb (.tmp 33) (.tmp 36) 26 rfl 5 i0 Try.underlying26 hi hz0 hz1 hz2 _ s.bs.length s.bs rfl hR.1 a4 c4 _ (be x) rfl rfl (hne x) hr4 (by have := hlen x; omega) ?_
      intro v' w1 hown hgrow hat
      obtain ⟨ts, hts⟩ : ∃ ts, s.bs ++ be x = ts := ⟨_, rfl⟩
      have htl : s.bs.length + (be x).length = ts.length := by rw [← hts, List.length_append]
      rw [hts, htl] at hown
      have hBt : Byt ts := hts ▸ h3.1.append (hbyt x)
      have HT : Hid (s.bs ++ be x = ts) := hts
      have h1' : ∀ k, G k → k < u4.heap.size := fun k hk => Nat.lt_of_lt_of_le (h1 k hk) hbw.size
      have hfin := Ps.appd (s := s) h1' h2 (by rw [hno]; exact hQ) hR hI hown hgrow hat (by have := h3.app (hbyt x); rw [St.app_ok hno, hts] at this; exact this)
      have h42 := hQ.grown hR hgrow
      obtain ⟨a2, cap2, rfl, _⟩ := Rw.of hBt hown
      have d0 := h42.cells.1
      have g0 := h42.cells.2.2.2.1
      clear hts htl
      refine hK.out _ _ ?_
      clear hK K
      try simp only [Act.put, List.setIfInBounds_toArray, List.set_cons_zero, List.set_cons_succ]
      refine aTake (i := 9) (v := ?v19) rfl (by kernel_rfl) (by kernel_rfl) (by kernel_rfl) (fun _ _ _ h => h) (Or.inl ⟨by rfl, ?y19⟩) ?r19
      case y19 =>
        intro w9
        go_simp
        try with_reducible rfl
      try simp only [Act.put, List.setIfInBounds_toArray, List.set_cons_zero, List.set_cons_succ]
      refine aTake (i := 10) (v := ?v20) rfl (by kernel_rfl) (by kernel_rfl) (by kernel_rfl) (fun _ _ _ h => h) (Or.inl ⟨by rfl, ?y20⟩) ?r20
      case y20 =>
        intro w9
        go_simp
        try with_reducible rfl
      try simp only [Act.put, List.setIfInBounds_toArray, List.set_cons_zero, List.set_cons_succ]
      refine wpAny_ready (rs := [11]) (by kernel_rfl) (by simp) (aCons (i := 11) rfl (by rfl) (fun K hK => ?_) AllReady.nil)
      go_simp
      refine hK.out _ _ ?_
      clear hK K
      try simp only [Act.put, List.setIfInBounds_toArray, List.set_cons_zero, List.set_cons_succ]
      refine wpAny_done (by kernel_rfl) ?_ _
      go_wp2
      go_end0
      have hKz := (Keep.of_below hbw h1).trans hfin.2
      refine ⟨rfl, ?_, hKz⟩
      rw [hst.out, St.app_ok hno, HT.out]
      exact hfin.1

theorem per1 (x : Int) : be1 (x + (255 + 1)) = be1 x := by
  simp only [be1, List.cons.injEq, and_true]
  omega
theorem per2 (x : Int) : be2 (x + (65535 + 1)) = be2 x := by
  simp only [be2, List.cons.injEq, and_true]
  omega
theorem sput16_any (B : Nat) (G : Nat → Prop) (s : St) (x : Int) (w : World) (h : Ps w B G s) (hx : I64 x) (hl : s.bs.length + 4 ≤ 1048576) :
    Calls Try.prog 35 #[pg B, .int .i64 x] w fun e w' => e = .returned (.tuple #[]) ∧ Ps w' B G (s.put16 x) ∧ Keep G w w' := by
  go_enter Try.func35, Try.ntmps35
  go_wp2_with fail
  refine (sput_any 2 (-32768) 65535 be2 byt_be2 (fun x => by simp [be2]) (fun x => by simp [be2]) per2 big2_any (by decide) (by decide) (by decide) St.put16 (fun _ _ => rfl) B G s x _ h hx hl).mono ?_
  rintro e u ⟨rfl, hP, hK⟩
  go_wp2
  go_end0
  exact ⟨rfl, hP, hK⟩

theorem per4 (x : Int) : be4 (x + (4294967295 + 1)) = be4 x := by
  simp only [be4, List.cons.injEq, and_true]
  omega
end Go.Proofs.Ytjefaccpmoignaa

namespace Go.Proofs.Ytjefaccpmoignaa
open Go.RowKit Go.Maps
set_option linter.unusedSimpArgs false
set_option linter.unusedVariables false

theorem put32A {bs : List Nat} {ws : List Int} {n : Int} (h1 : -2147483648 ≤ n) (h2 : n ≤ 4294967295) : (St.mk bs ws false).put32 n = ⟨bs ++ be4 n, ws, false⟩ := by simp [St.put32, h1, h2, St.app]
theorem put16A {bs : List Nat} {ws : List Int} {n : Int} (h1 : -32768 ≤ n) (h2 : n ≤ 65535) : (St.mk bs ws false).put16 n = ⟨bs ++ be2 n, ws, false⟩ := by simp [St.put16, h1, h2, St.app]
theorem tagA {bs : List Nat} {ws : List Int} {xs : List Nat} (h : gd xs = true) : (St.mk bs ws false).tag xs = ⟨bs ++ xs, ws, false⟩ := by simp [St.tag, h, St.app]
theorem ps_newA (w : World) (G : Nat → Prop) (hG : ∀ k, G k → k < w.heap.size) : Ps (w.alloc (.cells #[.slice none 0 0, .slice none 0 0, .bool false] 77)) w.heap.size G St.zero := by
  refine ⟨fun k hk => by have := hG k hk; simp; omega, fun h => by have := hG _ h; omega, Wf.zero, .slice none 0 0, .slice none 0 0, heap_alloc_new w _, ⟨World.ownsRow_nil _ 0 _ 1, fun g hg => by cases hg⟩, ⟨OwnI.nil _, fun g hg => by cases hg⟩⟩
theorem pc_newA (w : World) (G : Nat → Prop) (hG : ∀ k, G k → k < w.heap.size) : Pc (w.alloc (.cells #[.slice none 0 0, .int .i64 0, .map none, .bool false] 70)) w.heap.size G St.zero := by
  refine ⟨fun k hk => by have := hG k hk; simp; omega, fun h => by have := hG _ h; omega, Wf.zero, .slice none 0 0, .map none, heap_alloc_new w _, (fun h => by cases h), fun _ => ⟨⟨World.ownsRow_nil _ 0 _ 1, fun g hg => by cases hg⟩, .inl ⟨rfl, rfl⟩⟩⟩
theorem Pc.moreA {w : World} {B : Nat} {G : Nat → Prop} {s : St} (h : Pc w B G s) (o : Obj) : Pc (w.alloc o) B (fun k => G k ∨ k = w.heap.size) s := by
  refine h.guard_new (by simp) (fun k hk _ => (bl1 o).block k hk) ?_
  rintro k (hk | rfl)
  · exact ⟨by have := h.1 k hk; simp; omega, fun _ => hk⟩
  · exact ⟨by simp, fun hlt => absurd hlt (Nat.lt_irrefl _)⟩

end Go.Proofs.Ytjefaccpmoignaa

namespace Go.Proofs.Ytjefaccpmoignaa
open Go.RowKit Go.Maps
set_option linter.unusedSimpArgs false
set_option linter.unusedVariables false

theorem rgsE_take_le (g : List (List Te)) (k : Nat) : (rgsE (g.take k)).length ≤ (rgsE g).length := by
  have e : rgsE g = rgsE (g.take k) ++ rgsE (g.drop k) := by rw [← rgsE_append, List.take_append_drop]
  rw [e, List.length_append]
  omega
theorem rowsE_take_le (g : List (List Int)) (k : Nat) : (rowsE (g.take k)).length ≤ (rowsE g).length := by
  have e : rowsE g = rowsE (g.take k) ++ rowsE (g.drop k) := by rw [← rowsE_append, List.take_append_drop]
  rw [e, List.length_append]
  omega
theorem takeL_succ {α : Type} {g : List (List α)} {k : Nat} (hk : k < g.length) : g.take (k + 1) = g.take k ++ [g.getD k []] := by
  rw [List.take_add_one, getL hk]
  simp [hk]
theorem rgs_succ {g : List (List Te)} {k : Nat} {l : List Te} (hk : k < g.length) (hl : g.getD k [] = l) (P : List Nat) : P ++ rgsE (g.take (k + 1)) = P ++ rgsE (g.take k) ++ tesE l := by
  rw [takeL_succ hk, hl, rgsE_append, rgsE, rgsE, List.append_nil, List.append_assoc]
theorem rows_succ {g : List (List Int)} {k : Nat} {l : List Int} (hk : k < g.length) (hl : g.getD k [] = l) (P : List Nat) : P ++ rowsE (g.take (k + 1)) = P ++ rowsE (g.take k) ++ numE l := by
  rw [takeL_succ hk, hl, rowsE_append, rowsE, rowsE, List.append_nil, List.append_assoc]
theorem tes_succ {l : List Te} {j : Nat} {t : Te} (hj : j < l.length) (ht : l.getD j Te.none = t) (P : List Nat) : P ++ tesE (l.take (j + 1)) = P ++ tesE (l.take j) ++ be2 t.st ++ be2 t.pk ++ be2 t.en := by
  have e : l.take (j + 1) = l.take j ++ [t] := by
    rw [List.take_add_one, ← ht]
    simp [List.getD, hj]
  rw [e, tesE_append, tesE, tesE, List.append_nil, teE]
  simp only [List.append_assoc]
theorem num_succ {l : List Int} {j : Nat} {z : Int} (hj : j < l.length) (hz : l.getD j 0 = z) (P : List Nat) : P ++ numE (l.take (j + 1)) = P ++ numE (l.take j) ++ be2 z := by
  have e : l.take (j + 1) = l.take j ++ [z] := by
    rw [List.take_add_one, ← hz]
    simp [List.getD, hj]
  rw [e, numE_append, numE, numE, List.append_nil, List.append_assoc]
theorem tes_take_len (l : List Te) (j : Nat) : (tesE (l.take j)).length ≤ 6 * l.length := by
  rw [tesE_len]
  have : (l.take j).length ≤ l.length := by simp; omega
  omega
theorem num_take_len (l : List Int) (j : Nat) : (numE (l.take j)).length ≤ 2 * l.length := by
  rw [numE_len]
  have : (l.take j).length ≤ l.length := by simp; omega
  omega
theorem getI_mem {l : List Int} {j : Nat} (hj : j < l.length) : l.getD j 0 ∈ l := by
  rw [List.getD_eq_getElem?_getD, List.getElem?_eq_getElem hj]
  exact List.getElem_mem hj
/-- What a formed store's pieces are. -/
theorem stB_parts {s : Sr} {n : Int} (h : stB s n = true) : (0 ≤ n ∧ n ≤ 4) ∧ s.rg.length ≤ 40 ∧ s.rw.length ≤ 400 ∧ (rgsE s.rg).length ≤ 960 ∧ (rowsE s.rw).length ≤ 32000 ∧
    (∀ k, k < s.rg.length → ((s.rg.getD k []).length : Int) = n ∧ ∀ j, j < (s.rg.getD k []).length → tfB ((s.rg.getD k []).getD j Te.none) = true) ∧
    (∀ k, k < s.rw.length → (s.rw.getD k []).length = s.rg.length ∧ ∀ j, j < (s.rw.getD k []).length → -32768 ≤ (s.rw.getD k []).getD j 0 ∧ (s.rw.getD k []).getD j 0 ≤ 32767) := by
  have hs := stB_iff.1 h
  have a1 := rgsE_len (n := n.toNat) (g := s.rg) (fun l hl => by have := (rgB_all (hs.2.2.2.1 l hl)).2; omega)
  have a2 := rowsE_len (n := s.rg.length) (m := s.rw) (fun r hr => (hs.2.2.2.2 r hr).1)
  have b1 : 6 * n.toNat * s.rg.length ≤ 24 * 40 := Nat.mul_le_mul (by omega) hs.2.1
  have b2 : 2 * s.rg.length * s.rw.length ≤ 80 * 400 := Nat.mul_le_mul (by omega) hs.2.2.1
  refine ⟨hs.1, hs.2.1, hs.2.2.1, by omega, by omega, fun k hk => ?_, fun k hk => ?_⟩
  · have := rgB_all (hs.2.2.2.1 _ (getL_mem hk))
    exact ⟨this.2, fun j hj => allT.1 this.1 j hj⟩
  · have := hs.2.2.2.2 _ (getL_mem hk)
    exact ⟨this.1, fun j hj => this.2 _ (getI_mem hj)⟩
theorem tf_in {t : Te} (h : tfB t = true) : (-16384 ≤ t.st ∧ t.st ≤ 16384) ∧ (-16384 ≤ t.pk ∧ t.pk ≤ 16384) ∧ (-16384 ≤ t.en ∧ t.en ≤ 16384) := by
  have hf := tfB_iff.1 h
  unfold TfT at hf
  omega
theorem Box.keptG {t : TypeId} {G : Nat → Prop} {w w' : World} {b : Nat} {x y z : Value} (h : Box t w b x y z) (hk : Keep G w w') (hg : G b) : Box t w' b x y z := (hk.block b hg).trans h
theorem stE_eq (s : Sr) (n : Int) : stE s n = be2 n ++ be2 ((s.rg.length : Nat) : Int) ++ rgsE s.rg ++ be2 ((s.rw.length : Nat) : Int) ++ rowsE s.rw := by
  rw [stE]
  simp only [List.append_assoc]

end Go.Proofs.Ytjefaccpmoignaa
