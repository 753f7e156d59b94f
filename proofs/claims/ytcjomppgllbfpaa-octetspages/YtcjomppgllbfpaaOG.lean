/-
  foundryref04.Page: put, Put8, Put16, Put32, PutBytes, PutTag, Pad, All: the walks.
-/
import Derived.Test.YtcjomppgllbfpaaOF
namespace Go.Proofs.Ytcjomppgllbfpaa
open Go.RowKit Go.Maps
set_option linter.unusedSimpArgs false
set_option linter.unusedVariables false

set_option maxHeartbeats 1000000 in
theorem sputBytes_any (B : Nat) (G : Nat → Prop) (s : St) (a : Option Addr) (cap : Nat) (xs : List Nat) (w : World) (h : Ps w B G s) (hr : Rb w a cap xs) (hl : s.bs.length + xs.length ≤ 1048576) :
    Calls Try.prog 47 #[pg B, .slice a xs.length cap] w fun e w' => e = .returned (.tuple #[]) ∧ Ps w' B G (s.app xs) ∧ Keep G w w' := by
  obtain ⟨i0, hi, hz0, hz1, hz2⟩ := info_parts info_byte
  have hP := h
  obtain ⟨h1, h2, h3, vb, vw, h4, h5, h6⟩ := h
  go_enter Try.func47, Try.ntmps47
  go_wp2_with fail
  refine (done_any B G s _ hP (by omega)).mono ?_
  rintro e u ⟨rfl, rfl⟩
  by_cases hno : s.no = true
  · rw [hno]
    go_wp2
    go_end0
    exact ⟨rfl, by rw [St.app_bad hno]; exact hP, Keep.refl _ _⟩
  · have hno : s.no = false := by simpa using hno
    rw [hno]
    obtain ⟨c0, c1, c2, f0, f1, f2⟩ := h4.cells
    have hsl := h5.slice
    go_wp2_with (at_builtin; refine wpList_append_rb rfl _ _ 22 rfl 0 5 i0 Try.underlying22 hi hz0 hz1 hz2 _ s.bs.length s.bs rfl h5.1 a cap _ xs rfl rfl hr (by omega) (Nat.zero_le _) ?_)
    intro v' w1 hown hgrow hat
    obtain ⟨ts, hts⟩ : ∃ ts, s.bs ++ xs = ts := ⟨_, rfl⟩
    have htl : s.bs.length + xs.length = ts.length := by rw [← hts, List.length_append]
    rw [← List.map_append, hts, htl] at hown
    have HT : Hid (s.bs ++ xs = ts) := hts
    have hBt : Byt ts := hts ▸ h3.1.append hr.lim
    have hfin := Ps.appd h1 h2 h4 h5 h6 hown hgrow hat (by have := h3.app hr.lim; rw [St.app_ok hno, hts] at this; exact this)
    have h42 := h4.grown h5 hgrow
    obtain ⟨a2, cap2, rfl, _⟩ := Rw.of hBt hown
    obtain ⟨d0, d1, d2, g0, g1, g2⟩ := h42.cells
    clear hts htl
    go_wp2
    go_end0
    refine ⟨rfl, ?_, hfin.2⟩
    rw [St.app_ok hno, HT.out]
    exact hfin.1

set_option maxHeartbeats 1000000 in
theorem sputTag_any (B : Nat) (G : Nat → Prop) (s : St) (t : ByteArray) (w : World) (h : Ps w B G s) (ht : t.size ≤ maxLen) (hl : s.bs.length + 4 ≤ 1048576) :
    Calls Try.prog 46 #[pg B, .string t] w fun e w' => e = .returned (.tuple #[]) ∧ Ps w' B G (s.tag (sb t)) ∧ Keep G w w' := by
  obtain ⟨i0, hi, hz0, hz1, hz2⟩ := info_parts info_byte
  have hP := h
  obtain ⟨h1, h2, h3, vb, vw, h4, h5, h6⟩ := h
  go_enter Try.func46, Try.ntmps46
  go_wp2_with fail
  refine (done_any B G s _ hP (by omega)).mono ?_
  rintro e u ⟨rfl, rfl⟩
  by_cases hno : s.no = true
  · rw [hno]
    go_wp2
    (try simp only [Exit.inBlock, Exit.then]); refine bodyPost_ret (results_none rfl _ _ _) rfl ?_
    refine ⟨rfl, ?_, Keep.refl _ _⟩
    have e : s.tag (sb t) = s := by unfold St.tag; split; exact St.app_bad hno _; exact St.fail_bad hno
    rw [e]
    exact hP
  · have hno : s.no = false := by simpa using hno
    rw [hno]
    obtain ⟨c0, c1, c2, f0, f1, f2⟩ := h4.cells
    go_wp2_with fail
    refine (sgood_any t _ ht).mono ?_
    rintro e u ⟨rfl, rfl⟩
    by_cases hg : gd (sb t) = true
    · rw [hg]
      have hs : Hid (s.tag (sb t) = s.app (sb t)) := by show s.tag (sb t) = _; simp [St.tag, hg]
      have hsz : t.size = 4 := by rw [← len_sb]; simp [gd] at hg; exact hg.1
      have Hsz : Hid (t.size = 4) := hsz
      clear hsz hg
      obtain ⟨hP2, hK2⟩ := Ps.failed h1 h2 h3 h4 h5 h6 false
      obtain ⟨W, hW⟩ : ∃ W, W = w.setCell ⟨B, 2, none⟩ (.bool false) := ⟨_, rfl⟩
      have h4' := h4.set2 (.bool false)
      have hoff : ∀ k, k < w.heap.size → k ≠ B → (w.setCell ⟨B, 2, none⟩ (.bool false)).heap[k]? = w.heap[k]? := fun k _ hk => Below.heap_setCell _ ⟨B, 2, none⟩ _ k hk
      have h5' := h5.off h4 (by decide) hoff
      have h6' := h6.off h4 (by decide) hoff
      have h1' : ∀ k, G k → k < (w.setCell ⟨B, 2, none⟩ (.bool false)).heap.size := fun k hk => Nat.lt_of_lt_of_le (h1 k hk) hK2.size
      clear hW W hP2
      go_wp2_with (at_builtin; refine wpList_append_str rfl _ _ 22 9 rfl 5 i0 Try.underlying22 Try.underlying9 hi hz0 hz1 hz2 _ s.bs.length s.bs rfl h5'.1 t rfl (by rw [Hsz.out]; omega) ?_)
      intro v' w1 hown hgrow hat
      obtain ⟨ts, hts⟩ : ∃ ts, s.bs ++ sb t = ts := ⟨_, rfl⟩
      have htl : s.bs.length + t.size = ts.length := by rw [← hts, List.length_append, len_sb]
      rw [← List.map_append, hts, htl] at hown
      have HT : Hid (s.bs ++ sb t = ts) := hts
      have hBt : Byt ts := hts ▸ h3.1.append (byt_sb t)
      have h4n : Bx3 (w.setCell ⟨B, 2, none⟩ (.bool false)) B vb vw (.bool s.no) := by rw [hno]; exact h4'
      have hfin := Ps.appd (s := s) h1' h2 h4n h5' h6' hown hgrow (by simpa [World.setCell] using hat) (by have := h3.app (byt_sb t); rw [St.app_ok hno, hts] at this; exact this)
      have h42 := h4'.grown h5' hgrow
      obtain ⟨a2, cap2, rfl, _⟩ := Rw.of hBt hown
      obtain ⟨d0, d1, d2, g0, g1, g2⟩ := h42.cells
      clear hts htl
      go_wp2
      go_end0
      refine ⟨rfl, ?_, hK2.trans hfin.2⟩
      rw [hs.out, St.app_ok hno, HT.out]
      exact hfin.1
    · have hg : gd (sb t) = false := by simpa using hg
      have hs : Hid (s.tag (sb t) = s.fail) := by show s.tag (sb t) = _; simp [St.tag, hg]
      rw [hg]
      clear hg
      obtain ⟨hP2, hK2⟩ := Ps.failed h1 h2 h3 h4 h5 h6 true
      go_wp2
      go_end0
      exact ⟨rfl, by rw [hs.out]; exact hP2, hK2⟩

set_option maxHeartbeats 1000000 in
theorem sall_any (B : Nat) (G : Nat → Prop) (s : St) (w : World) (h : Ps w B G s) (hl : s.bs.length ≤ 1048576) :
    Calls Try.prog 28 #[pg B] w fun e w' => ∃ a' cap', e = .returned (.tuple #[.slice a' (allB s).length cap', .int .i64 (allE s)]) ∧ Rw 5 w.heap.size w' a' cap' (allB s) ∧ Below w.heap.size w w' := by
  obtain ⟨i0, hi, hz0, hz1, hz2⟩ := info_parts info_byte
  obtain ⟨h1, h2, h3, vb, vw, h4, h5, h6⟩ := h
  obtain ⟨c0, c1, c2, f0, f1, f2⟩ := h4.cells
  obtain ⟨a, c, rfl⟩ := h5.slice
  obtain ⟨aw, cw, rfl, q1, q2, _⟩ := h6.1.slice
  have hrb := h5.rb h3.1
  unfold maxLen at q2
  by_cases hno : s.no = true
  · have HE : Hid (allE s = 4) := by show allE s = 4; simp [allE, hno]
    have HB : Hid (allB s = []) := by show allB s = []; simp [allB, hno]
    rw [hno] at c2
    clear h1 h2 h3 h4 h5 h6 hno
    go_enter Try.func28, Try.ntmps28
    go_wp2
    go_ret2
    refine ⟨none, 0, rt_two (by rw [HB.out]; rfl) (by rw [HE.out]; rfl), ?_, Below.refl _ _⟩
    rw [HB.out]
    exact Rw.nil _ _
  · have hno : s.no = false := by simpa using hno
    rw [hno] at c2
    by_cases hws : s.ws = []
    · have HE : Hid (allE s = 0) := by show allE s = 0; simp [allE, hno, hws]
      have HB : Hid (allB s = s.bs) := by show allB s = s.bs; simp [allB, hno, hws]
      rw [hws] at c1
      generalize s.bs = bs at *
      clear h1 h2 h3 h4 h5 h6 hno hws
      go_enter Try.func28, Try.ntmps28
      go_wp2_with (at_builtin; refine wpList_append_rb rfl _ _ 22 rfl w.heap.size 5 i0 Try.underlying22 hi hz0 hz1 hz2 _ 0 [] rfl (World.ownsRow_nil w _ _ 1) a c _ bs rfl rfl hrb (by omega) (Nat.le_refl _) ?_)
      intro v' w1 hown hgrow hat
      obtain ⟨a', cap', rfl, hres⟩ := Rw.of hrb.lim hown
      go_wp2
      go_ret2
      refine ⟨a', cap', rt_two (by rw [HB.out]; rfl) (by rw [HE.out]; rfl), ?_, (Below.refl _ _).grown hgrow (Nat.le_refl _) (fun k hk => by simp [Value.ownBlock] at hk)⟩
      rw [HB.out]
      exact hres
    · have HE : Hid (allE s = 1) := by show allE s = 1; simp [allE, hno, hws]
      have HB : Hid (allB s = []) := by show allB s = []; simp [allB, hno, hws]
      have hpos : 0 < s.ws.length := List.length_pos_iff.2 hws
      have hpos' : 0 < (s.ws.length : Int) := by omega
      clear h1 h2 h3 h4 h5 h6 hno hws
      go_enter Try.func28, Try.ntmps28
      go_wp2
      go_ret2
      refine ⟨none, 0, rt_two (by rw [HB.out]; rfl) (by rw [HE.out]; rfl), ?_, Below.refl _ _⟩
      rw [HB.out]
      exact Rw.nil _ _

set_option maxHeartbeats 4000000 in
theorem sput_any (n lo hi1 : Int) (be : Int → List Nat) (hbyt : ∀ x, Byt (be x)) (hlen : ∀ x, (be x).length ≤ 4) (hne : ∀ x, be x ≠ []) (hper : ∀ x, be (x + (hi1 + 1)) = be x)
    (hbig : ∀ (x : Int) (w : World), 0 ≤ x → x ≤ 9223372036854775807 → Calls Try.prog 58 #[.int .i64 x, .int .i64 n] w fun e w' => ∃ a cap, e = .returned (.slice a (be x).length cap) ∧ Rb w' a cap (be x) ∧ Below w.heap.size w w')
    (hlo : lo = -(hi1 + 1) / 2) (hh0 : 0 ≤ hi1) (hh1 : hi1 ≤ 4294967295) (put : St → Int → St) (hput : ∀ s x, put s x = if lo ≤ x ∧ x ≤ hi1 then s.app (be x) else s.fail)
    (B : Nat) (G : Nat → Prop) (s : St) (x : Int) (w : World) (h : Ps w B G s) (hx : I64 x) (hl : s.bs.length + 4 ≤ 1048576) :
    Calls Try.prog 56 #[pg B, .int .i64 x, .int .i64 n, .int .i64 lo, .int .i64 hi1] w fun e w' => e = .returned (.tuple #[]) ∧ Ps w' B G (put s x) ∧ Keep G w w' := by
  obtain ⟨i0, hi, hz0, hz1, hz2⟩ := info_parts info_byte
  have hP := h
  obtain ⟨h1, h2, h3, vb, vw, h4, h5, h6⟩ := h
  obtain ⟨x1, x2⟩ := hx
  obtain ⟨c0, c1, c2, f0, f1, f2⟩ := h4.cells
  have HPER : Hid (∀ x, be (x + (hi1 + 1)) = be x) := hper
  clear hper
  have hlo1 : -2147483648 ≤ lo := by omega
  have hlo2 : lo ≤ 0 := by omega
  by_cases hno : s.no = true
  · have hst : Hid (put s x = s) := by
      show put s x = s
      rw [hput]
      split
      · exact St.app_bad hno _
      · exact St.fail_bad hno
    clear hput
    go_enter Try.func56, Try.ntmps56
    go_wp2_with fail
    refine (done_any B G s _ hP (by omega)).mono ?_
    rintro e u ⟨rfl, rfl⟩
    rw [hno]
    go_wp2
    (try simp only [Exit.inBlock, Exit.then]); refine bodyPost_ret (results_none rfl _ _ _) rfl ?_
    exact ⟨rfl, by rw [hst.out]; exact hP, Keep.refl _ _⟩
  have hno : s.no = false := by simpa using hno
  by_cases hr : lo ≤ x ∧ x ≤ hi1
  rotate_left
  · have hst : Hid (put s x = s.fail) := by show put s x = _; rw [hput, if_neg hr]
    obtain ⟨hP2, hK2⟩ := Ps.failed h1 h2 h3 h4 h5 h6 true
    have hor : x < lo ∨ (lo ≤ x ∧ hi1 < x) := by omega
    clear hr hput
    rcases hor with r1 | ⟨r1, r2⟩
    all_goals
      go_enter Try.func56, Try.ntmps56
      go_wp2_with fail
      refine (done_any B G s _ hP (by omega)).mono ?_
      rintro e u ⟨rfl, rfl⟩
      rw [hno]
      go_wp2
      (try simp only [Exit.inBlock, Exit.then]); refine bodyPost_ret (results_none rfl _ _ _) rfl ?_
      exact ⟨rfl, by rw [hst.out]; exact hP2, hK2⟩
  have hst : Hid (put s x = s.app (be x)) := by show put s x = _; rw [hput, if_pos hr]
  obtain ⟨r1, r2⟩ := hr
  clear hput
  by_cases hneg : x < 0
  · have hX0 : 0 ≤ x + (hi1 + 1) := by omega
    have hX1 : x + (hi1 + 1) ≤ 9223372036854775807 := by omega
    clear hlo
    go_enter Try.func56, Try.ntmps56
    go_wp2_with fail
    refine (done_any B G s _ hP (by omega)).mono ?_
    rintro e u ⟨rfl, rfl⟩
    rw [hno]
    go_wp2_with fail
    refine drewRegion (by kernel_rfl) ?_
    have hbw : Below w.heap.size w w.drew := Below.drew (Below.refl _ _)
    have hQ : Bx3 w.drew B vb vw (.bool false) := by rw [← hno]; exact h4.below hbw
    have hR := h5.stay (w' := w.drew) (fun k hk _ => hbw.block k hk)
    have hI := h6.stay (w' := w.drew) (fun k hk _ => hbw.block k hk)
    generalize w.drew = u3 at hbw hQ hR hI ⊢
    have d0 := hQ.cells.1
    have g0 := hQ.cells.2.2.2.1
    refine aTake (i := 0) (v := ?v1) rfl (by kernel_rfl) (by kernel_rfl) (by kernel_rfl) (fun _ _ _ h => h) (Or.inl ⟨by rfl, ?y1⟩) ?r1
    case y1 =>
      intro w9
      go_simp
      try with_reducible rfl
    try simp only [Act.put, List.setIfInBounds_toArray, List.set_cons_zero, List.set_cons_succ]
    refine aTake (i := 1) (v := ?v2) rfl (by kernel_rfl) (by kernel_rfl) (by kernel_rfl) (fun _ _ _ h => h) (Or.inl ⟨by rfl, ?y2⟩) ?r2
    case y2 =>
      intro w9
      go_simp
      try with_reducible rfl
    try simp only [Act.put, List.setIfInBounds_toArray, List.set_cons_zero, List.set_cons_succ]
    refine aTake (i := 2) (v := ?v3) rfl (by kernel_rfl) (by kernel_rfl) (by kernel_rfl) (fun _ _ _ h => h) (Or.inl ⟨by rfl, ?y3⟩) ?r3
    case y3 =>
      intro w9
      go_simp
      try with_reducible rfl
    try simp only [Act.put, List.setIfInBounds_toArray, List.set_cons_zero, List.set_cons_succ]
    refine aTake (i := 3) (v := ?v4) rfl (by kernel_rfl) (by kernel_rfl) (by kernel_rfl) (fun _ _ _ h => h) (Or.inl ⟨by rfl, ?y4⟩) ?r4
    case y4 =>
      intro w9
      go_simp
      try with_reducible rfl
    try simp only [Act.put, List.setIfInBounds_toArray, List.set_cons_zero, List.set_cons_succ]
    refine aTake (i := 5) (v := ?v5) rfl (by kernel_rfl) (by kernel_rfl) (by kernel_rfl) (fun _ _ _ h => h) (Or.inl ⟨by rfl, ?y5⟩) ?r5
    case y5 =>
      intro w9
      go_simp
      try with_reducible rfl
    try simp only [Act.put, List.setIfInBounds_toArray, List.set_cons_zero, List.set_cons_succ]
    refine aTake (i := 6) (v := ?v6) rfl (by kernel_rfl) (by kernel_rfl) (by kernel_rfl) (fun _ _ _ h => h) (Or.inl ⟨by rfl, ?y6⟩) ?r6
    case y6 =>
      intro w9
      go_simp
      try with_reducible rfl
    try simp only [Act.put, List.setIfInBounds_toArray, List.set_cons_zero, List.set_cons_succ]
    refine wpAny_ready (rs := [4, 7]) (by kernel_rfl) (by simp) (aCons (i := 4) rfl (by rfl) (fun K hK => ?_) (aCons (i := 7) rfl (by rfl) (fun K hK => ?_) AllReady.nil))
    · go_simp
      refine hK.out _ _ ?_
      clear hK K
      try simp only [Act.put, List.setIfInBounds_toArray, List.set_cons_zero, List.set_cons_succ]
      refine wpAny_ready (rs := [7]) (by kernel_rfl) (by simp) (aCons (i := 7) rfl (by rfl) (fun K hK => ?_) AllReady.nil)
      go_simp
      refine (hbig (x + (hi1 + 1)) _ hX0 hX1).mono ?_
      rintro e u4 ⟨a4, c4, rfl, hr4, hb4⟩
      go_wp2_with fail
      have hQ := hQ.below hb4
      have hR := hR.stay (fun k hk _ => hb4.block k hk)
      have hI := hI.stay (fun k hk _ => hb4.block k hk)
      have hbw := hbw.trans (hb4.mono hbw.size)
      have d0 := hQ.cells.1
      have g0 := hQ.cells.2.2.2.1
      refine hK.out _ _ ?_
      clear hK K
      try simp only [Act.put, List.setIfInBounds_toArray, List.set_cons_zero, List.set_cons_succ]
      refine wpAny_ready (rs := [8]) (by kernel_rfl) (by simp) (aCons (i := 8) rfl (by rfl) (fun K hK => ?_) AllReady.nil)
      refine wp_append_rb (.tmp 33) (.tmp 36) 22 rfl 5 i0 Try.underlying22 hi hz0 hz1 hz2 _ s.bs.length s.bs rfl hR.1 a4 c4 _ (be (x + (hi1 + 1))) rfl rfl (hne (x + (hi1 + 1))) hr4 (by have := hlen (x + (hi1 + 1)); omega) ?_
      intro v' w1 hown hgrow hat
      obtain ⟨ts, hts⟩ : ∃ ts, s.bs ++ be (x + (hi1 + 1)) = ts := ⟨_, rfl⟩
      have htl : s.bs.length + (be (x + (hi1 + 1))).length = ts.length := by rw [← hts, List.length_append]
      rw [hts, htl] at hown
      have hBt : Byt ts := hts ▸ h3.1.append (hbyt (x + (hi1 + 1)))
      have HT : Hid (s.bs ++ be (x + (hi1 + 1)) = ts) := hts
      have h1' : ∀ k, G k → k < u4.heap.size := fun k hk => Nat.lt_of_lt_of_le (h1 k hk) hbw.size
      have hfin := Ps.appd (s := s) h1' h2 (by rw [hno]; exact hQ) hR hI hown hgrow hat (by have := h3.app (hbyt (x + (hi1 + 1))); rw [St.app_ok hno, hts] at this; exact this)
      have h42 := hQ.grown hR hgrow
      obtain ⟨a2, cap2, rfl, _⟩ := Rw.of hBt hown
      have d0 := h42.cells.1
      have g0 := h42.cells.2.2.2.1
      clear hts htl
      refine hK.out _ _ ?_
      clear hK K
      try simp only [Act.put, List.setIfInBounds_toArray, List.set_cons_zero, List.set_cons_succ]
      refine aTake (i := 9) (v := ?v7) rfl (by kernel_rfl) (by kernel_rfl) (by kernel_rfl) (fun _ _ _ h => h) (Or.inl ⟨by rfl, ?y7⟩) ?r7
      case y7 =>
        intro w9
        go_simp
        try with_reducible rfl
      try simp only [Act.put, List.setIfInBounds_toArray, List.set_cons_zero, List.set_cons_succ]
      refine aTake (i := 10) (v := ?v8) rfl (by kernel_rfl) (by kernel_rfl) (by kernel_rfl) (fun _ _ _ h => h) (Or.inl ⟨by rfl, ?y8⟩) ?r8
      case y8 =>
        intro w9
        go_simp
        try with_reducible rfl
      try simp only [Act.put, List.setIfInBounds_toArray, List.set_cons_zero, List.set_cons_succ]
      refine wpAny_ready (rs := [11]) (by kernel_rfl) (by simp) (aCons (i := 11) rfl (by rfl) (fun K hK => ?_) AllReady.nil)
      go_simp
      refine hK.out _ _ ?_
      clear hK K
      try simp only [Act.put, List.setIfInBounds_toArray, List.set_cons_zero, List.set_cons_succ]
      refine wpAny_done (by kernel_rfl) ?_ _
      go_wp2
      go_end0
      have hKz := (Keep.of_below hbw h1).trans hfin.2
      refine ⟨rfl, ?_, hKz⟩
      rw [hst.out, ← HPER.out x, St.app_ok hno, HT.out]
      exact hfin.1
    · go_simp
      refine (hbig (x + (hi1 + 1)) _ hX0 hX1).mono ?_
      rintro e u4 ⟨a4, c4, rfl, hr4, hb4⟩
      go_wp2_with fail
      have hQ := hQ.below hb4
      have hR := hR.stay (fun k hk _ => hb4.block k hk)
      have hI := hI.stay (fun k hk _ => hb4.block k hk)
      have hbw := hbw.trans (hb4.mono hbw.size)
      have d0 := hQ.cells.1
      have g0 := hQ.cells.2.2.2.1
      refine hK.out _ _ ?_
      clear hK K
      try simp only [Act.put, List.setIfInBounds_toArray, List.set_cons_zero, List.set_cons_succ]
      refine wpAny_ready (rs := [4]) (by kernel_rfl) (by simp) (aCons (i := 4) rfl (by rfl) (fun K hK => ?_) AllReady.nil)
      go_simp
      refine hK.out _ _ ?_
      clear hK K
      try simp only [Act.put, List.setIfInBounds_toArray, List.set_cons_zero, List.set_cons_succ]
      refine wpAny_ready (rs := [8]) (by kernel_rfl) (by simp) (aCons (i := 8) rfl (by rfl) (fun K hK => ?_) AllReady.nil)
      refine wp_append_rb (.tmp 33) (.tmp 36) 22 rfl 5 i0 Try.underlying22 hi hz0 hz1 hz2 _ s.bs.length s.bs rfl hR.1 a4 c4 _ (be (x + (hi1 + 1))) rfl rfl (hne (x + (hi1 + 1))) hr4 (by have := hlen (x + (hi1 + 1)); omega) ?_
      intro v' w1 hown hgrow hat
      obtain ⟨ts, hts⟩ : ∃ ts, s.bs ++ be (x + (hi1 + 1)) = ts := ⟨_, rfl⟩
      have htl : s.bs.length + (be (x + (hi1 + 1))).length = ts.length := by rw [← hts, List.length_append]
      rw [hts, htl] at hown
      have hBt : Byt ts := hts ▸ h3.1.append (hbyt (x + (hi1 + 1)))
      have HT : Hid (s.bs ++ be (x + (hi1 + 1)) = ts) := hts
      have h1' : ∀ k, G k → k < u4.heap.size := fun k hk => Nat.lt_of_lt_of_le (h1 k hk) hbw.size
      have hfin := Ps.appd (s := s) h1' h2 (by rw [hno]; exact hQ) hR hI hown hgrow hat (by have := h3.app (hbyt (x + (hi1 + 1))); rw [St.app_ok hno, hts] at this; exact this)
      have h42 := hQ.grown hR hgrow
      obtain ⟨a2, cap2, rfl, _⟩ := Rw.of hBt hown
      have d0 := h42.cells.1
      have g0 := h42.cells.2.2.2.1
      clear hts htl
      refine hK.out _ _ ?_
      clear hK K
      try simp only [Act.put, List.setIfInBounds_toArray, List.set_cons_zero, List.set_cons_succ]
      refine aTake (i := 9) (v := ?v9) rfl (by kernel_rfl) (by kernel_rfl) (by kernel_rfl) (fun _ _ _ h => h) (Or.inl ⟨by rfl, ?y9⟩) ?r9
      case y9 =>
        intro w9
        go_simp
        try with_reducible rfl
      try simp only [Act.put, List.setIfInBounds_toArray, List.set_cons_zero, List.set_cons_succ]
      refine aTake (i := 10) (v := ?v10) rfl (by kernel_rfl) (by kernel_rfl) (by kernel_rfl) (fun _ _ _ h => h) (Or.inl ⟨by rfl, ?y10⟩) ?r10
      case y10 =>
        intro w9
        go_simp
        try with_reducible rfl
      try simp only [Act.put, List.setIfInBounds_toArray, List.set_cons_zero, List.set_cons_succ]
      refine wpAny_ready (rs := [11]) (by kernel_rfl) (by simp) (aCons (i := 11) rfl (by rfl) (fun K hK => ?_) AllReady.nil)
      go_simp
      refine hK.out _ _ ?_
      clear hK K
      try simp only [Act.put, List.setIfInBounds_toArray, List.set_cons_zero, List.set_cons_succ]
      refine wpAny_done (by kernel_rfl) ?_ _
      go_wp2
      go_end0
      have hKz := (Keep.of_below hbw h1).trans hfin.2
      refine ⟨rfl, ?_, hKz⟩
      rw [hst.out, ← HPER.out x, St.app_ok hno, HT.out]
      exact hfin.1
  · have hX0 : 0 ≤ x := by omega
    have hX1 : x ≤ 9223372036854775807 := x2
    clear hlo
    go_enter Try.func56, Try.ntmps56
    go_wp2_with fail
    refine (done_any B G s _ hP (by omega)).mono ?_
    rintro e u ⟨rfl, rfl⟩
    rw [hno]
    go_wp2_with fail
    refine drewRegion (by kernel_rfl) ?_
    have hbw : Below w.heap.size w w.drew := Below.drew (Below.refl _ _)
    have hQ : Bx3 w.drew B vb vw (.bool false) := by rw [← hno]; exact h4.below hbw
    have hR := h5.stay (w' := w.drew) (fun k hk _ => hbw.block k hk)
    have hI := h6.stay (w' := w.drew) (fun k hk _ => hbw.block k hk)
    generalize w.drew = u3 at hbw hQ hR hI ⊢
    have d0 := hQ.cells.1
    have g0 := hQ.cells.2.2.2.1
    refine aTake (i := 0) (v := ?v11) rfl (by kernel_rfl) (by kernel_rfl) (by kernel_rfl) (fun _ _ _ h => h) (Or.inl ⟨by rfl, ?y11⟩) ?r11
    case y11 =>
      intro w9
      go_simp
      try with_reducible rfl
    try simp only [Act.put, List.setIfInBounds_toArray, List.set_cons_zero, List.set_cons_succ]
    refine aTake (i := 1) (v := ?v12) rfl (by kernel_rfl) (by kernel_rfl) (by kernel_rfl) (fun _ _ _ h => h) (Or.inl ⟨by rfl, ?y12⟩) ?r12
    case y12 =>
      intro w9
      go_simp
      try with_reducible rfl
    try simp only [Act.put, List.setIfInBounds_toArray, List.set_cons_zero, List.set_cons_succ]
    refine aTake (i := 2) (v := ?v13) rfl (by kernel_rfl) (by kernel_rfl) (by kernel_rfl) (fun _ _ _ h => h) (Or.inl ⟨by rfl, ?y13⟩) ?r13
    case y13 =>
      intro w9
      go_simp
      try with_reducible rfl
    try simp only [Act.put, List.setIfInBounds_toArray, List.set_cons_zero, List.set_cons_succ]
    refine aTake (i := 3) (v := ?v14) rfl (by kernel_rfl) (by kernel_rfl) (by kernel_rfl) (fun _ _ _ h => h) (Or.inl ⟨by rfl, ?y14⟩) ?r14
    case y14 =>
      intro w9
      go_simp
      try with_reducible rfl
    try simp only [Act.put, List.setIfInBounds_toArray, List.set_cons_zero, List.set_cons_succ]
    refine aTake (i := 5) (v := ?v15) rfl (by kernel_rfl) (by kernel_rfl) (by kernel_rfl) (fun _ _ _ h => h) (Or.inl ⟨by rfl, ?y15⟩) ?r15
    case y15 =>
      intro w9
      go_simp
      try with_reducible rfl
    try simp only [Act.put, List.setIfInBounds_toArray, List.set_cons_zero, List.set_cons_succ]
    refine aTake (i := 6) (v := ?v16) rfl (by kernel_rfl) (by kernel_rfl) (by kernel_rfl) (fun _ _ _ h => h) (Or.inl ⟨by rfl, ?y16⟩) ?r16
    case y16 =>
      intro w9
      go_simp
      try with_reducible rfl
    try simp only [Act.put, List.setIfInBounds_toArray, List.set_cons_zero, List.set_cons_succ]
    refine wpAny_ready (rs := [4, 7]) (by kernel_rfl) (by simp) (aCons (i := 4) rfl (by rfl) (fun K hK => ?_) (aCons (i := 7) rfl (by rfl) (fun K hK => ?_) AllReady.nil))
    · go_simp
      refine hK.out _ _ ?_
      clear hK K
      try simp only [Act.put, List.setIfInBounds_toArray, List.set_cons_zero, List.set_cons_succ]
      refine wpAny_ready (rs := [7]) (by kernel_rfl) (by simp) (aCons (i := 7) rfl (by rfl) (fun K hK => ?_) AllReady.nil)
      go_simp
      refine (hbig x _ hX0 hX1).mono ?_
      rintro e u4 ⟨a4, c4, rfl, hr4, hb4⟩
      go_wp2_with fail
      have hQ := hQ.below hb4
      have hR := hR.stay (fun k hk _ => hb4.block k hk)
      have hI := hI.stay (fun k hk _ => hb4.block k hk)
      have hbw := hbw.trans (hb4.mono hbw.size)
      have d0 := hQ.cells.1
      have g0 := hQ.cells.2.2.2.1
      refine hK.out _ _ ?_
      clear hK K
      try simp only [Act.put, List.setIfInBounds_toArray, List.set_cons_zero, List.set_cons_succ]
      refine wpAny_ready (rs := [8]) (by kernel_rfl) (by simp) (aCons (i := 8) rfl (by rfl) (fun K hK => ?_) AllReady.nil)
      refine wp_append_rb (.tmp 33) (.tmp 36) 22 rfl 5 i0 Try.underlying22 hi hz0 hz1 hz2 _ s.bs.length s.bs rfl hR.1 a4 c4 _ (be x) rfl rfl (hne x) hr4 (by have := hlen x; omega) ?_
      intro v' w1 hown hgrow hat
      obtain ⟨ts, hts⟩ : ∃ ts, s.bs ++ be x = ts := ⟨_, rfl⟩
      have htl : s.bs.length + (be x).length = ts.length := by rw [← hts, List.length_append]
      rw [hts, htl] at hown
      have hBt : Byt ts := hts ▸ h3.1.append (hbyt x)
      have HT : Hid (s.bs ++ be x = ts) := hts
      have h1' : ∀ k, G k → k < u4.heap.size := fun k hk => Nat.lt_of_lt_of_le (h1 k hk) hbw.size
      have hfin := Ps.appd (s := s) h1' h2 (by rw [hno]; exact hQ) hR hI hown hgrow hat (by have := h3.app (hbyt x); rw [St.app_ok hno, hts] at this; exact this)
      have h42 := hQ.grown hR hgrow
      obtain ⟨a2, cap2, rfl, _⟩ := Rw.of hBt hown
      have d0 := h42.cells.1
      have g0 := h42.cells.2.2.2.1
      clear hts htl
      refine hK.out _ _ ?_
      clear hK K
      try simp only [Act.put, List.setIfInBounds_toArray, List.set_cons_zero, List.set_cons_succ]
      refine aTake (i := 9) (v := ?v17) rfl (by kernel_rfl) (by kernel_rfl) (by kernel_rfl) (fun _ _ _ h => h) (Or.inl ⟨by rfl, ?y17⟩) ?r17
      case y17 =>
        intro w9
        go_simp
        try with_reducible rfl
      try simp only [Act.put, List.setIfInBounds_toArray, List.set_cons_zero, List.set_cons_succ]
      refine aTake (i := 10) (v := ?v18) rfl (by kernel_rfl) (by kernel_rfl) (by kernel_rfl) (fun _ _ _ h => h) (Or.inl ⟨by rfl, ?y18⟩) ?r18
      case y18 =>
        intro w9
        go_simp
        try with_reducible rfl
      try simp only [Act.put, List.setIfInBounds_toArray, List.set_cons_zero, List.set_cons_succ]
      refine wpAny_ready (rs := [11]) (by kernel_rfl) (by simp) (aCons (i := 11) rfl (by rfl) (fun K hK => ?_) AllReady.nil)
      go_simp
      refine hK.out _ _ ?_
      clear hK K
      try simp only [Act.put, List.setIfInBounds_toArray, List.set_cons_zero, List.set_cons_succ]
      refine wpAny_done (by kernel_rfl) ?_ _
      go_wp2
      go_end0
      have hKz := (Keep.of_below hbw h1).trans hfin.2
      refine ⟨rfl, ?_, hKz⟩
      rw [hst.out, St.app_ok hno, HT.out]
      exact hfin.1
    · go_simp
      refine (hbig x _ hX0 hX1).mono ?_
      rintro e u4 ⟨a4, c4, rfl, hr4, hb4⟩
      go_wp2_with fail
      have hQ := hQ.below hb4
      have hR := hR.stay (fun k hk _ => hb4.block k hk)
      have hI := hI.stay (fun k hk _ => hb4.block k hk)
      have hbw := hbw.trans (hb4.mono hbw.size)
      have d0 := hQ.cells.1
      have g0 := hQ.cells.2.2.2.1
      refine hK.out _ _ ?_
      clear hK K
      try simp only [Act.put, List.setIfInBounds_toArray, List.set_cons_zero, List.set_cons_succ]
      refine wpAny_ready (rs := [4]) (by kernel_rfl) (by simp) (aCons (i := 4) rfl (by rfl) (fun K hK => ?_) AllReady.nil)
      go_simp
      refine hK.out _ _ ?_
      clear hK K
      try simp only [Act.put, List.setIfInBounds_toArray, List.set_cons_zero, List.set_cons_succ]
      refine wpAny_ready (rs := [8]) (by kernel_rfl) (by simp) (aCons (i := 8) rfl (by rfl) (fun K hK => ?_) AllReady.nil)
      refine wp_append_rb (.tmp 33) (.tmp 36) 22 rfl 5 i0 Try.underlying22 hi hz0 hz1 hz2 _ s.bs.length s.bs rfl hR.1 a4 c4 _ (be x) rfl rfl (hne x) hr4 (by have := hlen x; omega) ?_
      intro v' w1 hown hgrow hat
      obtain ⟨ts, hts⟩ : ∃ ts, s.bs ++ be x = ts := ⟨_, rfl⟩
      have htl : s.bs.length + (be x).length = ts.length := by rw [← hts, List.length_append]
      rw [hts, htl] at hown
      have hBt : Byt ts := hts ▸ h3.1.append (hbyt x)
      have HT : Hid (s.bs ++ be x = ts) := hts
      have h1' : ∀ k, G k → k < u4.heap.size := fun k hk => Nat.lt_of_lt_of_le (h1 k hk) hbw.size
      have hfin := Ps.appd (s := s) h1' h2 (by rw [hno]; exact hQ) hR hI hown hgrow hat (by have := h3.app (hbyt x); rw [St.app_ok hno, hts] at this; exact this)
      have h42 := hQ.grown hR hgrow
      obtain ⟨a2, cap2, rfl, _⟩ := Rw.of hBt hown
      have d0 := h42.cells.1
      have g0 := h42.cells.2.2.2.1
      clear hts htl
      refine hK.out _ _ ?_
      clear hK K
      try simp only [Act.put, List.setIfInBounds_toArray, List.set_cons_zero, List.set_cons_succ]
      refine aTake (i := 9) (v := ?v19) rfl (by kernel_rfl) (by kernel_rfl) (by kernel_rfl) (fun _ _ _ h => h) (Or.inl ⟨by rfl, ?y19⟩) ?r19
      case y19 =>
        intro w9
        go_simp
        try with_reducible rfl
      try simp only [Act.put, List.setIfInBounds_toArray, List.set_cons_zero, List.set_cons_succ]
      refine aTake (i := 10) (v := ?v20) rfl (by kernel_rfl) (by kernel_rfl) (by kernel_rfl) (fun _ _ _ h => h) (Or.inl ⟨by rfl, ?y20⟩) ?r20
      case y20 =>
        intro w9
        go_simp
        try with_reducible rfl
      try simp only [Act.put, List.setIfInBounds_toArray, List.set_cons_zero, List.set_cons_succ]
      refine wpAny_ready (rs := [11]) (by kernel_rfl) (by simp) (aCons (i := 11) rfl (by rfl) (fun K hK => ?_) AllReady.nil)
      go_simp
      refine hK.out _ _ ?_
      clear hK K
      try simp only [Act.put, List.setIfInBounds_toArray, List.set_cons_zero, List.set_cons_succ]
      refine wpAny_done (by kernel_rfl) ?_ _
      go_wp2
      go_end0
      have hKz := (Keep.of_below hbw h1).trans hfin.2
      refine ⟨rfl, ?_, hKz⟩
      rw [hst.out, St.app_ok hno, HT.out]
      exact hfin.1

theorem per1 (x : Int) : be1 (x + (255 + 1)) = be1 x := by
  simp only [be1, List.cons.injEq, and_true]
  omega
theorem sput8_any (B : Nat) (G : Nat → Prop) (s : St) (x : Int) (w : World) (h : Ps w B G s) (hx : I64 x) (hl : s.bs.length + 4 ≤ 1048576) :
    Calls Try.prog 43 #[pg B, .int .i64 x] w fun e w' => e = .returned (.tuple #[]) ∧ Ps w' B G (s.put8 x) ∧ Keep G w w' := by
  go_enter Try.func43, Try.ntmps43
  go_wp2_with fail
  refine (sput_any 1 (-128) 255 be1 byt_be1 (fun x => by simp [be1]) (fun x => by simp [be1]) per1 big1_any (by decide) (by decide) (by decide) St.put8 (fun _ _ => rfl) B G s x _ h hx hl).mono ?_
  rintro e u ⟨rfl, hP, hK⟩
  go_wp2
  go_end0
  exact ⟨rfl, hP, hK⟩

theorem per2 (x : Int) : be2 (x + (65535 + 1)) = be2 x := by
  simp only [be2, List.cons.injEq, and_true]
  omega
theorem sput16_any (B : Nat) (G : Nat → Prop) (s : St) (x : Int) (w : World) (h : Ps w B G s) (hx : I64 x) (hl : s.bs.length + 4 ≤ 1048576) :
    Calls Try.prog 44 #[pg B, .int .i64 x] w fun e w' => e = .returned (.tuple #[]) ∧ Ps w' B G (s.put16 x) ∧ Keep G w w' := by
  go_enter Try.func44, Try.ntmps44
  go_wp2_with fail
  refine (sput_any 2 (-32768) 65535 be2 byt_be2 (fun x => by simp [be2]) (fun x => by simp [be2]) per2 big2_any (by decide) (by decide) (by decide) St.put16 (fun _ _ => rfl) B G s x _ h hx hl).mono ?_
  rintro e u ⟨rfl, hP, hK⟩
  go_wp2
  go_end0
  exact ⟨rfl, hP, hK⟩

theorem per4 (x : Int) : be4 (x + (4294967295 + 1)) = be4 x := by
  simp only [be4, List.cons.injEq, and_true]
  omega
theorem sput32_any (B : Nat) (G : Nat → Prop) (s : St) (x : Int) (w : World) (h : Ps w B G s) (hx : I64 x) (hl : s.bs.length + 4 ≤ 1048576) :
    Calls Try.prog 45 #[pg B, .int .i64 x] w fun e w' => e = .returned (.tuple #[]) ∧ Ps w' B G (s.put32 x) ∧ Keep G w w' := by
  go_enter Try.func45, Try.ntmps45
  go_wp2_with fail
  refine (sput_any 4 (-2147483648) 4294967295 be4 byt_be4 (fun x => by simp [be4]) (fun x => by simp [be4]) per4 big4_any (by decide) (by decide) (by decide) St.put32 (fun _ _ => rfl) B G s x _ h hx hl).mono ?_
  rintro e u ⟨rfl, hP, hK⟩
  go_wp2
  go_end0
  exact ⟨rfl, hP, hK⟩

end Go.Proofs.Ytcjomppgllbfpaa
