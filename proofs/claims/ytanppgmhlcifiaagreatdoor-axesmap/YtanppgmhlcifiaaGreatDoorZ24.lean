/-
  foundrylaw03.awake, plain, few; foundryref02.Same of formed fractions: the walks.
  foundryref04.Page: put, Put8, Put16, Put32, PutBytes, PutTag, Pad, All: the walks.
  A row of axes grows by one; foundryref06: Read, Same: the walks.
  Rows of ints: read, and of the call's own.
-/
import Derived.Test.YtanppgmhlcifiaaGreatDoorZ21
import Derived.Test.YtanppgmhlcifiaaGreatDoorZ5
import Derived.Test.YtanppgmhlcifiaaGreatDoorZ18
import Derived.Test.YtanppgmhlcifiaaGreatDoorZ15
namespace Go.Proofs.YtanppgmhlcifiaaGreatDoor
open Go.RowKit
set_option linter.unusedSimpArgs false
set_option linter.unusedVariables false
/-- foundryref02.Same, of formed fractions of one number. -/
theorem same3_any (k l : Nat) (q r : Rat) (v v' : Value) (w : World) (h : Fr w v k q) (h' : Fr w v' l r) (hqr : q = r) :
    Calls Tryz.prog 6 #[v, v'] w fun e w' => e = .returned (.bool true) ∧ Below w.heap.size w w' := by
  obtain ⟨n, xs, ys, ⟨a, c, a', c', rfl, hx, hy⟩, f1, _, _, e1⟩ := h
  obtain ⟨m, ps, qs, ⟨b, d, b', d', rfl, hp, hq⟩, f2, _, _, e2⟩ := h'
  obtain ⟨rfl, rfl, rfl⟩ := f1.uniq f2 hx.lim hy.lim hp.lim hq.lim (by rw [e1, e2, hqr])
  refine (alike2_any _ _ _ _ _ _ _ _ _ _ _ _ _ _ _ hx hy hp hq).mono ?_
  rintro e u ⟨rfl, hb⟩
  exact ⟨ret_bool (by simp), hb⟩

theorem awake3_third : to14 (((1 : Int) : Rat) / ((3 : Int) : Rat)) = 5461 := by decide +kernel

end Go.Proofs.YtanppgmhlcifiaaGreatDoor

namespace Go.Proofs.YtanppgmhlcifiaaGreatDoor
open Go.RowKit Go.Maps
set_option linter.unusedSimpArgs false
set_option linter.unusedVariables false
set_option maxHeartbeats 1000000 in
set_option maxRecDepth 100000 in
theorem sputTag_any (B : Nat) (G : Nat → Prop) (s : St) (t : ByteArray) (w : World) (h : Ps w B G s) (ht : t.size ≤ maxLen) (hl : s.bs.length + 4 ≤ 1048576) :
    Calls Tryz.prog 45 #[pg B, .string t] w fun e w' => e = .returned (.tuple #[]) ∧ Ps w' B G (s.tag (sb t)) ∧ Keep G w w' := by
  obtain ⟨i0, hi, hz0, hz1, hz2⟩ := info_parts info_byte
  have hP := h
  obtain ⟨h1, h2, h3, vb, vw, h4, h5, h6⟩ := h
  go_enter Tryz.func45, Tryz.ntmps45
  go_wp2_with fail
  refine (done_any B G s _ hP (by omega)).mono ?_
  rintro e u ⟨rfl, rfl⟩
  by_cases hno : s.no = true
  · rw [hno]
    go_wp2
    (try simp only [Exit.inBlock, Exit.then]); refine bodyPost_ret (results_none rfl _ _ _) rfl ?_
    refine ⟨rfl, ?_, Keep.refl _ _⟩
    have e : s.tag (sb t) = s := by unfold St.tag; split; exact St.app_bad hno _; exact St.fail_bad hno
    rw [e]
    exact hP
  · have hno : s.no = false := by simpa using hno
    rw [hno]
    obtain ⟨c0, c1, c2, f0, f1, f2⟩ := h4.cells
    go_wp2_with fail
    refine (sgood_any t _ ht).mono ?_
    rintro e u ⟨rfl, rfl⟩
    by_cases hg : gd (sb t) = true
    · rw [hg]
      have hs : Hid (s.tag (sb t) = s.app (sb t)) := by show s.tag (sb t) = _; simp [St.tag, hg]
      have hsz : t.size = 4 := by rw [← len_sb]; simp [gd] at hg; exact hg.1
      have Hsz : Hid (t.size = 4) := hsz
      clear hsz hg
      obtain ⟨hP2, hK2⟩ := Ps.failed h1 h2 h3 h4 h5 h6 false
      obtain ⟨W, hW⟩ : ∃ W, W = w.setCell ⟨B, 2, none⟩ (.bool false) := ⟨_, rfl⟩
      have h4' := h4.set2 (.bool false)
      have hoff : ∀ k, k < w.heap.size → k ≠ B → (w.setCell ⟨B, 2, none⟩ (.bool false)).heap[k]? = w.heap[k]? := fun k _ hk => Below.heap_setCell _ ⟨B, 2, none⟩ _ k hk
      have h5' := h5.off h4 (by decide) hoff
      have h6' := h6.off h4 (by decide) hoff
      have h1' : ∀ k, G k → k < (w.setCell ⟨B, 2, none⟩ (.bool false)).heap.size := fun k hk => Nat.lt_of_lt_of_le (h1 k hk) hK2.size
      clear hW W hP2
      go_wp2_with (at_builtin; refine wpList_append_str rfl _ _ 40 9 rfl 5 i0 Tryz.underlying40 Tryz.underlying9 hi hz0 hz1 hz2 _ s.bs.length s.bs rfl h5'.1 t rfl (by rw [Hsz.out]; omega) ?_)
      intro v' w1 hown hgrow hat
      obtain ⟨ts, hts⟩ : ∃ ts, s.bs ++ sb t = ts := ⟨_, rfl⟩
      have htl : s.bs.length + t.size = ts.length := by rw [← hts, List.length_append, len_sb]
      rw [← List.map_append, hts, htl] at hown
      have HT : Hid (s.bs ++ sb t = ts) := hts
      have hBt : Byt ts := hts ▸ h3.1.append (byt_sb t)
      have h4n : Bx3 (w.setCell ⟨B, 2, none⟩ (.bool false)) B vb vw (.bool s.no) := by rw [hno]; exact h4'
      have hfin := Ps.appd (s := s) h1' h2 h4n h5' h6' hown hgrow (by simpa [World.setCell] using hat) (by have := h3.app (byt_sb t); rw [St.app_ok hno, hts] at this; exact this)
      have h42 := h4'.grown h5' hgrow
      obtain ⟨a2, cap2, rfl, _⟩ := Rw.of hBt hown
      obtain ⟨d0, d1, d2, g0, g1, g2⟩ := h42.cells
      clear hts htl
      go_wp2
      go_end0
      refine ⟨rfl, ?_, hK2.trans hfin.2⟩
      rw [hs.out, St.app_ok hno, HT.out]
      exact hfin.1
    · have hg : gd (sb t) = false := by simpa using hg
      have hs : Hid (s.tag (sb t) = s.fail) := by show s.tag (sb t) = _; simp [St.tag, hg]
      rw [hg]
      clear hg
      obtain ⟨hP2, hK2⟩ := Ps.failed h1 h2 h3 h4 h5 h6 true
      go_wp2
      go_end0
      exact ⟨rfl, by rw [hs.out]; exact hP2, hK2⟩

set_option maxHeartbeats 1000000 in
set_option maxRecDepth 100000 in
theorem sall_any (B : Nat) (G : Nat → Prop) (s : St) (w : World) (h : Ps w B G s) (hl : s.bs.length ≤ 1048576) :
    Calls Tryz.prog 47 #[pg B] w fun e w' => ∃ a' cap', e = .returned (.tuple #[.slice a' (allB s).length cap', .int .i64 (allE s)]) ∧ Rw 5 w.heap.size w' a' cap' (allB s) ∧ Below w.heap.size w w' := by
  obtain ⟨i0, hi, hz0, hz1, hz2⟩ := info_parts info_byte
  obtain ⟨h1, h2, h3, vb, vw, h4, h5, h6⟩ := h
  obtain ⟨c0, c1, c2, f0, f1, f2⟩ := h4.cells
  obtain ⟨a, c, rfl⟩ := h5.slice
  obtain ⟨aw, cw, rfl, q1, q2, _⟩ := h6.1.slice
  have hrb := h5.rb h3.1
  unfold maxLen at q2
  by_cases hno : s.no = true
  · have HE : Hid (allE s = 4) := by show allE s = 4; simp [allE, hno]
    have HB : Hid (allB s = []) := by show allB s = []; simp [allB, hno]
    rw [hno] at c2
    clear h1 h2 h3 h4 h5 h6 hno
    go_enter Tryz.func47, Tryz.ntmps47
    go_wp2
    go_ret2
    refine ⟨none, 0, rt_two (by rw [HB.out]; rfl) (by rw [HE.out]; rfl), ?_, Below.refl _ _⟩
    rw [HB.out]
    exact Rw.nil _ _
  · have hno : s.no = false := by simpa using hno
    rw [hno] at c2
    by_cases hws : s.ws = []
    · have HE : Hid (allE s = 0) := by show allE s = 0; simp [allE, hno, hws]
      have HB : Hid (allB s = s.bs) := by show allB s = s.bs; simp [allB, hno, hws]
      rw [hws] at c1
      generalize s.bs = bs at *
      clear h1 h2 h3 h4 h5 h6 hno hws
      go_enter Tryz.func47, Tryz.ntmps47
      go_wp2_with (at_builtin; refine wpList_append_rb rfl _ _ 40 rfl w.heap.size 5 i0 Tryz.underlying40 hi hz0 hz1 hz2 _ 0 [] rfl (World.ownsRow_nil w _ _ 1) a c _ bs rfl rfl hrb (by omega) (Nat.le_refl _) ?_)
      intro v' w1 hown hgrow hat
      obtain ⟨a', cap', rfl, hres⟩ := Rw.of hrb.lim hown
      go_wp2
      go_ret2
      refine ⟨a', cap', rt_two (by rw [HB.out]; rfl) (by rw [HE.out]; rfl), ?_, (Below.refl _ _).grown hgrow (Nat.le_refl _) (fun k hk => by simp [Value.ownBlock] at hk)⟩
      rw [HB.out]
      exact hres
    · have HE : Hid (allE s = 1) := by show allE s = 1; simp [allE, hno, hws]
      have HB : Hid (allB s = []) := by show allB s = []; simp [allB, hno, hws]
      have hpos : 0 < s.ws.length := List.length_pos_iff.2 hws
      have hpos' : 0 < (s.ws.length : Int) := by omega
      clear h1 h2 h3 h4 h5 h6 hno hws
      go_enter Tryz.func47, Tryz.ntmps47
      go_wp2
      go_ret2
      refine ⟨none, 0, rt_two (by rw [HB.out]; rfl) (by rw [HE.out]; rfl), ?_, Below.refl _ _⟩
      rw [HB.out]
      exact Rw.nil _ _

set_option maxHeartbeats 4000000 in
set_option maxRecDepth 100000 in
theorem sput_any (n lo hi1 : Int) (be : Int → List Nat) (hbyt : ∀ x, Byt (be x)) (hlen : ∀ x, (be x).length ≤ 4) (hne : ∀ x, be x ≠ []) (hper : ∀ x, be (x + (hi1 + 1)) = be x)
    (hbig : ∀ (x : Int) (w : World), 0 ≤ x → x ≤ 9223372036854775807 → Calls Tryz.prog 115 #[.int .i64 x, .int .i64 n] w fun e w' => ∃ a cap, e = .returned (.slice a (be x).length cap) ∧ Rb w' a cap (be x) ∧ Below w.heap.size w w')
    (hlo : lo = -(hi1 + 1) / 2) (hh0 : 0 ≤ hi1) (hh1 : hi1 ≤ 4294967295) (put : St → Int → St) (hput : ∀ s x, put s x = if lo ≤ x ∧ x ≤ hi1 then s.app (be x) else s.fail)
    (B : Nat) (G : Nat → Prop) (s : St) (x : Int) (w : World) (h : Ps w B G s) (hx : I64 x) (hl : s.bs.length + 4 ≤ 1048576) :
    Calls Tryz.prog 81 #[pg B, .int .i64 x, .int .i64 n, .int .i64 lo, .int .i64 hi1] w fun e w' => e = .returned (.tuple #[]) ∧ Ps w' B G (put s x) ∧ Keep G w w' := by
  obtain ⟨i0, hi, hz0, hz1, hz2⟩ := info_parts info_byte
  have hP := h
  obtain ⟨h1, h2, h3, vb, vw, h4, h5, h6⟩ := h
  obtain ⟨x1, x2⟩ := hx
  obtain ⟨c0, c1, c2, f0, f1, f2⟩ := h4.cells
  have HPER : Hid (∀ x, be (x + (hi1 + 1)) = be x) := hper
  clear hper
  have hlo1 : -2147483648 ≤ lo := by omega
  have hlo2 : lo ≤ 0 := by omega
  by_cases hno : s.no = true
  · have hst : Hid (put s x = s) := by
      show put s x = s
      rw [hput]
      split
      · exact St.app_bad hno _
      · exact St.fail_bad hno
    clear hput
    go_enter Tryz.func81, Tryz.ntmps81
    go_wp2_with fail
    refine (done_any B G s _ hP (by omega)).mono ?_
    rintro e u ⟨rfl, rfl⟩
    rw [hno]
    go_wp2
    (try simp only [Exit.inBlock, Exit.then]); refine bodyPost_ret (results_none rfl _ _ _) rfl ?_
    exact ⟨rfl, by rw [hst.out]; exact hP, Keep.refl _ _⟩
  have hno : s.no = false := by simpa using hno
  by_cases hr : lo ≤ x ∧ x ≤ hi1
  rotate_left
  · have hst : Hid (put s x = s.fail) := by show put s x = _; rw [hput, if_neg hr]
    obtain ⟨hP2, hK2⟩ := Ps.failed h1 h2 h3 h4 h5 h6 true
    have hor : x < lo ∨ (lo ≤ x ∧ hi1 < x) := by omega
    clear hr hput
    rcases hor with r1 | ⟨r1, r2⟩
    all_goals
      go_enter Tryz.func81, Tryz.ntmps81
      go_wp2_with fail
      refine (done_any B G s _ hP (by omega)).mono ?_
      rintro e u ⟨rfl, rfl⟩
      rw [hno]
      go_wp2
      (try simp only [Exit.inBlock, Exit.then]); refine bodyPost_ret (results_none rfl _ _ _) rfl ?_
      exact ⟨rfl, by rw [hst.out]; exact hP2, hK2⟩
  have hst : Hid (put s x = s.app (be x)) := by show put s x = _; rw [hput, if_pos hr]
  obtain ⟨r1, r2⟩ := hr
  clear hput
  by_cases hneg : x < 0
  · have hX0 : 0 ≤ x + (hi1 + 1) := by omega
    have hX1 : x + (hi1 + 1) ≤ 9223372036854775807 := by omega
    clear hlo
    go_enter Tryz.func81, Tryz.ntmps81
    go_wp2_with fail
    refine (done_any B G s _ hP (by omega)).mono ?_
    rintro e u ⟨rfl, rfl⟩
    rw [hno]
    go_wp2_with fail
    refine drewRegion (by kernel_rfl) ?_
    have hbw : Below w.heap.size w w.drew := Below.drew (Below.refl _ _)
    have hQ : Bx3 w.drew B vb vw (.bool false) := by rw [← hno]; exact h4.below hbw
    have hR := h5.stay (w' := w.drew) (fun k hk _ => hbw.block k hk)
    have hI := h6.stay (w' := w.drew) (fun k hk _ => hbw.block k hk)
    generalize w.drew = u3 at hbw hQ hR hI ⊢
    have d0 := hQ.cells.1
    have g0 := hQ.cells.2.2.2.1
    refine aTake (i := 0) (v := ?v1) rfl (by kernel_rfl) (by kernel_rfl) (by kernel_rfl) (fun _ _ _ h => h) (Or.inl ⟨by rfl, ?y1⟩) ?r1
    case y1 =>
      intro w9
      go_simp
      try with_reducible rfl
    try simp only [Act.put, List.setIfInBounds_toArray, List.set_cons_zero, List.set_cons_succ]
    refine aTake (i := 1) (v := ?v2) rfl (by kernel_rfl) (by kernel_rfl) (by kernel_rfl) (fun _ _ _ h => h) (Or.inl ⟨by rfl, ?y2⟩) ?r2
    case y2 =>
      intro w9
      go_simp
      try with_reducible rfl
    try simp only [Act.put, List.setIfInBounds_toArray, List.set_cons_zero, List.set_cons_succ]
    refine aTake (i := 2) (v := ?v3) rfl (by kernel_rfl) (by kernel_rfl) (by kernel_rfl) (fun _ _ _ h => h) (Or.inl ⟨by rfl, ?y3⟩) ?r3
    case y3 =>
      intro w9
      go_simp
      try with_reducible rfl
    try simp only [Act.put, List.setIfInBounds_toArray, List.set_cons_zero, List.set_cons_succ]
    refine aTake (i := 3) (v := ?v4) rfl (by kernel_rfl) (by kernel_rfl) (by kernel_rfl) (fun _ _ _ h => h) (Or.inl ⟨by rfl, ?y4⟩) ?r4
    case y4 =>
      intro w9
      go_simp
      try with_reducible rfl
    try simp only [Act.put, List.setIfInBounds_toArray, List.set_cons_zero, List.set_cons_succ]
    refine aTake (i := 5) (v := ?v5) rfl (by kernel_rfl) (by kernel_rfl) (by kernel_rfl) (fun _ _ _ h => h) (Or.inl ⟨by rfl, ?y5⟩) ?r5
    case y5 =>
      intro w9
      go_simp
      try with_reducible rfl
    try simp only [Act.put, List.setIfInBounds_toArray, List.set_cons_zero, List.set_cons_succ]
    refine aTake (i := 6) (v := ?v6) rfl (by kernel_rfl) (by kernel_rfl) (by kernel_rfl) (fun _ _ _ h => h) (Or.inl ⟨by rfl, ?y6⟩) ?r6
    case y6 =>
      intro w9
      go_simp
      try with_reducible rfl
    try simp only [Act.put, List.setIfInBounds_toArray, List.set_cons_zero, List.set_cons_succ]
    refine wpAny_ready (rs := [4, 7]) (by kernel_rfl) (by simp) (aCons (i := 4) rfl (by rfl) (fun K hK => ?_) (aCons (i := 7) rfl (by rfl) (fun K hK => ?_) AllReady.nil))
    · go_simp
      refine hK.out _ _ ?_
      clear hK K
      try simp only [Act.put, List.setIfInBounds_toArray, List.set_cons_zero, List.set_cons_succ]
      refine wpAny_ready (rs := [7]) (by kernel_rfl) (by simp) (aCons (i := 7) rfl (by rfl) (fun K hK => ?_) AllReady.nil)
      go_simp
      refine (hbig (x + (hi1 + 1)) _ hX0 hX1).mono ?_
      rintro e u4 ⟨a4, c4, rfl, hr4, hb4⟩
      go_wp2_with fail
      have hQ := hQ.below hb4
      have hR := hR.stay (fun k hk _ => hb4.block k hk)
      have hI := hI.stay (fun k hk _ => hb4.block k hk)
      have hbw := hbw.trans (hb4.mono hbw.size)
      have d0 := hQ.cells.1
      have g0 := hQ.cells.2.2.2.1
      refine hK.out _ _ ?_
      clear hK K
      try simp only [Act.put, List.setIfInBounds_toArray, List.set_cons_zero, List.set_cons_succ]
      refine wpAny_ready (rs := [8]) (by kernel_rfl) (by simp) (aCons (i := 8) rfl (by rfl) (fun K hK => ?_) AllReady.nil)
      refine wp_append_rb (.tmp 33) (.tmp 36) 40 rfl 5 i0 Tryz.underlying40 hi hz0 hz1 hz2 _ s.bs.length s.bs rfl hR.1 a4 c4 _ (be (x + (hi1 + 1))) rfl rfl (hne (x + (hi1 + 1))) hr4 (by have := hlen (x + (hi1 + 1)); omega) ?_
      intro v' w1 hown hgrow hat
      obtain ⟨ts, hts⟩ : ∃ ts, s.bs ++ be (x + (hi1 + 1)) = ts := ⟨_, rfl⟩
      have htl : s.bs.length + (be (x + (hi1 + 1))).length = ts.length := by rw [← hts, List.length_append]
      rw [hts, htl] at hown
      have hBt : Byt ts := hts ▸ h3.1.append (hbyt (x + (hi1 + 1)))
      have HT : Hid (s.bs ++ be (x + (hi1 + 1)) = ts) := hts
      have h1' : ∀ k, G k → k < u4.heap.size := fun k hk => Nat.lt_of_lt_of_le (h1 k hk) hbw.size
      have hfin := Ps.appd (s := s) h1' h2 (by rw [hno]; exact hQ) hR hI hown hgrow hat (by have := h3.app (hbyt (x + (hi1 + 1))); rw [St.app_ok hno, hts] at this; exact this)
      have h42 := hQ.grown hR hgrow
      obtain ⟨a2, cap2, rfl, _⟩ := Rw.of hBt hown
      have d0 := h42.cells.1
      have g0 := h42.cells.2.2.2.1
      clear hts htl
      refine hK.out _ _ ?_
      clear hK K
      try simp only [Act.put, List.setIfInBounds_toArray, List.set_cons_zero, List.set_cons_succ]
      refine aTake (i := 9) (v := ?v7) rfl (by kernel_rfl) (by kernel_rfl) (by kernel_rfl) (fun _ _ _ h => h) (Or.inl ⟨by rfl, ?y7⟩) ?r7
      case y7 =>
        intro w9
        go_simp
        try with_reducible rfl
      try simp only [Act.put, List.setIfInBounds_toArray, List.set_cons_zero, List.set_cons_succ]
      refine aTake (i := 10) (v := ?v8) rfl (by kernel_rfl) (by kernel_rfl) (by kernel_rfl) (fun _ _ _ h => h) (Or.inl ⟨by rfl, ?y8⟩) ?r8
      case y8 =>
        intro w9
        go_simp
        try with_reducible rfl
      try simp only [Act.put, List.setIfInBounds_toArray, List.set_cons_zero, List.set_cons_succ]
      refine wpAny_ready (rs := [11]) (by kernel_rfl) (by simp) (aCons (i := 11) rfl (by rfl) (fun K hK => ?_) AllReady.nil)
      go_simp
      refine hK.out _ _ ?_
      clear hK K
      try simp only [Act.put, List.setIfInBounds_toArray, List.set_cons_zero, List.set_cons_succ]
      refine wpAny_done (by kernel_rfl) ?_ _
      go_wp2
      go_end0
      have hKz := (Keep.of_below hbw h1).trans hfin.2
      refine ⟨rfl, ?_, hKz⟩
      rw [hst.out, ← HPER.out x, St.app_ok hno, HT.out]
      exact hfin.1
    · go_simp
      refine (hbig (x + (hi1 + 1)) _ hX0 hX1).mono ?_
      rintro e u4 ⟨a4, c4, rfl, hr4, hb4⟩
      go_wp2_with fail
      have hQ := hQ.below hb4
      have hR := hR.stay (fun k hk _ => hb4.block k hk)
      have hI := hI.stay (fun k hk _ => hb4.block k hk)
      have hbw := hbw.trans (hb4.mono hbw.size)
      have d0 := hQ.cells.1
      have g0 := hQ.cells.2.2.2.1
      refine hK.out _ _ ?_
      clear hK K
      try simp only [Act.put, List.setIfInBounds_toArray, List.set_cons_zero, List.set_cons_succ]
      refine wpAny_ready (rs := [4]) (by kernel_rfl) (by simp) (aCons (i := 4) rfl (by rfl) (fun K hK => ?_) AllReady.nil)
      go_simp
      refine hK.out _ _ ?_
      clear hK K
      try simp only [Act.put, List.setIfInBounds_toArray, List.set_cons_zero, List.set_cons_succ]
      refine wpAny_ready (rs := [8]) (by kernel_rfl) (by simp) (aCons (i := 8) rfl (by rfl) (fun K hK => ?_) AllReady.nil)
      refine wp_append_rb (.tmp 33) (.tmp 36) 40 rfl 5 i0 Tryz.underlying40 hi hz0 hz1 hz2 _ s.bs.length s.bs rfl hR.1 a4 c4 _ (be (x + (hi1 + 1))) rfl rfl (hne (x + (hi1 + 1))) hr4 (by have := hlen (x + (hi1 + 1)); omega) ?_
      intro v' w1 hown hgrow hat
      obtain ⟨ts, hts⟩ : ∃ ts, s.bs ++ be (x + (hi1 + 1)) = ts := ⟨_, rfl⟩
      have htl : s.bs.length + (be (x + (hi1 + 1))).length = ts.length := by rw [← hts, List.length_append]
      rw [hts, htl] at hown
      have hBt : Byt ts := hts ▸ h3.1.append (hbyt (x + (hi1 + 1)))
      have HT : Hid (s.bs ++ be (x + (hi1 + 1)) = ts) := hts
      have h1' : ∀ k, G k → k < u4.heap.size := fun k hk => Nat.lt_of_lt_of_le (h1 k hk) hbw.size
      have hfin := Ps.appd (s := s) h1' h2 (by rw [hno]; exact hQ) hR hI hown hgrow hat (by have := h3.app (hbyt (x + (hi1 + 1))); rw [St.app_ok hno, hts] at this; exact this)
      have h42 := hQ.grown hR hgrow
      obtain ⟨a2, cap2, rfl, _⟩ := Rw.of hBt hown
      have d0 := h42.cells.1
      have g0 := h42.cells.2.2.2.1
      clear hts htl
      refine hK.out _ _ ?_
      clear hK K
      try simp only [Act.put, List.setIfInBounds_toArray, List.set_cons_zero, List.set_cons_succ]
      refine aTake (i := 9) (v := ?v9) rfl (by kernel_rfl) (by kernel_rfl) (by kernel_rfl) (fun _ _ _ h => h) (Or.inl ⟨by rfl, ?y9⟩) ?r9
      case y9 =>
        intro w9
        go_simp
        try with_reducible rfl
      try simp only [Act.put, List.setIfInBounds_toArray, List.set_cons_zero, List.set_cons_succ]
      refine aTake (i := 10) (v := ?v10) rfl (by kernel_rfl) (by kernel_rfl) (by kernel_rfl) (fun _ _ _ h => h) (Or.inl ⟨by rfl, ?y10⟩) ?r10
      case y10 =>
        intro w9
        go_simp
        try with_reducible rfl
      try simp only [Act.put, List.setIfInBounds_toArray, List.set_cons_zero, List.set_cons_succ]
      refine wpAny_ready (rs := [11]) (by kernel_rfl) (by simp) (aCons (i := 11) rfl (by rfl) (fun K hK => ?_) AllReady.nil)
      go_simp
      refine hK.out _ _ ?_
      clear hK K
      try simp only [Act.put, List.setIfInBounds_toArray, List.set_cons_zero, List.set_cons_succ]
      refine wpAny_done (by kernel_rfl) ?_ _
      go_wp2
      go_end0
      have hKz := (Keep.of_below hbw h1).trans hfin.2
      refine ⟨rfl, ?_, hKz⟩
      rw [hst.out, ← HPER.out x, St.app_ok hno, HT.out]
      exact hfin.1
  · have hX0 : 0 ≤ x := by omega
    have hX1 : x ≤ 9223372036854775807 := x2
    clear hlo
    go_enter Tryz.func81, Tryz.ntmps81
    go_wp2_with fail
    refine (done_any B G s _ hP (by omega)).mono ?_
    rintro e u ⟨rfl, rfl⟩
    rw [hno]
    go_wp2_with fail
    refine drewRegion (by kernel_rfl) ?_
    have hbw : Below w.heap.size w w.drew := Below.drew (Below.refl _ _)
    have hQ : Bx3 w.drew B vb vw (.bool false) := by rw [← hno]; exact h4.below hbw
    have hR := h5.stay (w' := w.drew) (fun k hk _ => hbw.block k hk)
    have hI := h6.stay (w' := w.drew) (fun k hk _ => hbw.block k hk)
    generalize w.drew = u3 at hbw hQ hR hI ⊢
    have d0 := hQ.cells.1
    have g0 := hQ.cells.2.2.2.1
    refine aTake (i := 0) (v := ?v11) rfl (by kernel_rfl) (by kernel_rfl) (by kernel_rfl) (fun _ _ _ h => h) (Or.inl ⟨by rfl, ?y11⟩) ?r11
    case y11 =>
      intro w9
      go_simp
      try with_reducible rfl
    try simp only [Act.put, List.setIfInBounds_toArray, List.set_cons_zero, List.set_cons_succ]
    refine aTake (i := 1) (v := ?v12) rfl (by kernel_rfl) (by kernel_rfl) (by kernel_rfl) (fun _ _ _ h => h) (Or.inl ⟨by rfl, ?y12⟩) ?r12
    case y12 =>
      intro w9
      go_simp
      try with_reducible rfl
    try simp only [Act.put, List.setIfInBounds_toArray, List.set_cons_zero, List.set_cons_succ]
    refine aTake (i := 2) (v := ?v13) rfl (by kernel_rfl) (by kernel_rfl) (by kernel_rfl) (fun _ _ _ h => h) (Or.inl ⟨by rfl, ?y13⟩) ?r13
    case y13 =>
      intro w9
      go_simp
      try with_reducible rfl
    try simp only [Act.put, List.setIfInBounds_toArray, List.set_cons_zero, List.set_cons_succ]
    refine aTake (i := 3) (v := ?v14) rfl (by kernel_rfl) (by kernel_rfl) (by kernel_rfl) (fun _ _ _ h => h) (Or.inl ⟨by rfl, ?y14⟩) ?r14
    case y14 =>
      intro w9
      go_simp
      try with_reducible rfl
    try simp only [Act.put, List.setIfInBounds_toArray, List.set_cons_zero, List.set_cons_succ]
    refine aTake (i := 5) (v := ?v15) rfl (by kernel_rfl) (by kernel_rfl) (by kernel_rfl) (fun _ _ _ h => h) (Or.inl ⟨by rfl, ?y15⟩) ?r15
    case y15 =>
      intro w9
      go_simp
      try with_reducible rfl
    try simp only [Act.put, List.setIfInBounds_toArray, List.set_cons_zero, List.set_cons_succ]
    refine aTake (i := 6) (v := ?v16) rfl (by kernel_rfl) (by kernel_rfl) (by kernel_rfl) (fun _ _ _ h => h) (Or.inl ⟨by rfl, ?y16⟩) ?r16
    case y16 =>
      intro w9
      go_simp
      try with_reducible rfl
    try simp only [Act.put, List.setIfInBounds_toArray, List.set_cons_zero, List.set_cons_succ]
    refine wpAny_ready (rs := [4, 7]) (by kernel_rfl) (by simp) (aCons (i := 4) rfl (by rfl) (fun K hK => ?_) (aCons (i := 7) rfl (by rfl) (fun K hK => ?_) AllReady.nil))
    · go_simp
      refine hK.out _ _ ?_
      clear hK K
      try simp only [Act.put, List.setIfInBounds_toArray, List.set_cons_zero, List.set_cons_succ]
      refine wpAny_ready (rs := [7]) (by kernel_rfl) (by simp) (aCons (i := 7) rfl (by rfl) (fun K hK => ?_) AllReady.nil)
      go_simp
      refine (hbig x _ hX0 hX1).mono ?_
      rintro e u4 ⟨a4, c4, rfl, hr4, hb4⟩
      go_wp2_with fail
      have hQ := hQ.below hb4
      have hR := hR.stay (fun k hk _ => hb4.block k hk)
      have hI := hI.stay (fun k hk _ => hb4.block k hk)
      have hbw := hbw.trans (hb4.mono hbw.size)
      have d0 := hQ.cells.1
      have g0 := hQ.cells.2.2.2.1
      refine hK.out _ _ ?_
      clear hK K
      try simp only [Act.put, List.setIfInBounds_toArray, List.set_cons_zero, List.set_cons_succ]
      refine wpAny_ready (rs := [8]) (by kernel_rfl) (by simp) (aCons (i := 8) rfl (by rfl) (fun K hK => ?_) AllReady.nil)
      refine wp_append_rb (.tmp 33) (.tmp 36) 40 rfl 5 i0 Tryz.underlying40 hi hz0 hz1 hz2 _ s.bs.length s.bs rfl hR.1 a4 c4 _ (be x) rfl rfl (hne x) hr4 (by have := hlen x; omega) ?_
      intro v' w1 hown hgrow hat
      obtain ⟨ts, hts⟩ : ∃ ts, s.bs ++ be x = ts := ⟨_, rfl⟩
      have htl : s.bs.length + (be x).length = ts.length := by rw [← hts, List.length_append]
      rw [hts, htl] at hown
      have hBt : Byt ts := hts ▸ h3.1.append (hbyt x)
      have HT : Hid (s.bs ++ be x = ts) := hts
      have h1' : ∀ k, G k → k < u4.heap.size := fun k hk => Nat.lt_of_lt_of_le (h1 k hk) hbw.size
      have hfin := Ps.appd (s := s) h1' h2 (by rw [hno]; exact hQ) hR hI hown hgrow hat (by have := h3.app (hbyt x); rw [St.app_ok hno, hts] at this; exact this)
      have h42 := hQ.grown hR hgrow
      obtain ⟨a2, cap2, rfl, _⟩ := Rw.of hBt hown
      have d0 := h42.cells.1
      have g0 := h42.cells.2.2.2.1
      clear hts htl
      refine hK.out _ _ ?_
      clear hK K
      try simp only [Act.put, List.setIfInBounds_toArray, List.set_cons_zero, List.set_cons_succ]
      refine aTake (i := 9) (v := ?v17) rfl (by kernel_rfl) (by kernel_rfl) (by kernel_rfl) (fun _ _ _ h => h) (Or.inl ⟨by rfl, ?y17⟩) ?r17
      case y17 =>
        intro w9
        go_simp
        try with_reducible rfl
      try simp only [Act.put, List.setIfInBounds_toArray, List.set_cons_zero, List.set_cons_succ]
      refine aTake (i := 10) (v := ?v18) rfl (by kernel_rfl) (by kernel_rfl) (by kernel_rfl) (fun _ _ _ h => h) (Or.inl ⟨by rfl, ?y18⟩) ?r18
      case y18 =>
        intro w9
        go_simp
        try with_reducible rfl
      try simp only [Act.put, List.setIfInBounds_toArray, List.set_cons_zero, List.set_cons_succ]
      refine wpAny_ready (rs := [11]) (by kernel_rfl) (by simp) (aCons (i := 11) rfl (by rfl) (fun K hK => ?_) AllReady.nil)
      go_simp
      refine hK.out _ _ ?_
      clear hK K
      try simp only [Act.put, List.setIfInBounds_toArray, List.set_cons_zero, List.set_cons_succ]
      refine wpAny_done (by kernel_rfl) ?_ _
      go_wp2
      go_end0
      have hKz := (Keep.of_below hbw h1).trans hfin.2
      refine ⟨rfl, ?_, hKz⟩
      rw [hst.out, St.app_ok hno, HT.out]
      exact hfin.1
    · go_simp
      refine (hbig x _ hX0 hX1).mono ?_
      rintro e u4 ⟨a4, c4, rfl, hr4, hb4⟩
      go_wp2_with fail
      have hQ := hQ.below hb4
      have hR := hR.stay (fun k hk _ => hb4.block k hk)
      have hI := hI.stay (fun k hk _ => hb4.block k hk)
      have hbw := hbw.trans (hb4.mono hbw.size)
      have d0 := hQ.cells.1
      have g0 := hQ.cells.2.2.2.1
      refine hK.out _ _ ?_
      clear hK K
      try simp only [Act.put, List.setIfInBounds_toArray, List.set_cons_zero, List.set_cons_succ]
      refine wpAny_ready (rs := [4]) (by kernel_rfl) (by simp) (aCons (i := 4) rfl (by rfl) (fun K hK => ?_) AllReady.nil)
      go_simp
      refine hK.out _ _ ?_
      clear hK K
      try simp only [Act.put, List.setIfInBounds_toArray, List.set_cons_zero, List.set_cons_succ]
      refine wpAny_ready (rs := [8]) (by kernel_rfl) (by simp) (aCons (i := 8) rfl (by rfl) (fun K hK => ?_) AllReady.nil)
      refine wp_append_rb (.tmp 33) (.tmp 36) 40 rfl 5 i0 Tryz.underlying40 hi hz0 hz1 hz2 _ s.bs.length s.bs rfl hR.1 a4 c4 _ (be x) rfl rfl (hne x) hr4 (by have := hlen x; omega) ?_
      intro v' w1 hown hgrow hat
      obtain ⟨ts, hts⟩ : ∃ ts, s.bs ++ be x = ts := ⟨_, rfl⟩
      have htl : s.bs.length + (be x).length = ts.length := by rw [← hts, List.length_append]
      rw [hts, htl] at hown
      have hBt : Byt ts := hts ▸ h3.1.append (hbyt x)
      have HT : Hid (s.bs ++ be x = ts) := hts
      have h1' : ∀ k, G k → k < u4.heap.size := fun k hk => Nat.lt_of_lt_of_le (h1 k hk) hbw.size
      have hfin := Ps.appd (s := s) h1' h2 (by rw [hno]; exact hQ) hR hI hown hgrow hat (by have := h3.app (hbyt x); rw [St.app_ok hno, hts] at this; exact this)
      have h42 := hQ.grown hR hgrow
      obtain ⟨a2, cap2, rfl, _⟩ := Rw.of hBt hown
      have d0 := h42.cells.1
      have g0 := h42.cells.2.2.2.1
      clear hts htl
      refine hK.out _ _ ?_
      clear hK K
      try simp only [Act.put, List.setIfInBounds_toArray, List.set_cons_zero, List.set_cons_succ]
      refine aTake (i := 9) (v := ?v19) rfl (by kernel_rfl) (by kernel_rfl) (by kernel_rfl) (fun _ _ _ h => h) (Or.inl ⟨by rfl, ?y19⟩) ?r19
      case y19 =>
        intro w9
        go_simp
        try with_reducible rfl
      try simp only [Act.put, List.setIfInBounds_toArray, List.set_cons_zero, List.set_cons_succ]
      refine aTake (i := 10) (v := ?v20) rfl (by kernel_rfl) (by kernel_rfl) (by kernel_rfl) (fun _ _ _ h => h) (Or.inl ⟨by rfl, ?y20⟩) ?r20
      case y20 =>
        intro w9
        go_simp
        try with_reducible rfl
      try simp only [Act.put, List.setIfInBounds_toArray, List.set_cons_zero, List.set_cons_succ]
      refine wpAny_ready (rs := [11]) (by kernel_rfl) (by simp) (aCons (i := 11) rfl (by rfl) (fun K hK => ?_) AllReady.nil)
      go_simp
      refine hK.out _ _ ?_
      clear hK K
      try simp only [Act.put, List.setIfInBounds_toArray, List.set_cons_zero, List.set_cons_succ]
      refine wpAny_done (by kernel_rfl) ?_ _
      go_wp2
      go_end0
      have hKz := (Keep.of_below hbw h1).trans hfin.2
      refine ⟨rfl, ?_, hKz⟩
      rw [hst.out, St.app_ok hno, HT.out]
      exact hfin.1

theorem per1 (x : Int) : be1 (x + (255 + 1)) = be1 x := by
  simp only [be1, List.cons.injEq, and_true]
  omega
theorem per2 (x : Int) : be2 (x + (65535 + 1)) = be2 x := by
  simp only [be2, List.cons.injEq, and_true]
  omega
theorem sput16_any (B : Nat) (G : Nat → Prop) (s : St) (x : Int) (w : World) (h : Ps w B G s) (hx : I64 x) (hl : s.bs.length + 4 ≤ 1048576) :
    Calls Tryz.prog 44 #[pg B, .int .i64 x] w fun e w' => e = .returned (.tuple #[]) ∧ Ps w' B G (s.put16 x) ∧ Keep G w w' := by
  go_enter Tryz.func44, Tryz.ntmps44
  go_wp2_with fail
  refine (sput_any 2 (-32768) 65535 be2 byt_be2 (fun x => by simp [be2]) (fun x => by simp [be2]) per2 big2_any (by decide) (by decide) (by decide) St.put16 (fun _ _ => rfl) B G s x _ h hx hl).mono ?_
  rintro e u ⟨rfl, hP, hK⟩
  go_wp2
  go_end0
  exact ⟨rfl, hP, hK⟩

theorem per4 (x : Int) : be4 (x + (4294967295 + 1)) = be4 x := by
  simp only [be4, List.cons.injEq, and_true]
  omega
theorem sput32_any (B : Nat) (G : Nat → Prop) (s : St) (x : Int) (w : World) (h : Ps w B G s) (hx : I64 x) (hl : s.bs.length + 4 ≤ 1048576) :
    Calls Tryz.prog 46 #[pg B, .int .i64 x] w fun e w' => e = .returned (.tuple #[]) ∧ Ps w' B G (s.put32 x) ∧ Keep G w w' := by
  go_enter Tryz.func46, Tryz.ntmps46
  go_wp2_with fail
  refine (sput_any 4 (-2147483648) 4294967295 be4 byt_be4 (fun x => by simp [be4]) (fun x => by simp [be4]) per4 big4_any (by decide) (by decide) (by decide) St.put32 (fun _ _ => rfl) B G s x _ h hx hl).mono ?_
  rintro e u ⟨rfl, hP, hK⟩
  go_wp2
  go_end0
  exact ⟨rfl, hP, hK⟩

end Go.Proofs.YtanppgmhlcifiaaGreatDoor

namespace Go.Proofs.YtanppgmhlcifiaaGreatDoor
open Go.RowKit Go.Maps
set_option linter.unusedSimpArgs false
set_option linter.unusedVariables false

theorem info_ax : (Tryz.prog.info? 23).map (fun i => (i.zero, i.size, i.bytes)) = some (some (.agg #[.string ⟨#[]⟩, .int .i64 0, .int .i64 0, .int .i64 0]), 4, 40) := by kernel_rfl

/-- The cells of axes. -/
def axL : List Ax → List Value
  | [] => []
  | t :: l => [.string t.tx, .int .i64 t.lo, .int .i64 t.us, .int .i64 t.hi] ++ axL l
theorem axL_append (l m : List Ax) : axL (l ++ m) = axL l ++ axL m := by
  induction l with
  | nil => rfl
  | cons t l ih => rw [List.cons_append, axL, axL, ih, List.append_assoc]
theorem axL_len (l : List Ax) : (axL l).length = l.length * 4 := by
  induction l with
  | nil => rfl
  | cons t l ih => rw [axL, List.length_append, ih]; simp; omega
theorem axL_get : ∀ (l : List Ax) (i : Nat), i < l.length → (axL l)[i * 4]? = some (.string (l.getD i Ax.none).tx) ∧ (axL l)[i * 4 + 1]? = some (.int .i64 (l.getD i Ax.none).lo) ∧ (axL l)[i * 4 + 2]? = some (.int .i64 (l.getD i Ax.none).us) ∧ (axL l)[i * 4 + 3]? = some (.int .i64 (l.getD i Ax.none).hi) := by
  intro l
  induction l with
  | nil => intro i hi; simp at hi
  | cons t l ih =>
    intro i hi
    cases i with
    | zero => simp [axL, List.getD]
    | succ i =>
      have := ih i (by simpa using hi)
      rw [axL]
      simp only [show (i + 1) * 4 = i * 4 + 4 by omega, List.getD_cons_succ]
      simp only [List.cons_append, List.nil_append, show i * 4 + 4 + 1 = i * 4 + 1 + 4 by omega, show i * 4 + 4 + 2 = i * 4 + 2 + 4 by omega, show i * 4 + 4 + 3 = i * 4 + 3 + 4 by omega]
      simpa using this
/-- A row of axes of the call's own. -/
def Ao (base : Nat) (w : World) (v : Value) (l : List Ax) : Prop := (∀ t ∈ l, Axw t) ∧ w.ownsRow base 23 4 v l.length (axL l)
theorem Ao.nil (base : Nat) (w : World) : Ao base w (.slice none 0 0) [] := ⟨(fun t ht => by cases ht), World.ownsRow_nil w base _ 4⟩
theorem Ao.slice {base : Nat} {w : World} {v : Value} {l : List Ax} (h : Ao base w v l) : ∃ a cap, v = .slice a l.length cap ∧ As w a cap l := by
  obtain ⟨h1, h3⟩ := h
  rcases h3.2 with ⟨rfl, h0⟩ | ⟨g, cap, cur, rfl, hb, hg, hc1, hc2, hc3, ht⟩
  · have : l = [] := List.length_eq_zero_iff.1 h0
    subst this
    exact ⟨none, 0, rfl, As.nil _ _ _ (Nat.zero_le _)⟩
  · refine ⟨_, cap, rfl, hc1, hc2, h1, fun i hi => ?_⟩
    obtain ⟨k0, k1, k2, k3⟩ := axL_get l i hi
    have hadd : ∀ j, (⟨g, 0, none⟩ : Addr).add j = ⟨g, 0 + j, none⟩ := by intro j; unfold Addr.add; split <;> simp_all
    have d0 := h3.cells (g := g) rfl (i * 4) _ k0
    have d1 := h3.cells (g := g) rfl (i * 4 + 1) _ k1
    have d2 := h3.cells (g := g) rfl (i * 4 + 2) _ k2
    have d3 := h3.cells (g := g) rfl (i * 4 + 3) _ k3
    rw [hadd] at d0 d1 d2 d3
    exact ⟨g, 0, rfl, (Array.getElem?_eq_some_iff.1 hg).1, d0, d1, d2, d3⟩
theorem Ao.below {base : Nat} {w w' : World} {v : Value} {l : List Ax} (h : Ao base w v l) (hb : Below w.heap.size w w') : Ao base w' v l := by
  obtain ⟨h1, h3⟩ := h
  refine ⟨h1, h3.1, ?_⟩
  rcases h3.2 with h0 | ⟨g, cap', cur, k1, k2, k3, k4⟩
  · exact .inl h0
  · exact .inr ⟨g, cap', cur, k1, k2, (hb.block g (Array.getElem?_eq_some_iff.1 k3).1).trans k3, k4⟩
theorem Ao.lo {base : Nat} {w : World} {v : Value} {l : List Ax} (h : Ao base w v l) {g : Nat} (hg : v.ownBlock = some g) : base ≤ g := (World.ownsRow.lt h.2 g hg).1
/-- 'append(l, a)': a is laid in a block of its own first. -/
theorem wpList_append_ax {w : World} {ops : Array Oper} {rest : List Oper} {o : Oper} {a : Act} {Q : Exit → Act → World → Prop}
    (hgd : o.guard = none) (s x : Operand) (ho : o.op = .call { callee := .builtin .append, args := #[s, x], argTypes := #[39, 39] })
    (base : Nat) (v : Value) (l : List Ax) (hs : a.eval s = v) (hown : Ao base w v l) (g : Nat) (t : Ax) (hx : a.eval x = .slice (some ⟨g, 0, none⟩) 1 1)
    (c0 : w.cell? ⟨g, 0, none⟩ = some (.string t.tx)) (c1 : w.cell? ⟨g, 1, none⟩ = some (.int .i64 t.lo)) (c2 : w.cell? ⟨g, 2, none⟩ = some (.int .i64 t.us)) (c3 : w.cell? ⟨g, 3, none⟩ = some (.int .i64 t.hi))
    (ht : Axw t) (hlen : l.length + 1 ≤ 1000000) (hbase : base ≤ w.heap.size)
    (h : ∀ v' w', Ao base w' v' (l ++ [t]) → w.grownBy w' v.ownBlock → wpList Tryz.prog ops Q rest (a.put o.dst v') w') : wpList Tryz.prog ops Q (o :: rest) a w := by
  obtain ⟨i0, hi, hz0, hz1, hz2⟩ := info_parts info_ax
  refine wpList_append_own_at w hgd s x 39 ho base 23 i0 (.agg #[.string ⟨#[]⟩, .int .i64 0, .int .i64 0, .int .i64 0]) 4 40 Tryz.underlying39 hi hz0 hz1 hz2 rfl (by decide) v l.length (axL l) hs hown.2 ⟨g, 0, none⟩ 1 1 [.string t.tx, .int .i64 t.lo, .int .i64 t.us, .int .i64 t.hi] hx rfl ?_ ?_ (by unfold maxLen; omega) (by omega) hbase ?_
  · intro j u hj
    match j, hj with
    | 0, hj => simp at hj; subst hj; simpa [Addr.add] using c0
    | 1, hj => simp at hj; subst hj; simpa [Addr.add] using c1
    | 2, hj => simp at hj; subst hj; simpa [Addr.add] using c2
    | 3, hj => simp at hj; subst hj; simpa [Addr.add] using c3
  · intro u hu
    simp at hu
    rcases hu with rfl | rfl | rfl | rfl <;> rfl
  · intro v' w' k1 k2 _ _
    refine h v' w' ⟨fun s hs => ?_, ?_⟩ k2
    · rcases List.mem_append.1 hs with hs | hs
      · exact hown.1 s hs
      · rw [List.mem_singleton.1 hs]; exact ht
    · rw [axL_append, List.length_append]
      exact k1

end Go.Proofs.YtanppgmhlcifiaaGreatDoor

namespace Go.Proofs.YtanppgmhlcifiaaGreatDoor
open Go.RowKit Go.Maps
set_option linter.unusedSimpArgs false
set_option linter.unusedVariables false

/-- Ints that are read. -/
def Ri (w : World) (a : Option Addr) (cap : Nat) (zs : List Int) : Prop :=
  (∀ z ∈ zs, I64 z) ∧ zs.length ≤ cap ∧ cap ≤ maxLen ∧
  (zs = [] ∨ ∃ b off, a = some ⟨b, off, none⟩ ∧ b < w.heap.size ∧ ∀ i, i < zs.length → w.cell? ⟨b, off + i, none⟩ = some (.int .i64 (zs.getD i 0)))
theorem Ri.at {w wr : World} {a : Option Addr} {cap : Nat} {zs : List Int} (h : Ri w a cap zs) (hb : Below w.heap.size w wr) (k : Nat) (hk : k < zs.length) :
    ∃ b off, a = some ⟨b, off, none⟩ ∧ b < w.heap.size ∧ wr.cell? ⟨b, off + k, none⟩ = some (.int .i64 (zs.getD k 0)) := by
  rcases h.2.2.2 with rfl | ⟨b, off, h1, h2, h3⟩
  · simp at hk
  · exact ⟨b, off, h1, h2, (hb.cell (p := ⟨b, off + k, none⟩) h2).trans (h3 k hk)⟩
theorem Ri.below {w w' : World} {a : Option Addr} {cap : Nat} {zs : List Int} (h : Ri w a cap zs) (hb : Below w.heap.size w w') : Ri w' a cap zs := by
  obtain ⟨h1, h2, h3, h4⟩ := h
  refine ⟨h1, h2, h3, ?_⟩
  rcases h4 with h4 | ⟨b, off, e, h5, h6⟩
  · exact .inl h4
  · exact .inr ⟨b, off, e, Nat.lt_of_lt_of_le h5 hb.size, fun i hi => (hb.cell (p := ⟨b, off + i, none⟩) h5).trans (h6 i hi)⟩
theorem Ri.nil (w : World) (a : Option Addr) (cap : Nat) (h : cap ≤ maxLen) : Ri w a cap [] := ⟨(fun z hz => by cases hz), Nat.zero_le _, h, .inl rfl⟩
theorem Ri.i64 {w : World} {a : Option Addr} {cap : Nat} {zs : List Int} (h : Ri w a cap zs) {k : Nat} (hk : k < zs.length) : I64 (zs.getD k 0) := by
  refine h.1 _ ?_
  rw [List.getD_eq_getElem?_getD, List.getElem?_eq_getElem hk]
  exact List.getElem_mem hk

theorem infoA_i64 : (Tryz.prog.info? 3).map (fun i => (i.zero, i.size, i.bytes)) = some (some (.int .i64 0), 1, 8) := by kernel_rfl
/-- A row of ints of the call's own. -/
def Io (base : Nat) (w : World) (v : Value) (zs : List Int) : Prop := (∀ z ∈ zs, I64 z) ∧ w.ownsRow base 3 1 v zs.length (zs.map (Value.int .i64))
theorem Io.nil (base : Nat) (w : World) : Io base w (.slice none 0 0) [] := ⟨(fun t ht => by cases ht), World.ownsRow_nil w base _ 1⟩
theorem Io.slice {base : Nat} {w : World} {v : Value} {zs : List Int} (h : Io base w v zs) : ∃ a cap, v = .slice a zs.length cap ∧ Ri w a cap zs := by
  obtain ⟨h1, h3⟩ := h
  rcases h3.2 with ⟨rfl, h0⟩ | ⟨g, cap, cur, rfl, hb, hg, hc1, hc2, hc3, ht⟩
  · have : zs = [] := List.length_eq_zero_iff.1 h0
    subst this
    exact ⟨none, 0, rfl, Ri.nil _ _ _ (Nat.zero_le _)⟩
  · refine ⟨_, cap, rfl, h1, hc1, hc2, .inr ⟨g, 0, rfl, (Array.getElem?_eq_some_iff.1 hg).1, fun i hi => ?_⟩⟩
    have := h3.cells (g := g) rfl i (.int .i64 (zs.getD i 0)) (by simp [List.getD, hi])
    have hadd : (⟨g, 0, none⟩ : Addr).add i = ⟨g, 0 + i, none⟩ := by unfold Addr.add; split <;> simp_all
    rw [hadd] at this
    exact this
theorem Io.below {base : Nat} {w w' : World} {v : Value} {zs : List Int} (h : Io base w v zs) (hb : Below w.heap.size w w') : Io base w' v zs := by
  obtain ⟨h1, h3⟩ := h
  refine ⟨h1, h3.1, ?_⟩
  rcases h3.2 with h0 | ⟨g, cap', cur, k1, k2, k3, k4⟩
  · exact .inl h0
  · exact .inr ⟨g, cap', cur, k1, k2, (hb.block g (Array.getElem?_eq_some_iff.1 k3).1).trans k3, k4⟩
theorem Io.lo {base : Nat} {w : World} {v : Value} {zs : List Int} (h : Io base w v zs) {g : Nat} (hg : v.ownBlock = some g) : base ≤ g := (World.ownsRow.lt h.2 g hg).1
/-- 'append(out, x)': x is laid in a block of its own first. -/
theorem wpList_append_int {w : World} {ops : Array Oper} {rest : List Oper} {o : Oper} {a : Act} {Q : Exit → Act → World → Prop}
    (hgd : o.guard = none) (s x : Operand) (ho : o.op = .call { callee := .builtin .append, args := #[s, x], argTypes := #[74, 74] })
    (base : Nat) (v : Value) (zs : List Int) (hs : a.eval s = v) (hown : Io base w v zs) (g : Nat) (z : Int) (hx : a.eval x = .slice (some ⟨g, 0, none⟩) 1 1)
    (c0 : w.cell? ⟨g, 0, none⟩ = some (.int .i64 z)) (hz : I64 z) (hlen : zs.length + 1 ≤ 1000000) (hbase : base ≤ w.heap.size)
    (h : ∀ v' w', Io base w' v' (zs ++ [z]) → w.grownBy w' v.ownBlock → wpList Tryz.prog ops Q rest (a.put o.dst v') w') : wpList Tryz.prog ops Q (o :: rest) a w := by
  obtain ⟨i0, hi, hz0, hz1, hz2⟩ := info_parts infoA_i64
  refine wpList_append_own_at w hgd s x 74 ho base 3 i0 (.int .i64 0) 1 8 Tryz.underlying74 hi hz0 hz1 hz2 rfl (by decide) v zs.length (zs.map (Value.int .i64)) hs hown.2 ⟨g, 0, none⟩ 1 1 [.int .i64 z] hx rfl ?_ ?_ (by unfold maxLen; omega) (by omega) hbase ?_
  · intro j u hj
    match j, hj with
    | 0, hj => simp at hj; subst hj; simpa [Addr.add] using c0
  · intro u hu
    simp at hu
    subst hu
    rfl
  · intro v' w' k1 k2 _ _
    refine h v' w' ⟨fun s hs => ?_, ?_⟩ k2
    · rcases List.mem_append.1 hs with hs | hs
      · exact hown.1 s hs
      · rw [List.mem_singleton.1 hs]; exact hz
    · rw [List.map_append, List.length_append]
      exact k1

/-- A place, clamped: the first k values. -/
def clV (l : List Ax) (ps : List Int) (i : Nat) : Int := if i < ps.length then clp (ps.getD i 0) (l.getD i Ax.none).lo (l.getD i Ax.none).hi else (l.getD i Ax.none).us
def clK (l : List Ax) (ps : List Int) (k : Nat) : List Int := (List.range k).map (clV l ps)
theorem clK_len (l : List Ax) (ps : List Int) (k : Nat) : (clK l ps k).length = k := by simp [clK]
theorem clK_succ (l : List Ax) (ps : List Int) (k : Nat) : clK l ps (k + 1) = clK l ps k ++ [clV l ps k] := by
  rw [clK, List.range_succ, List.map_append]
  rfl
theorem clp_i64 {n a b : Int} (h1 : I64 n) (h2 : I64 a) (h3 : I64 b) : I64 (clp n a b) := by
  unfold clp
  repeat' split
  all_goals assumption

end Go.Proofs.YtanppgmhlcifiaaGreatDoor
