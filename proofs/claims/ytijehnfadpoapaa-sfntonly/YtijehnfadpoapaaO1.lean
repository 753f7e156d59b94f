/-
  octets: closed, fail, put, fits, four: the walks.
-/
import Derived.Test.YtijehnfadpoapaaO0
namespace Go.Proofs.Ytijehnfadpoapaa
open Go.RowKit Go.Maps
set_option linter.unusedSimpArgs false
set_option linter.unusedVariables false

theorem info_byte : (Try.prog.info? 5).map (fun i => (i.zero, i.size, i.bytes)) = some (some (.int .u8 0), 1, 1) := by kernel_rfl

/-- A page's pointer. -/
abbrev pg (B : Nat) : Value := .pointer (some ⟨B, 0, none⟩)

set_option maxHeartbeats 400000 in
set_option maxRecDepth 100000 in
theorem closed_any (B : Nat) (G : Nat → Prop) (s : St) (w : World) (h : Pc w B G s) (hl : s.bs.length ≤ 1048576) :
    Calls Try.prog 55 #[pg B] w fun e w' => e = .returned (.bool s.no) ∧ w = w' := by
  obtain ⟨h1, h2, h3, vb, vm, h4, h6, h5⟩ := h
  obtain ⟨c0, c1, c2, c3, f0, f1, f2, f3⟩ := h4.cells
  generalize s.no = n at *
  generalize s.bs.length = l at *
  clear h5 h6 h4 h3 h2 h1
  cases n
  · go_enter Try.func55, Try.ntmps55
    go_wp2
    go_ret
    exact ⟨rt_bool (by simp; try omega), rfl⟩
  · go_enter Try.func55, Try.ntmps55
    go_wp2
    go_ret
    exact ⟨rt_bool (by simp; try omega), rfl⟩

theorem closed_nil (w : World) :
    Calls Try.prog 55 #[.pointer none] w fun e w' => e = .returned (.bool true) ∧ w = w' := by
  go_enter Try.func55, Try.ntmps55
  go_wp2
  go_ret
  exact ⟨rfl, rfl⟩

theorem fail_nil (w : World) :
    Calls Try.prog 52 #[.pointer none] w fun e w' => e = .returned (.tuple #[]) ∧ w = w' := by
  go_enter Try.func52, Try.ntmps52
  go_wp2
  (try simp only [Exit.inBlock, Exit.then]); refine bodyPost_ret (results_none rfl _ _ _) rfl ?_
  exact ⟨rfl, rfl⟩

set_option maxHeartbeats 400000 in
set_option maxRecDepth 100000 in
theorem fail_any (B : Nat) (G : Nat → Prop) (s : St) (w : World) (h : Pc w B G s) :
    Calls Try.prog 52 #[pg B] w fun e w' => e = .returned (.tuple #[]) ∧ Pc w' B G s.fail ∧ Keep G w w' := by
  obtain ⟨h1, h2, h3, vb, vm, h4, h6, h5⟩ := h
  obtain ⟨c0, c1, c2, c3, f0, f1, f2, f3⟩ := h4.cells
  go_enter Try.func52, Try.ntmps52
  go_wp2
  go_end0
  refine ⟨rfl, ⟨fun k hk => by simpa [World.setCell] using h1 k hk, h2, h3.fail, _, _, ((h4.set3 _).set0 _).set2 _, fun _ => rfl, fun hn => by cases hn⟩, ?_⟩
  exact (((Keep.refl G w).setCell (p := ⟨B, 3, none⟩) h2 _).setCell (p := ⟨B, 0, none⟩) h2 _).setCell (p := ⟨B, 2, none⟩) h2 _

theorem put_nil (v : Value) (w : World) :
    Calls Try.prog 54 #[.pointer none, v] w fun e w' => e = .returned (.tuple #[]) ∧ w = w' := by
  go_enter Try.func54, Try.ntmps54
  go_wp2_with fail
  refine (closed_nil _).mono ?_
  rintro e u ⟨rfl, rfl⟩
  go_wp2
  (try simp only [Exit.inBlock, Exit.then]); refine bodyPost_ret (results_none rfl _ _ _) rfl ?_
  exact ⟨rfl, rfl⟩

set_option maxHeartbeats 1000000 in
set_option maxRecDepth 100000 in
theorem put_any (B : Nat) (G : Nat → Prop) (s : St) (a : Option Addr) (cap : Nat) (xs : List Nat) (w : World) (h : Pc w B G s) (hr : Rb w a cap xs) (hl : s.bs.length + xs.length ≤ 1048576) :
    Calls Try.prog 54 #[pg B, .slice a xs.length cap] w fun e w' => e = .returned (.tuple #[]) ∧ Pc w' B G (s.app xs) ∧ Keep G w w' := by
  obtain ⟨i0, hi, hz0, hz1, hz2⟩ := info_parts info_byte
  have hP := h
  obtain ⟨h1, h2, h3, vb, vm, h4, h6, h5⟩ := h
  go_enter Try.func54, Try.ntmps54
  go_wp2_with fail
  refine (closed_any B G s _ hP (by omega)).mono ?_
  rintro e u ⟨rfl, rfl⟩
  by_cases hno : s.no = true
  · rw [hno]
    go_wp2
    (try simp only [Exit.inBlock, Exit.then]); refine bodyPost_ret (results_none rfl _ _ _) rfl ?_
    exact ⟨rfl, by rw [St.app_bad hno]; exact hP, Keep.refl _ _⟩
  · have hno : s.no = false := by simpa using hno
    rw [hno]
    obtain ⟨hR, hM⟩ := h5 hno
    obtain ⟨c0, c1, c2, c3, f0, f1, f2, f3⟩ := h4.cells
    obtain ⟨l, hll⟩ : ∃ l, s.bs.length = l := ⟨_, rfl⟩
    rw [hll] at c1 h4
    have HL : Hid (s.bs.length = l) := hll
    have hl' : l + xs.length ≤ 1048576 := by omega
    clear hll hl
    have hoff : ∀ (u : World) (v : Value) (o : Nat), ∀ k, k < u.heap.size → k ≠ B → (u.setCell ⟨B, o, none⟩ v).heap[k]? = u.heap[k]? := fun u v o k _ hk => Below.heap_setCell _ ⟨B, o, none⟩ v k hk
    have h41 := h4.set1 (.int .i64 ((l : Int) + xs.length))
    have hR1 := hR.off h4 (by decide) (hoff w (.int .i64 ((l : Int) + xs.length)) 1)
    have hM1 := hM.off h4.no_map (hoff w (.int .i64 ((l : Int) + xs.length)) 1)
    have hr1 := Rb.off h4 hR.no8 (by simp) hM.no8 (by simp) hr (by simp [World.setCell]) (hoff w (.int .i64 ((l : Int) + xs.length)) 1)
    have hK1 : Keep G w (w.setCell ⟨B, 1, none⟩ (.int .i64 ((l : Int) + xs.length))) := (Keep.refl G w).setCell (p := ⟨B, 1, none⟩) h2 _
    have hsz : (w.setCell ⟨B, 1, none⟩ (.int .i64 ((l : Int) + xs.length))).heap.size = w.heap.size := by simp [World.setCell]
    clear h4 hP hr hM h5 h6
    go_wp2_with (at_builtin; refine wpList_append_rb rfl _ _ 23 rfl 0 5 i0 Try.underlying23 hi hz0 hz1 hz2 _ s.bs.length s.bs rfl hR1.1 a cap _ xs rfl rfl hr1 (by rw [HL.out]; omega) (Nat.zero_le _) ?_)
    intro v' w1 hown hgrow hat
    obtain ⟨ts, hts⟩ : ∃ ts, s.bs ++ xs = ts := ⟨_, rfl⟩
    have htl : s.bs.length + xs.length = ts.length := by rw [← hts, List.length_append]
    rw [← List.map_append, hts, htl] at hown
    have HT : Hid (s.bs ++ xs = ts) := hts
    have HT2 : Hid (s.bs.length + xs.length = ts.length) := htl
    have hBt : Byt ts := hts ▸ h3.1.append hr1.lim
    clear hts htl
    have h42 := h41.grown hR1 hgrow
    obtain ⟨a2, cap2, rfl, _⟩ := Rw.of hBt hown
    obtain ⟨d0, d1, d2, d3, g0, g1, g2, g3⟩ := h42.cells
    go_wp2
    go_end0
    have hM2 := hM1.grown hR1 hgrow
    have hnG : ∀ g, (Value.slice a2 ts.length cap2).ownBlock = some g → ¬ G g := by
      intro g hg hGg
      rcases hat with hat | hat
      · exact hR.2 g (by rw [← hat]; exact hg) hGg
      · rw [hat] at hg
        have := h1 g hGg
        simp at hg
        omega
    have hR2 : Row w1 G (.slice a2 ts.length cap2) ts := ⟨hown, hnG⟩
    have hR3 := hR2.off h42 (by decide) (hoff w1 (.slice a2 ts.length cap2) 0)
    have hK2 := (hK1.grown hgrow (fun k hk => by rw [hsz]; exact h1 k hk) (fun k hk => hR.2 k hk)).setCell (p := ⟨B, 0, none⟩) h2 (.slice a2 ts.length cap2)
    refine ⟨rfl, ⟨fun k hk => ?_, h2, h3.app hr1.lim, .slice a2 ts.length cap2, vm, ?_, fun hn => absurd hn (by rw [St.app_no, hno]; decide), fun _ => ?_⟩, hK2⟩
    · exact Nat.lt_of_lt_of_le (h1 k hk) hK2.size
    · have h43 := h42.set0 (.slice a2 ts.length cap2)
      rw [St.app_ok hno]
      simp only [HT.out, ← HT2.out, HL.out]
      simpa [← HT2.out, HL.out] using h43
    · rw [St.app_ok hno, HT.out]
      exact ⟨hR3, hM2.off h42.no_map (hoff w1 (.slice a2 ts.length cap2) 0)⟩

end Go.Proofs.Ytijehnfadpoapaa
