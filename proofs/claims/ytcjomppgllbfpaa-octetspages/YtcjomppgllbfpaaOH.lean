/-
  foundryref04.Page: Pad, Later: the walks.
-/
import Derived.Test.YtcjomppgllbfpaaOG
namespace Go.Proofs.Ytcjomppgllbfpaa
open Go.RowKit Go.Maps
set_option linter.unusedSimpArgs false
set_option linter.unusedVariables false

/-- How long the slice in a page's first cell is. -/
def lenAt (B : Nat) (w : World) : Nat := match w.cell? ⟨B, 0, none⟩ with | some (.slice _ n _) => n | _ => 0
theorem Ps.lenAt {w : World} {B : Nat} {G : Nat → Prop} {s : St} (h : Ps w B G s) : lenAt B w = s.bs.length := by
  obtain ⟨h1, h2, h3, vb, vw, h4, h5, h6⟩ := h
  obtain ⟨a, c, rfl⟩ := h5.slice
  obtain ⟨c0, c1, _⟩ := h4.cells
  simp [Proofs.Ytcjomppgllbfpaa.lenAt, c0]

/-- 'append(v, x)' of an int. -/
theorem wpList_append_int {w : World} {ops : Array Oper} {rest : List Oper} {o : Oper} {a : Act} {Q : Exit → Act → World → Prop} (hgd : o.guard = none) (sx x : Operand) (ho : o.op = .call { callee := .builtin .append, args := #[sx, x], argTypes := #[41, 41] })
    {v : Value} {ps : List Int} (z : Int) (hv : OwnI w v ps) (hs : a.eval sx = v)
    (gx : Nat) (hx : a.eval x = .slice (some ⟨gx, 0, none⟩) 1 1) (hc : w.cell? ⟨gx, 0, none⟩ = some (.int .i64 z)) (hlen : ps.length + 1 ≤ 2000000000)
    (h : ∀ v' w', OwnI w' v' (ps ++ [z]) → w.grownBy w' v.ownBlock → (v'.ownBlock = v.ownBlock ∨ v'.ownBlock = some w.heap.size) → wpList Try.prog ops Q rest (a.put o.dst v') w') : wpList Try.prog ops Q (o :: rest) a w := by
  obtain ⟨i0, hi, hz0, hz1, hz2⟩ := info_parts info_i64
  refine wpList_append_own_at w hgd sx x 41 ho 0 3 i0 (.int .i64 0) 1 8 Try.underlying41 hi hz0 hz1 hz2 rfl (by decide) v ps.length (ps.map (Value.int .i64)) hs hv ⟨gx, 0, none⟩ 1 1 [.int .i64 z] hx rfl ?_ ?_ (by unfold maxLen; omega) (by omega) (Nat.zero_le _) ?_
  · intro j u hj
    match j, hj with
    | 0, hj => simp at hj; subst hj; simpa [Addr.add] using hc
  · intro u hu
    simp at hu
    subst hu
    rfl
  · intro v' w' h1 h2 _ h4
    refine h v' w' ?_ h2 h4
    simpa [OwnI] using h1

/-- A page of the reference with other places that wait. -/
theorem Ps.waits {w w1 : World} {B : Nat} {G : Nat → Prop} {s : St} {vb vw v' : Value} {ws' : List Int} (h1 : ∀ k, G k → k < w.heap.size) (h2 : ¬ G B) (h4 : Bx3 w B vb vw (.bool s.no)) (h5 : Row w G vb s.bs)
    (hown : OwnI w1 v' ws') (h41 : Bx3 w1 B vb vw (.bool s.no)) (h51 : Row w1 G vb s.bs) (hK : Keep G w w1) (hnG : ∀ g, v'.ownBlock = some g → ¬ G g) (hw : Wf { s with ws := ws' }) :
    Ps (w1.setCell ⟨B, 1, none⟩ v') B G { s with ws := ws' } ∧ Keep G w (w1.setCell ⟨B, 1, none⟩ v') := by
  have hoff : ∀ k, k < w1.heap.size → k ≠ B → (w1.setCell ⟨B, 1, none⟩ v').heap[k]? = w1.heap[k]? := fun k _ hk => Below.heap_setCell _ ⟨B, 1, none⟩ v' k hk
  have hK2 := hK.setCell (p := ⟨B, 1, none⟩) h2 v'
  have hI : RowI w1 G v' ws' := ⟨hown, hnG⟩
  exact ⟨⟨fun k hk => Nat.lt_of_lt_of_le (h1 k hk) hK2.size, h2, hw, vb, v', h41.set1 v', h51.off h41 (by decide) hoff, hI.off h41 (by decide) hoff⟩, hK2⟩

set_option maxHeartbeats 1000000 in
theorem spad_any (B : Nat) (G : Nat → Prop) (s : St) (n : Int) (w : World) (h : Ps w B G s) (hn : I64 n) (hl : s.bs.length + 16 ≤ 1048576) :
    Calls Try.prog 50 #[pg B, .int .i64 n] w fun e w' => e = .returned (.tuple #[]) ∧ Ps w' B G (s.pad n) ∧ Keep G w w' := by
  obtain ⟨i0, hi, hz0, hz1, hz2⟩ := info_parts info_byte
  obtain ⟨n1, n2⟩ := hn
  by_cases hno : s.no = true
  · have hs : Hid (s.pad n = s) := by
      show s.pad n = s
      unfold St.pad
      split
      · exact St.app_bad hno _
      · exact St.fail_bad hno
    go_enter Try.func50, Try.ntmps50
    go_wp2_with fail
    refine (done_any B G s _ h (by omega)).mono ?_
    rintro e u ⟨rfl, rfl⟩
    rw [hno]
    go_wp2
    (try simp only [Exit.inBlock, Exit.then]); refine bodyPost_ret (results_none rfl _ _ _) rfl ?_
    exact ⟨rfl, by rw [hs.out]; exact h, Keep.refl _ _⟩
  have hno : s.no = false := by simpa using hno
  by_cases hf : 1 ≤ n ∧ n ≤ 16
  · obtain ⟨g1, g2⟩ := hf
    obtain ⟨m, rfl⟩ : ∃ m : Nat, n = (m : Int) := ⟨n.toNat, by omega⟩
    have hs : Hid (s.pad m = s.app (List.replicate (padN s.bs.length m) 0)) := by show s.pad m = _; simp [St.pad, g1, g2]
    have hm : 0 < m := by omega
    have g1' : ¬ ((m : Int) < 1) := by omega
    have g2' : ¬ (16 < (m : Int)) := by omega
    have g3 : ((m : Int) == 0) = false := beq_eq_false_iff_ne.2 (by omega)
    go_enter Try.func50, Try.ntmps50
    go_wp2_with fail
    refine (done_any B G s _ h (by omega)).mono ?_
    rintro e u ⟨rfl, rfl⟩
    rw [hno]
    go_wp2
    go_loopw [15] (fun _ wr => ∃ j : Nat, j + padN (s.bs.length + j) m = padN s.bs.length m ∧ Ps wr B G (s.app (List.replicate j 0)) ∧ Keep G w wr) (fun _ wr => 2000000 - lenAt B wr)
    case atStart => exact ⟨0, by simp, by simpa [St.app_nil] using h, Keep.refl _ _⟩
    case round =>
      obtain ⟨j, hj, hP, hK⟩ := hrel
      have hjm : j < m := by have := padN_lt (l := s.bs.length) hm; omega
      have hap : s.app (List.replicate j 0) = ⟨s.bs ++ List.replicate j 0, s.ws, false⟩ := by rw [St.app_ok hno, hno]
      have hlen : (s.bs ++ List.replicate j 0).length = s.bs.length + j := by simp
      rw [hap] at hP
      have hP' := hP
      obtain ⟨h1, h2, h3, vb, vw, h4, h5, h6⟩ := hP'
      dsimp only at h3 h4 h5 h6
      obtain ⟨bj, hbj⟩ : ∃ bj, s.bs ++ List.replicate j 0 = bj := ⟨_, rfl⟩
      have e2 : lenAt B wr = bj.length := by rw [hP.lenAt, ← hbj]
      rw [hbj] at hP h3 h5 hlen
      obtain ⟨a, c, rfl⟩ := h5.slice
      obtain ⟨c0, c1, c2, f0, f1, f2⟩ := h4.cells
      obtain ⟨L, hL⟩ : ∃ L, bj.length = L := ⟨_, rfl⟩
      have HLS : Hid (s.bs.length + j = L) := by show s.bs.length + j = L; omega
      have hLb : L + 1 ≤ 1048576 := by have := HLS.out; omega
      rw [HLS.out] at hj
      obtain ⟨r, hr⟩ : ∃ r, L % m = r := ⟨_, rfl⟩
      have hrem : (L : Int).tmod (m : Int) = (r : Int) := by rw [← Int.ofNat_tmod, hr]
      have HJ : Hid (j + padN L m = padN s.bs.length m) := hj
      have HR : Hid (L % m = r) := hr
      have HL : Hid (bj.length = L) := hL
      have HB : Hid (s.bs ++ List.replicate j 0 = bj) := hbj
      rw [hL] at c0 e2
      clear hj hr hbj hlen hap
      by_cases hr0 : r = 0
      · subst hr0
        clear hL
        go_wp2
        go_end0
        refine ⟨rfl, ?_, hK⟩
        have e := HJ.out
        rw [padN_zero hm HR.out] at e
        rw [hs.out, ← e, Nat.add_zero, St.app_ok hno, HB.out, hno]
        exact hP
      · have hr1 : ((r : Int) != 0) = true := by simp; omega
        have hrb := rb_new wr 5 [0] #[Value.int IntKind.u8 0] (by simp [Y]) (Byt.mk (by decide) Byt.nil) (by simp [maxLen])
        have h1a : ∀ k, G k → k < (wr.alloc (.cells #[Value.int IntKind.u8 0] 5)).heap.size := fun k hk => by have := h1 k hk; simp; omega
        have h4a := h4.below (bl1 (.cells #[Value.int IntKind.u8 0] 5))
        have h5a := h5.stay (w' := wr.alloc (.cells #[Value.int IntKind.u8 0] 5)) (fun k hk _ => (bl1 _).block k hk)
        have h6a := h6.stay (w' := wr.alloc (.cells #[Value.int IntKind.u8 0] 5)) (fun k hk _ => (bl1 _).block k hk)
        have hKa := hK.trans (Keep.of_below (bl1 (.cells #[Value.int IntKind.u8 0] 5)) h1)
        rw [hL] at h4a h5a
        clear hL
        go_wp2_with (at_builtin; refine wpList_append_rb rfl _ _ 22 rfl 0 5 i0 Try.underlying22 hi hz0 hz1 hz2 _ L bj rfl (by have := h5a.1; rw [HL.out] at this; exact this) (some ⟨wr.heap.size, 0, none⟩) 1 _ [0] rfl rfl hrb (by simp; omega) (Nat.zero_le _) ?_)
        intro v' w1 hown hgrow hat
        obtain ⟨ts, hts⟩ : ∃ ts, bj ++ [0] = ts := ⟨_, rfl⟩
        have htl : ts.length = L + 1 := by rw [← hts]; simp [HL.out]
        have hown' : w1.ownsRow 0 5 1 v' ts.length (ts.map Y) := by rw [htl, ← hts]; simpa using hown
        have hBt : Byt ts := hts ▸ h3.1.append (Byt.mk (by decide) Byt.nil)
        have hwf : Wf ⟨ts, s.ws, false⟩ := by have := Wf.app h3 (xs := [0]) (Byt.mk (by decide) Byt.nil); rw [St.app_ok rfl] at this; rw [← hts]; exact this
        have hfin := Ps.appd (s := ⟨bj, s.ws, false⟩) h1a h2 h4a (by rw [← HL.out] at h5a; rw [← HL.out]; exact h5a) h6a hown' hgrow (by simpa using hat) hwf
        have h42 := h4a.grown (xs := bj) (by rw [← HL.out] at h5a; rw [← HL.out]; exact h5a) hgrow
        have HTS : Hid (bj ++ [0] = ts) := hts
        have HTL : Hid (ts.length = L + 1) := htl
        obtain ⟨a2, cap2, rfl, _⟩ := Rw.of hBt hown'
        obtain ⟨d0, d1, d2, e0, e1, e3⟩ := h42.cells
        clear hts htl hown hown'
        have hP3 : Ps (w1.setCell ⟨B, 0, none⟩ (.slice a2 ts.length cap2)) B G (s.app (List.replicate (j + 1) 0)) := by
          rw [St.app_ok hno, hno, List.replicate_succ', ← List.append_assoc, HB.out, HTS.out]
          exact hfin.1
        have hK3 := hKa.trans hfin.2
        have e4 : lenAt B (w1.setCell ⟨B, 0, none⟩ (.slice a2 ts.length cap2)) = L + 1 := by rw [hfin.1.lenAt]; exact HTL.out
        clear hfin
        go_wp2
        go_roundw
        case rel =>
          refine ⟨j + 1, ?_, hP3, hK3⟩
          have e := HJ.out
          rw [padN_succ hm (by rw [HR.out]; exact hr0)] at e
          rw [← Nat.add_assoc, HLS.out]
          omega
        case measure => rw [e4, e2]; omega
  · have hs : Hid (s.pad n = s.fail) := by show s.pad n = _; simp [St.pad, hf]
    have hor : n < 1 ∨ (1 ≤ n ∧ 16 < n) := by omega
    have h0 := h
    obtain ⟨h1, h2, h3, vb, vw, h4, h5, h6⟩ := h
    obtain ⟨c0, c1, c2, f0, f1, f2⟩ := h4.cells
    obtain ⟨hP2, hK2⟩ := Ps.failed h1 h2 h3 h4 h5 h6 true
    rcases hor with g1 | ⟨g1, g2⟩
    all_goals
      go_enter Try.func50, Try.ntmps50
      go_wp2_with fail
      refine (done_any B G s _ h0 (by omega)).mono ?_
      rintro e u ⟨rfl, rfl⟩
      rw [hno]
      go_wp2
      (try simp only [Exit.inBlock, Exit.then]); refine bodyPost_ret (results_none rfl _ _ _) rfl ?_
      exact ⟨rfl, hs.out ▸ hP2, hK2⟩

end Go.Proofs.Ytcjomppgllbfpaa
