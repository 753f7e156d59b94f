/-
  foundryref04.Page: Now: the walk.
-/
import Derived.Test.YtcjomppgllbfpaaOI
namespace Go.Proofs.Ytcjomppgllbfpaa
open Go.RowKit Go.Maps
set_option linter.unusedSimpArgs false
set_option linter.unusedVariables false

set_option maxHeartbeats 1000000 in
theorem big4_at (x : Int) (w : World) (hx : 0 ≤ x) (hx2 : x ≤ 9223372036854775807) :
    Calls Try.prog 58 #[.int .i64 x, .int .i64 4] w fun e w' => e = .returned (.slice (some ⟨w.heap.size, 0, none⟩) 4 4) ∧ Rb w' (some ⟨w.heap.size, 0, none⟩) 4 (be4 x) ∧ Below w.heap.size w w' := by
  have hmk : ∀ w, (Instr.makeSlice 22 (.int .i64 4) (.int .i64 4)).run Try.prog w = .ok (.slice (some ⟨w.heap.size, 0, none⟩) 4 4) (w.alloc (.cells #[.int .u8 0, .int .u8 0, .int .u8 0, .int .u8 0] 5)) := by
    intro w
    have h := run_make_row' (P := Try.prog) 22 5 (.int .u8 0) 1 Try.underlying22 info_byte rfl .i64 .i64 4 (by decide) (by decide) w
    rw [show madeCells #[Value.int IntKind.u8 0] 4 = #[.int .u8 0, .int .u8 0, .int .u8 0, .int .u8 0] by kernel_rfl] at h
    exact h
  go_enter Try.func58, Try.ntmps58
  go_wp2
  refine wp_loop_rounds 5 ?_
  rw [rounds_succ]
  go_wp2
  rw [rounds_succ]
  go_wp2
  rw [rounds_succ]
  go_wp2
  rw [rounds_succ]
  go_wp2
  rw [rounds_succ]
  go_wp2
  go_ret
  refine ⟨rfl, rb_new w 5 (be4 x) _ ?_ (byt_be4 x) (by simp [be4, maxLen]), bl1 _⟩
  simp only [be4, List.map_cons, List.map_nil, Y]
  simp
  omega

theorem rb_offG {u : World} {a : Option Addr} {cap : Nat} {xs : List Nat} (h : Rb u a cap xs) (g i : Nat) (v : Value) (ho : ∀ b o, a = some ⟨b, o, none⟩ → b ≠ g) : Rb (u.setCell ⟨g, i, none⟩ v) a cap xs := by
  obtain ⟨h1, h2, h3, h5, h4⟩ := h
  refine ⟨h1, h2, h3, h5, ?_⟩
  rcases h4 with h4 | ⟨b, off, e, hb1, hc⟩
  · exact .inl h4
  · exact .inr ⟨b, off, e, by simpa [World.setCell] using hb1, fun k hk => (World.cell?_of_block (w := u) (a := ⟨b, off + k, none⟩) (Below.heap_setCell _ ⟨g, i, none⟩ v b (ho b off e))).trans (hc k hk)⟩

/-- One byte of a row is written. -/
theorem Row.set {w : World} {G : Nat → Prop} {g l cap : Nat} {bs : List Nat} (h : Row w G (.slice (some ⟨g, 0, none⟩) l cap) bs) (hl : bs.length = l) (j z : Nat) (hj : j < l) :
    Row (w.setCell ⟨g, j, none⟩ (.int .u8 (z : Int))) G (.slice (some ⟨g, 0, none⟩) l cap) (bs.set j z) ∧ (∃ v, w.cell? ⟨g, j, none⟩ = some v) ∧ w.frozen? ⟨g, j, none⟩ = false := by
  rcases h.1.2 with ⟨e, _⟩ | ⟨g', cap', cur, e, h3, hg, h5, h6, hcs, htk⟩
  · cases e
  · simp at e
    obtain ⟨rfl, _, rfl⟩ := e
    rw [hl] at h5
    refine ⟨⟨⟨by simp, .inr ⟨g, cap, cur.setIfInBounds j (.int .u8 (z : Int)), by simp [hl], Nat.zero_le _, heap_setCell_same w g j cur _ _ hg, by simp [hl]; omega, h6, by simpa using hcs, ?_⟩⟩, h.2⟩, ?_, frozen_of_row w g j _ _ hg⟩
    · simp only [List.length_set, Nat.mul_one] at htk ⊢
      rw [Array.toList_setIfInBounds, List.take_set, htk, List.map_set]
      rfl
    · rw [cell_of_row w g j _ _ (0, 0) hg]
      have : j < cur.size := by simp at hcs; omega
      exact ⟨cur[j], by simp [this]⟩
/-- A page's cells, and rows of ints, stay while a row of bytes is written. -/
theorem Bx3.offRow {w : World} {B : Nat} {a b c : Value} (h : Bx3 w B a b c) {G : Nat → Prop} {u : Value} {xs : List Nat} (hr : Row w G u xs) {g : Nat} (hu : u.ownBlock = some g) (i : Nat) (v : Value) : Bx3 (w.setCell ⟨g, i, none⟩ v) B a b c :=
  (Below.heap_setCell _ ⟨g, i, none⟩ v B (fun e => hr.ne h (by decide) (by rw [hu, e]))).trans h
theorem RowI.offRow {w : World} {G G' : Nat → Prop} {v : Value} {ps : List Int} (h : RowI w G v ps) {u : Value} {xs : List Nat} (hr : Row w G' u xs) {g : Nat} (hu : u.ownBlock = some g) (i : Nat) (x : Value) : RowI (w.setCell ⟨g, i, none⟩ x) G v ps :=
  ⟨h.1.kept (fun k hk => Below.heap_setCell _ ⟨g, i, none⟩ x k (fun e => hr.ne_ints (G' := G') h.1 hu (by have e' : k = g := e; rw [e'] at hk; exact hk))), h.2⟩
theorem ovr_step (bs xs : List Nat) (q k : Nat) (hk : k < xs.length) (hq : q + xs.length ≤ bs.length) : (ovr bs q (xs.take k)).set (q + k) (xs.getD k 0) = ovr bs q (xs.take (k + 1)) := by
  have hl1 : (bs.take q).length = q := by simp; omega
  have hl2 : (xs.take k).length = k := by simp; omega
  have e3 : xs.take (k + 1) = xs.take k ++ [xs.getD k 0] := by rw [List.take_succ_eq_append_getElem hk]; simp [List.getD, hk]
  have hqk : q + k < bs.length := by omega
  have hge : bs.getD (q + k) 0 = bs[q + k] := by simp [List.getD, hqk]
  have hd : bs.drop (q + k) = bs.getD (q + k) 0 :: bs.drop (q + (k + 1)) := by rw [hge]; exact List.drop_eq_getElem_cons hqk
  have hl3 : (xs.take k ++ [xs.getD k 0]).length = k + 1 := by simp; omega
  rw [ovr, ovr, e3, hl3, hl2, hd]
  generalize xs.getD k 0 = x
  generalize bs.getD (q + k) 0 = b
  generalize xs.take k = A at hl2
  generalize bs.take q = P at hl1
  generalize bs.drop (q + (k + 1)) = D
  rw [List.set_append_right _ _ (by simp; omega)]
  simp [hl1, hl2]
theorem take_all4 (x : Int) : (be4 x).take 4 = be4 x := rfl
theorem filter_take_succ (ws : List Int) (m : Int) (k : Nat) (hk : k < ws.length) : (ws.take (k + 1)).filter (fun x => decide (x ≠ m)) = (ws.take k).filter (fun x => decide (x ≠ m)) ++ (if ws.getD k 0 = m then [] else [ws.getD k 0]) := by
  rw [List.take_succ_eq_append_getElem hk, List.filter_append]
  have e : ws.getD k 0 = ws[k] := by simp [List.getD, hk]
  rw [e]
  by_cases h : ws[k] = m
  · simp [h]
  · simp [h]
theorem mem_take_succ (ws : List Int) (m : Int) (k : Nat) (hk : k < ws.length) : (m ∈ ws.take (k + 1)) ↔ (m ∈ ws.take k ∨ ws.getD k 0 = m) := by
  rw [List.take_succ_eq_append_getElem hk]
  have e : ws.getD k 0 = ws[k] := by simp [List.getD, hk]
  rw [e, List.mem_append, List.mem_singleton]
  constructor
  · rintro (h | h)
    · exact .inl h
    · exact .inr h.symm
  · rintro (h | h)
    · exact .inl h
    · exact .inr h.symm

set_option maxHeartbeats 4000000 in
theorem snow_any (B : Nat) (G : Nat → Prop) (s : St) (mk bse : Int) (w : World) (h : Ps w B G s) (hmk : I64 mk) (hbs : I64 bse) (hl : s.bs.length ≤ 1048576) :
    Calls Try.prog 49 #[pg B, .int .i64 mk, .int .i64 bse] w fun e w' => e = .returned (.tuple #[]) ∧ Ps w' B G (s.now mk bse) ∧ Keep G w w' := by
  have hP := h
  obtain ⟨h1, h2, h3, vb, vw, h4, h5, h6⟩ := h
  obtain ⟨m1, m2⟩ := hmk
  obtain ⟨b1, b2⟩ := hbs
  obtain ⟨a, c, rfl⟩ := h5.slice
  by_cases hno : s.no = true
  · go_enter Try.func49, Try.ntmps49
    go_wp2_with fail
    refine (done_any B G s _ hP (by omega)).mono ?_
    rintro e u ⟨rfl, rfl⟩
    rw [hno]
    go_wp2
    (try simp only [Exit.inBlock, Exit.then]); refine bodyPost_ret (results_none rfl _ _ _) rfl ?_
    exact ⟨rfl, by rw [St.now_bad hno]; exact hP, Keep.refl _ _⟩
  have hno : s.no = false := by simpa using hno
  obtain ⟨l, hll⟩ : ∃ l, s.bs.length = l := ⟨_, rfl⟩
  have HL : Hid (s.bs.length = l) := hll
  have hlb : l ≤ 1048576 := by omega
  have hwl : s.ws.length ≤ 300000 := by have := h3.2.2.2; omega
  rw [hll] at h4 h5
  rw [hno] at h4
  obtain ⟨aw, cw, rfl, q1, q2, q3, q4⟩ := h6.1.slice
  unfold maxLen at q2
  clear hll hl
  go_enter Try.func49, Try.ntmps49
  go_wp2_with fail
  refine (done_any B G s _ hP (by rw [HL.out]; omega)).mono ?_
  rintro e u ⟨rfl, rfl⟩
  rw [hno]
  clear hP
  go_wp2
  go_loopw [6, 7, 8] (fun v f i wr => ∃ (k : Nat) (ls : List Int), k ≤ s.ws.length ∧ i = .int .i64 k ∧ f = .bool (decide (mk ∈ s.ws.take k)) ∧ OwnI wr v ls ∧ ls = (s.ws.take k).filter (fun x => decide (x ≠ mk)) ∧ Below w.heap.size w wr ∧ (∀ g, v.ownBlock = some g → w.heap.size ≤ g)) (fun _ _ i _ => s.ws.length - (intOf i).toNat)
  case atStart => exact ⟨0, [], Nat.zero_le _, rfl, by simp, OwnI.nil _, rfl, Below.refl _ _, fun g hg => by cases hg⟩
  case round =>
    obtain ⟨k, ls, hk, rfl, rfl, hv, hls, hbw, hvg⟩ := hrel
    have hQ := h4.below hbw
    obtain ⟨c0, c1, c2, f0, f1, f2⟩ := hQ.cells
    by_cases hkn : k < s.ws.length
    · obtain ⟨gw, rfl⟩ := q3 (by omega)
      have hgw : gw < w.heap.size := h6.1.lt rfl
      have hcw := (hbw.cell (p := ⟨gw, k, none⟩) hgw).trans (q4 gw rfl k hkn)
      have hfs := filter_take_succ s.ws mk k hkn
      have hms := mem_take_succ s.ws mk k hkn
      have hI64 : True := trivial
      obtain ⟨z, hz⟩ : ∃ z, s.ws.getD k 0 = z := ⟨_, rfl⟩
      rw [hz] at hcw hfs hms
      have HLS := Hid_mk' hls
      have hlsl : ls.length ≤ s.ws.length := by rw [hls]; exact Nat.le_trans (List.length_filter_le _ _) (by simp; omega)
      clear hls hz q4 q3
      by_cases hzm : z = mk
      · subst hzm
        have hfs2 : (s.ws.take (k + 1)).filter (fun x => decide (x ≠ z)) = ls := by rw [hfs, HLS.out]; simp
        have hms2 : decide (z ∈ s.ws.take (k + 1)) = true := decide_eq_true (hms.2 (.inr rfl))
        have HFS := Hid_mk' hfs2
        have HMS := Hid_mk' hms2
        have hzz : (z == z) = true := by simp
        clear hfs hms hfs2 hms2
        go_wp2
        go_roundw
        case rel => exact ⟨k + 1, ls, by omega, by go_num, by rw [HMS.out], hv, HFS.out.symm, hbw, hvg⟩
        case measure => simp [intOf]; omega
      · have hfs2 : (s.ws.take (k + 1)).filter (fun x => decide (x ≠ mk)) = ls ++ [z] := by rw [hfs, HLS.out, if_neg hzm]
        have hms2 : decide (mk ∈ s.ws.take (k + 1)) = decide (mk ∈ s.ws.take k) := by
          by_cases hm : mk ∈ s.ws.take k
          · simp only [hm, decide_true]
            exact decide_eq_true (hms.2 (.inl hm))
          · simp only [hm, decide_false]
            exact decide_eq_false (fun h => by rcases hms.1 h with h | h; exact hm h; exact hzm h)
        have HFS := Hid_mk' hfs2
        have HMS := Hid_mk' hms2
        have hzz : (z == mk) = false := beq_eq_false_iff_ne.2 hzm
        have hv1 := hv.kept (w' := wr.alloc (.cells #[.int .i64 z] 3)) (fun g hg => (bl1 _).block g (hv.lt hg))
        have hcn := cell_one_new wr (.int .i64 z) 3 0 _ rfl
        have hbs2 := hbw.size
        clear hfs hms hfs2 hms2
        generalize decide (mk ∈ s.ws.take k) = fk at *
        go_wp2_with (at_builtin; refine wpList_append_int rfl _ _ rfl z hv1 rfl wr.heap.size rfl hcn (by omega) ?_)
        intro v' w2 hown hgrow hat
        have hbw2 : Below w.heap.size w w2 := (hbw.alloc hbw.size _).grown hgrow (by simp; omega) (fun g hg => hvg g hg)
        have hvg2 : ∀ g, v'.ownBlock = some g → w.heap.size ≤ g := by
          intro g hg
          rcases hat with hat | hat
          · exact hvg g (by rw [← hat]; exact hg)
          · rw [hat] at hg
            simp at hg
            omega
        clear hv1 hcn hgrow hat
        go_wp2
        go_roundw
        case rel => exact ⟨k + 1, ls ++ [z], by omega, by go_num, by rw [HMS.out], hown, HFS.out.symm, hbw2, hvg2⟩
        case measure => simp [intOf]; omega
    · obtain rfl : k = s.ws.length := by omega
      rw [List.take_length] at hls ⊢
      have hR := h5.stay (fun k hk _ => hbw.block k hk)
      have hI := h6.stay (fun k hk _ => hbw.block k hk)
      have hKw : Keep G w wr := Keep.of_below hbw h1
      have h1r : ∀ k, G k → k < wr.heap.size := fun k hk => Nat.lt_of_lt_of_le (h1 k hk) hbw.size
      have hbad : ∀ (s' : St), s.fail = s' → Ps (wr.setCell ⟨B, 2, none⟩ (.bool true)) B G s' ∧ Keep G w (wr.setCell ⟨B, 2, none⟩ (.bool true)) := by
        intro s' e
        subst e
        have := Ps.failed (s := s) h1r h2 h3 (by rw [hno]; exact hQ) hR hI true
        exact ⟨this.1, hKw.trans this.2⟩
      by_cases hw : mk ∈ s.ws
      rotate_left
      · have hd : decide (mk ∈ s.ws) = false := decide_eq_false hw
        obtain ⟨hP2, hK2⟩ := hbad (s.now mk bse) (by rw [St.now_no hno]; intro h; exact hw h.1)
        rw [hd]
        clear hbad
        go_wp2
        (try simp only [Exit.inBlock, Exit.then]); refine bodyPost_ret (results_none rfl _ _ _) rfl ?_
        exact ⟨rfl, hP2, hK2⟩
      have hd : decide (mk ∈ s.ws) = true := decide_eq_true hw
      rw [hd]
      by_cases hbo : bse ≤ (l : Int) ∧ -2147483648 ≤ bse
      rotate_left
      · obtain ⟨hP2, hK2⟩ := hbad (s.now mk bse) (by rw [St.now_no hno]; intro h; rw [HL.out] at h; exact hbo ⟨h.2.2, h.2.1⟩)
        have hor : (l : Int) < bse ∨ (bse ≤ (l : Int) ∧ bse < -2147483648) := by omega
        clear hbad hd hbo
        rcases hor with r1 | ⟨r1, r2⟩
        all_goals
          go_wp2
          (try simp only [Exit.inBlock, Exit.then]); refine bodyPost_ret (results_none rfl _ _ _) rfl ?_
          exact ⟨rfl, hP2, hK2⟩
      obtain ⟨o1, o2⟩ := hbo
      have hs' := St.now_ok hno (m := mk) (b := bse) ⟨hw, o2, by rw [HL.out]; exact o1⟩
      have hwin := h3.2.2.1 mk hw
      rw [HL.out] at hs' hwin
      obtain ⟨q, rfl⟩ : ∃ q : Nat, mk = (q : Int) := ⟨mk.toNat, by omega⟩
      rw [Int.toNat_natCast] at hs'
      have HS' := Hid_mk' hs'
      have HWF := Hid_mk' (h3.now (q : Int) bse)
      rw [← hls] at hs'
      have HS2 := Hid_mk' hs'
      have hwf2 : Wf { s with ws := ls } := by
        refine ⟨h3.1, ?_, ?_, ?_⟩
        · dsimp only; rw [hls]; exact h3.2.1.filter _
        · intro x hx
          dsimp only at hx
          rw [hls, List.mem_filter] at hx
          exact h3.2.2.1 x hx.1
        · dsimp only
          rw [hls]
          have := List.length_filter_le (fun x => decide (x ≠ (q : Int))) s.ws
          have := h3.2.2.2
          omega
      obtain ⟨g, rfl⟩ : ∃ g, a = some ⟨g, 0, none⟩ := by
        rcases hR.1.2 with ⟨e, e0⟩ | ⟨g, cap, cur, e, _⟩
        · have := HL.out; omega
        · simp at e
          exact ⟨g, e.1⟩
      have hgl : g < wr.heap.size := (hR.1.lt g rfl).2
      have hnG : ∀ g, u6.ownBlock = some g → ¬ G g := fun g hg hGg => by have := hvg g hg; have := h1 g hGg; omega
      obtain ⟨a6, c6, e6, _⟩ := hv.slice
      subst e6
      have hoff : ∀ k, k < wr.heap.size → k ≠ B → (wr.setCell ⟨B, 1, none⟩ (.slice a6 ls.length c6)).heap[k]? = wr.heap[k]? := fun k _ hk => Below.heap_setCell _ ⟨B, 1, none⟩ _ k hk
      have e4 := hQ.set1 (.slice a6 ls.length c6)
      have e5 := hR.off hQ (by decide) hoff
      have e6 : RowI (wr.setCell ⟨B, 1, none⟩ (.slice a6 ls.length c6)) G (.slice a6 ls.length c6) ls := RowI.off ⟨hv, hnG⟩ hQ (by decide) hoff
      have eK : Keep G w (wr.setCell ⟨B, 1, none⟩ (.slice a6 ls.length c6)) := hKw.setCell (p := ⟨B, 1, none⟩) h2 _
      have eg : g < (wr.setCell ⟨B, 1, none⟩ (.slice a6 ls.length c6)).heap.size := by simpa [World.setCell] using hgl
      have hcl : l ≤ c := by
        rcases hR.1.2 with ⟨e, _⟩ | ⟨g', cap, cur, e, _, _, h7, _⟩
        · cases e
        · simp at e
          rw [HL.out] at h7
          omega
      have hcm : c ≤ 9223372036854775807 := by
        rcases hR.1.2 with ⟨e, _⟩ | ⟨g', cap, cur, e, _, _, _, h7, _⟩
        · cases e
        · simp at e
          unfold maxLen at h7
          omega
      clear hbad hs' hls hw hwf2 hnG
      go_wp2_with fail
      obtain ⟨W1, hW1⟩ : ∃ W1, W1 = wr.setCell ⟨B, 1, none⟩ (.slice a6 ls.length c6) := ⟨_, rfl⟩
      rw [← hW1] at e4 e5 e6 eK eg ⊢
      clear hW1 hoff hQ hR hI hKw hbw c0 c1 c2 f0 f1 f2 hv hvg h4 h5 h6 hgl h1r
      refine (big4_at ((l : Int) - bse) _ (by omega) (by omega)).mono ?_
      rintro e u2 ⟨rfl, hr2, hb2⟩
      have hXg : W1.heap.size ≠ g := by omega
      have hKu : Keep G w u2 := eK.trans (Keep.of_below hb2 (fun k hk => by
        have := h1 k hk
        have := eK.size
        omega))
      have p4 := e4.below hb2
      have p5 := e5.stay (fun k hk _ => hb2.block k hk)
      have p6 := e6.stay (fun k hk _ => hb2.block k hk)
      generalize W1.heap.size = X at *
      have hxl : (be4 ((l : Int) - bse)).length = 4 := rfl
      have hxb := byt_be4 ((l : Int) - bse)
      generalize be4 ((l : Int) - bse) = xs at *
      have hbl : s.bs.length = l := HL.out
      have HBL := Hid_mk' hbl
      clear hb2 e4 e5 e6 eK eg hbl q3 q4
      go_wp2
      go_loopw [10] (fun i wr => ∃ k : Nat, k ≤ 4 ∧ i = .int .i64 k ∧ Bx3 wr B (.slice (some ⟨g, 0, none⟩) l c) (.slice a6 ls.length c6) (.bool false) ∧ Row wr G (.slice (some ⟨g, 0, none⟩) l c) (ovr s.bs q (xs.take k)) ∧ RowI wr G (.slice a6 ls.length c6) ls ∧ Rb wr (some ⟨X, 0, none⟩) 4 xs ∧ Keep G w wr) (fun i _ => 4 - (intOf i).toNat)
      case atStart => exact ⟨0, by omega, rfl, p4, by simpa [ovr] using p5, p6, hr2, hKu⟩
      case round =>
        clear p4 p5 p6 hr2 hKu
        obtain ⟨k, hk4, rfl, p4, p5, p6, hr2, hKu⟩ := hrel
        by_cases hk : k < 4
        · have hxk := hr2.fm
          have hcx : wr.cell? ⟨X, k, none⟩ = some (.int .u8 ((xs.getD k 0 : Nat) : Int)) := by
            rcases hr2.fm with h0 | ⟨b, off, e, _, hc⟩
            · rw [h0] at hxl; cases hxl
            · simp at e
              obtain ⟨rfl, rfl⟩ := e
              have := hc k (by omega)
              rw [Nat.zero_add] at this
              exact this
          have hol : (ovr s.bs q (xs.take k)).length = l := by rw [ovr_len (by simp; have := HBL.out; omega), HBL.out]
          have hstep := ovr_step s.bs xs q k (by omega) (by have := HBL.out; omega)
          have hxv := hxb.getD k
          obtain ⟨z, hz⟩ : ∃ z, xs.getD k 0 = z := ⟨_, rfl⟩
          rw [hz] at hcx hstep hxv
          have HST := Hid_mk' hstep
          have i1 : (0 : Int) ≤ (q : Int) + (k : Int) := by omega
          have i2 : (q : Int) + (k : Int) < (l : Int) := by omega
          have i3 : ((q : Int) + (k : Int)).toNat = q + k := by omega
          have i4 : IntKind.i64.wrap ((q : Int) + (k : Int)) = (q : Int) + (k : Int) := by unfold IntKind.wrap; simp [IntKind.bits, IntKind.signed]; omega
          clear hz hstep hxk
          go_wp2_with fail
          refine drewRegion (by kernel_rfl) ?_
          have hbd : Below wr.heap.size wr wr.drew := Below.drew (Below.refl _ _)
          have p4 := p4.below hbd
          have p5 := p5.stay (w' := wr.drew) (fun k hk _ => hbd.block k hk)
          have p6 := p6.stay (w' := wr.drew) (fun k hk _ => hbd.block k hk)
          have hr2 := hr2.below hbd
          have hKu := hKu.trans (Keep.of_below hbd (fun k hk => Nat.lt_of_lt_of_le (h1 k hk) hKu.size))
          have hcx : wr.drew.cell? ⟨X, k, none⟩ = some (.int .u8 (z : Int)) := hcx
          generalize wr.drew = u3 at *
          have d0 := p4.cells.1
          obtain ⟨hset, ⟨y, hy⟩, hfy⟩ := p5.set hol (q + k) z (by omega)
          rw [HST.out] at hset
          refine aTake (i := 0) (v := ?v1) rfl (by kernel_rfl) (by kernel_rfl) (by kernel_rfl) (fun _ _ _ h => h) (Or.inl ⟨by rfl, ?y1⟩) ?r1
          case y1 =>
            intro w9
            go_simp
            try with_reducible rfl
          try simp only [Act.put, List.setIfInBounds_toArray, List.set_cons_zero, List.set_cons_succ]
          refine aTake (i := 1) (v := ?v2) rfl (by kernel_rfl) (by kernel_rfl) (by kernel_rfl) (fun _ _ _ h => h) (Or.inl ⟨by rfl, ?y2⟩) ?r2
          case y2 =>
            intro w9
            go_simp
            try with_reducible rfl
          try simp only [Act.put, List.setIfInBounds_toArray, List.set_cons_zero, List.set_cons_succ]
          refine aTake (i := 2) (v := ?v3) rfl (by kernel_rfl) (by kernel_rfl) (by kernel_rfl) (fun _ _ _ h => h) (Or.inl ⟨by rfl, ?y3⟩) ?r3
          case y3 =>
            intro w9
            go_simp
            try with_reducible rfl
          try simp only [Act.put, List.setIfInBounds_toArray, List.set_cons_zero, List.set_cons_succ]
          refine aTake (i := 4) (v := ?v4) rfl (by kernel_rfl) (by kernel_rfl) (by kernel_rfl) (fun _ _ _ h => h) (Or.inl ⟨by rfl, ?y4⟩) ?r4
          case y4 =>
            intro w9
            go_simp
            try with_reducible rfl
          try simp only [Act.put, List.setIfInBounds_toArray, List.set_cons_zero, List.set_cons_succ]
          refine aTake (i := 5) (v := ?v5) rfl (by kernel_rfl) (by kernel_rfl) (by kernel_rfl) (fun _ _ _ h => h) (Or.inl ⟨by rfl, ?y5⟩) ?r5
          case y5 =>
            intro w9
            go_simp
            try with_reducible rfl
          try simp only [Act.put, List.setIfInBounds_toArray, List.set_cons_zero, List.set_cons_succ]
          refine aTake (i := 6) (v := ?v6) rfl (by kernel_rfl) (by kernel_rfl) (by kernel_rfl) (fun _ _ _ h => h) (Or.inl ⟨by rfl, ?y6⟩) ?r6
          case y6 =>
            intro w9
            go_simp
            try with_reducible rfl
          try simp only [Act.put, List.setIfInBounds_toArray, List.set_cons_zero, List.set_cons_succ]
          refine aTake (i := 7) (v := ?v7) rfl (by kernel_rfl) (by kernel_rfl) (by kernel_rfl) (fun _ _ _ h => h) (Or.inl ⟨by rfl, ?y7⟩) ?r7
          case y7 =>
            intro w9
            go_simp
            try with_reducible rfl
          try simp only [Act.put, List.setIfInBounds_toArray, List.set_cons_zero, List.set_cons_succ]
          refine aTake (i := 8) (v := ?v8) rfl (by kernel_rfl) (by kernel_rfl) (by kernel_rfl) (fun _ _ _ h => h) (Or.inl ⟨by rfl, ?y8⟩) ?r8
          case y8 =>
            intro w9
            go_simp
            try with_reducible rfl
          try simp only [Act.put, List.setIfInBounds_toArray, List.set_cons_zero, List.set_cons_succ]
          refine aTake (i := 9) (v := ?v9) rfl (by kernel_rfl) (by kernel_rfl) (by kernel_rfl) (fun _ _ _ h => h) (Or.inl ⟨by rfl, ?y9⟩) ?r9
          case y9 =>
            intro w9
            go_simp
            try with_reducible rfl
          try simp only [Act.put, List.setIfInBounds_toArray, List.set_cons_zero, List.set_cons_succ]
          refine wpAny_ready (rs := [3, 10]) (by kernel_rfl) (by simp) (aCons (i := 3) rfl (by rfl) (fun K hK => ?_) (aCons (i := 10) rfl (by rfl) (fun K hK => ?_) AllReady.nil))
          · go_simp
            refine hK.out _ _ ?_
            clear hK K
            try simp only [Act.put, List.setIfInBounds_toArray, List.set_cons_zero, List.set_cons_succ]
            refine wpAny_ready (rs := [10]) (by kernel_rfl) (by simp) (aCons (i := 10) rfl (by rfl) (fun K hK => ?_) AllReady.nil)
            go_simp
            refine hK.out _ _ ?_
            clear hK K
            try simp only [Act.put, List.setIfInBounds_toArray, List.set_cons_zero, List.set_cons_succ]
            refine aTake (i := 11) (v := ?v10) rfl (by kernel_rfl) (by kernel_rfl) (by kernel_rfl) (fun _ _ _ h => h) (Or.inl ⟨by rfl, ?y10⟩) ?r10
            case y10 =>
              intro w9
              go_simp
              try with_reducible rfl
            try simp only [Act.put, List.setIfInBounds_toArray, List.set_cons_zero, List.set_cons_succ]
            refine wpAny_ready (rs := [12]) (by kernel_rfl) (by simp) (aCons (i := 12) rfl (by rfl) (fun K hK => ?_) AllReady.nil)
            go_simp
            refine hK.out _ _ ?_
            clear hK K
            try simp only [Act.put, List.setIfInBounds_toArray, List.set_cons_zero, List.set_cons_succ]
            refine wpAny_done (by kernel_rfl) ?_ _
            have t4 := p4.offRow p5 (g := g) rfl (q + k) (.int .u8 (z : Int))
            have t6 := p6.offRow (G' := G) p5 (g := g) rfl (q + k) (.int .u8 (z : Int))
            have t2 := rb_offG hr2 g (q + k) (.int .u8 (z : Int)) (fun b o e => by simp at e; omega)
            have tK := hKu.setCell (p := ⟨g, q + k, none⟩) (p5.2 g rfl) (.int .u8 (z : Int))
            clear p4 p5 p6 hr2 hKu d0 hy hfy hcx
            go_wp2
            go_roundw
            case rel => exact ⟨k + 1, by omega, by go_num, t4, hset, t6, t2, tK⟩
            case measure => simp [intOf]; omega
          · go_simp
            refine hK.out _ _ ?_
            clear hK K
            try simp only [Act.put, List.setIfInBounds_toArray, List.set_cons_zero, List.set_cons_succ]
            refine wpAny_ready (rs := [3]) (by kernel_rfl) (by simp) (aCons (i := 3) rfl (by rfl) (fun K hK => ?_) AllReady.nil)
            go_simp
            refine hK.out _ _ ?_
            clear hK K
            try simp only [Act.put, List.setIfInBounds_toArray, List.set_cons_zero, List.set_cons_succ]
            refine aTake (i := 11) (v := ?v11) rfl (by kernel_rfl) (by kernel_rfl) (by kernel_rfl) (fun _ _ _ h => h) (Or.inl ⟨by rfl, ?y11⟩) ?r11
            case y11 =>
              intro w9
              go_simp
              try with_reducible rfl
            try simp only [Act.put, List.setIfInBounds_toArray, List.set_cons_zero, List.set_cons_succ]
            refine wpAny_ready (rs := [12]) (by kernel_rfl) (by simp) (aCons (i := 12) rfl (by rfl) (fun K hK => ?_) AllReady.nil)
            go_simp
            refine hK.out _ _ ?_
            clear hK K
            try simp only [Act.put, List.setIfInBounds_toArray, List.set_cons_zero, List.set_cons_succ]
            refine wpAny_done (by kernel_rfl) ?_ _
            have t4 := p4.offRow p5 (g := g) rfl (q + k) (.int .u8 (z : Int))
            have t6 := p6.offRow (G' := G) p5 (g := g) rfl (q + k) (.int .u8 (z : Int))
            have t2 := rb_offG hr2 g (q + k) (.int .u8 (z : Int)) (fun b o e => by simp at e; omega)
            have tK := hKu.setCell (p := ⟨g, q + k, none⟩) (p5.2 g rfl) (.int .u8 (z : Int))
            clear p4 p5 p6 hr2 hKu d0 hy hfy hcx
            go_wp2
            go_roundw
            case rel => exact ⟨k + 1, by omega, by go_num, t4, hset, t6, t2, tK⟩
            case measure => simp [intOf]; omega
        · obtain rfl : k = 4 := by omega
          have hof : xs.take 4 = xs := List.take_of_length_le (by omega)
          rw [hof] at p5
          go_wp2
          go_end0
          refine ⟨rfl, ?_, hKu⟩
          have HW2 := HWF.out
          rw [HS2.out] at HW2 ⊢
          exact ⟨fun k hk => Nat.lt_of_lt_of_le (h1 k hk) hKu.size, h2, HW2, _, _, by rw [hno]; exact p4, p5, p6⟩

end Go.Proofs.Ytcjomppgllbfpaa
