/-
  octets.Page: Now: the walk.
-/
import Derived.Test.YtijehnfadpoapaaOA
import Derived.Test.YtijehnfadpoapaaReg
import Derived.Lib.SlBuf
namespace Go.Proofs.Ytijehnfadpoapaa
open Go.RowKit Go.Maps
set_option linter.unusedSimpArgs false
set_option linter.unusedVariables false

/-- Bytes are laid over others. -/
def ovr (bs : List Nat) (q : Nat) (xs : List Nat) : List Nat := bs.take q ++ xs ++ bs.drop (q + xs.length)
theorem ovr_len {bs : List Nat} {q : Nat} {xs : List Nat} (h : q + xs.length ≤ bs.length) : (ovr bs q xs).length = bs.length := by simp [ovr]; omega
theorem byt_ovr {bs : List Nat} {q : Nat} {xs : List Nat} (h : Byt bs) (hx : Byt xs) : Byt (ovr bs q xs) := ((h.take q).append hx).append (h.drop _)

def St.now (s : St) (m b : Int) : St :=
  if s.no then s else if m ∈ s.ws ∧ -2147483648 ≤ b ∧ b ≤ (s.bs.length : Int) then { s with bs := ovr s.bs m.toNat (be4 ((s.bs.length : Int) - b)), ws := s.ws.filter (fun x => decide (x ≠ m)) } else s.fail
theorem St.now_bad {s : St} (h : s.no = true) (m b : Int) : s.now m b = s := by simp [St.now, h]
theorem St.now_ok {s : St} (h : s.no = false) {m b : Int} (hc : m ∈ s.ws ∧ -2147483648 ≤ b ∧ b ≤ (s.bs.length : Int)) :
    s.now m b = { s with bs := ovr s.bs m.toNat (be4 ((s.bs.length : Int) - b)), ws := s.ws.filter (fun x => decide (x ≠ m)) } := by
  unfold St.now
  rw [h, if_pos hc]
  simp
theorem St.now_no {s : St} (h : s.no = false) {m b : Int} (hc : ¬ (m ∈ s.ws ∧ -2147483648 ≤ b ∧ b ≤ (s.bs.length : Int))) : s.now m b = s.fail := by
  unfold St.now
  rw [h, if_neg hc]
  simp
theorem Wf.now {s : St} (h : Wf s) (m b : Int) : Wf (s.now m b) := by
  unfold St.now
  split
  · exact h
  · split
    · rename_i hc
      obtain ⟨hm, _, _⟩ := hc
      have h1 := h.2.2.1 m hm
      have hlen : (ovr s.bs m.toNat (be4 ((s.bs.length : Int) - b))).length = s.bs.length := ovr_len (by simp [be4]; omega)
      refine ⟨byt_ovr h.1 (byt_be4 _), h.2.1.filter _, fun x hx => ?_, ?_⟩
      · rw [List.mem_filter] at hx
        have := h.2.2.1 x hx.1
        dsimp only
        rw [hlen]
        exact this
      · dsimp only
        rw [hlen]
        have := List.length_filter_le (fun x => decide (x ≠ m)) s.ws
        have := h.2.2.2
        omega
    · exact h

theorem has_less {D : DataW Unit} {ws : List Int} {m : Int} (h : ∀ x : Int, Maps.has D (.int .i64 x) = decide (x ∈ ws)) (x : Int) :
    Maps.has (D.del (.int .i64 m)) (.int .i64 x) = decide (x ∈ ws.filter (fun x => decide (x ≠ m))) := by
  by_cases e : x = m
  · subst e
    rw [has_del_same]
    simp
  · rw [has_del_other (by intro e2; injection e2 with _ e3; exact e e3), h x]
    simp [e]
theorem length_less : ∀ {ws : List Int} {m : Int}, ws.Nodup → m ∈ ws → (ws.filter (fun x => decide (x ≠ m))).length + 1 = ws.length := by
  intro ws m hn hm
  have e : ws.filter (fun x => decide (x ≠ m)) = ws.erase m := by
    rw [hn.erase_eq_filter]
    apply List.filter_congr
    intro x _
    by_cases h : x = m <;> simp [h]
  rw [e, List.length_erase_of_mem hm]
  have := List.length_pos_of_mem hm
  omega
theorem size_less {D : DataW Unit} {ws : List Int} {m : Int} (ht : Tidy D) (h : ∀ x : Int, Maps.has D (.int .i64 x) = decide (x ∈ ws)) (hs : Maps.size D = ws.length) (hn : ws.Nodup) (hm : m ∈ ws) :
    Maps.size (D.del (.int .i64 m)) = (ws.filter (fun x => decide (x ≠ m))).length := by
  have e := size_del (k := .int .i64 m) ht
  rw [h m, hs] at e
  have := length_less hn hm
  simp only [hm, decide_true, if_true] at e
  omega
theorem ownsMap_tight {w : World} {k : TypeId} {b n : Nat} {D : DataW Unit} (h : w.ownsMap Try.prog k unitElem b n D) : w.ownsMap Try.prog k unitElem b (Maps.size D) D := by
  obtain ⟨es, clock, hb, F, hs, rfl⟩ := h
  exact ⟨es, clock, hb, F, by simp [Maps.size, length_sorted], rfl⟩

theorem copyEq (u : World) (g q l cap : Nat) (cur : Array Value) (a : Option Addr) (c : Nat) (xs : List Nat) (ty : TypeId) (hg : u.heap[g]? = some (.cells cur 5 (0, 0))) (hr : Rb u a c xs) (hx : xs.length = 4) (hq : q + 4 ≤ l) (hl : l ≤ cur.size) :
    (Builtin.copy_ #[23, 23] ty #[.slice (some ⟨g, q, none⟩) (l - q) (cap - q), .slice a xs.length c]).run Try.prog u = .ok (goInt 4) (u.setRow g (cur.toList.take q ++ xs.map Y ++ cur.toList.drop (q + 4)).toArray) := by
  rcases hr.fm with h0 | ⟨b, off, rfl, hb, hc⟩
  · rw [h0] at hx; cases hx
  · have h := run_copy_row (P := Try.prog) u 23 23 ty 5 g q (l - q) (cap - q) ⟨b, off, none⟩ xs.length c cur 5 (xs.map Y) Try.underlying23 (by kernel_rfl) hg (by rw [List.length_map, hx]; show 4 = min 4 (l - q); omega) (by
      intro j v hj
      have hjl : j < xs.length := by
        rcases Nat.lt_or_ge j xs.length with h1 | h1
        · exact h1
        · rw [List.getElem?_eq_none (by simpa using h1)] at hj; cases hj
      have hadd : (⟨b, off, none⟩ : Addr).add j = ⟨b, off + j, none⟩ := by unfold Addr.add; split <;> simp_all
      rw [hadd, hc j hjl]
      rw [List.getElem?_map, List.getElem?_eq_getElem hjl] at hj
      simp at hj
      rw [← hj]
      simp [List.getD, hjl, Y]) (by simp [hx]; omega) (oneCell_Y xs)
    rw [List.length_map, hx] at h
    rw [hx]
    exact h

theorem now_fin {u : World} {B g m q l cap : Nat} {G : Nat → Prop} {s s' : St} {cur : Array Value} {D : DataW Unit} {xs : List Nat} (hGs : ∀ k, G k → k < u.heap.size) (hGB : ¬ G B)
    (hQ : Bx4 u B (.slice (some ⟨g, 0, none⟩) l cap) (.int .i64 (l : Int)) (.map (some m)) (.bool false)) (hR : Row u G (.slice (some ⟨g, 0, none⟩) l cap) s.bs) (hg : u.heap[g]? = some (.cells cur 5 (0, 0)))
    (hcur : cur.toList.take l = s.bs.map Y) (hcs : l ≤ cur.size) (hl : s.bs.length = l)
    (hmG : ¬ G m) (hown : u.ownsMap Try.prog 3 (unitElem (H := Unit)) m s'.ws.length D) (hhas : ∀ x : Int, Maps.has D (.int .i64 x) = decide (x ∈ s'.ws)) (hsize : Maps.size D = s'.ws.length)
    (hx : xs.length = 4) (hq : q + 4 ≤ l) (hb : s'.bs = ovr s.bs q xs) (hno : s'.no = false) (hw : Wf s') :
    Pc (u.setRow g (cur.toList.take q ++ xs.map Y ++ cur.toList.drop (q + 4)).toArray) B G s' ∧ Keep G u (u.setRow g (cur.toList.take q ++ xs.map Y ++ cur.toList.drop (q + 4)).toArray) := by
  have hgG : ¬ G g := hR.2 g rfl
  have hgB : B ≠ g := fun e => hR.ne hQ (by decide) (by rw [e]; rfl)
  have hlen : s'.bs.length = l := by rw [hb, ovr_len (by omega), hl]
  obtain ⟨es, clock, hbm, hF⟩ := hown
  have hgm : m ≠ g := fun e => hR.ne_map hbm (by rw [e]; rfl)
  have hrow := setRow_heap u g cur (cur.toList.take q ++ xs.map Y ++ cur.toList.drop (q + 4)).toArray _ _ hg
  refine ⟨⟨fun k hk => by simpa using hGs k hk, hGB, hw, .slice (some ⟨g, 0, none⟩) l cap, .map (some m), ?_, (fun hn => by rw [hno] at hn; cases hn), fun _ => ⟨⟨⟨?_, .inr ?_⟩, hR.2⟩, .inr ⟨m, D, rfl, hmG, ⟨es, clock, (setRow_other u g m _ hgm).trans hbm, hF⟩, hhas, hsize⟩⟩⟩, ⟨rfl, rfl, rfl, by simp, fun k hk => setRow_other u g k _ (fun e => hgG (e ▸ hk))⟩⟩
  · rw [hlen, hno]
    exact (setRow_other u g B _ hgB).trans hQ
  · simp
  · rcases hR.1.2 with ⟨e, _⟩ | ⟨g', cap', cur', e, h1, h2, h3, h4, h5, h6⟩
    · cases e
    · simp at e
      obtain ⟨rfl, _, rfl⟩ := e
      rw [hg] at h2
      simp at h2
      subst h2
      refine ⟨g, cap, _, by rw [hlen], Nat.zero_le _, hrow, by rw [hlen, ← hl]; exact h3, h4, ?_, ?_⟩
      · rw [← h5]
        simp [hx]
        omega
      · rw [Nat.mul_one, hlen, hb, ovr, hx, List.map_append, List.map_append]
        have e1 : (s.bs.take q).map Y = cur.toList.take q := by
          rw [List.map_take, ← hcur, List.take_take, Nat.min_eq_left (by omega)]
        have e2 : (s.bs.drop (q + 4)).map Y = (cur.toList.take l).drop (q + 4) := by
          rw [List.map_drop, ← hcur]
        have hcl : cur.toList.length = cur.size := Array.length_toList
        rw [e1, e2, List.take_append, List.take_of_length_le (by simp [hx]; omega), List.drop_take]
        congr 1
        congr 1
        simp [hx]
        omega

set_option maxHeartbeats 500000 in
set_option maxRecDepth 100000 in
theorem now_any (B : Nat) (G : Nat → Prop) (s : St) (mk bse : Int) (w : World) (h : Pc w B G s) (hmk : I64 mk) (hbs : I64 bse) (hl : s.bs.length ≤ 1048576) :
    Calls Try.prog 30 #[pg B, .int .i64 mk, .int .i64 bse] w fun e w' => e = .returned (.tuple #[]) ∧ Pc w' B G (s.now mk bse) ∧ Keep G w w' := by
  have hP := h
  obtain ⟨h1, h2, h3, vb, vm, h4, h6, h5⟩ := h
  have hkey : keyOf Try.prog 3 (.int .i64 mk) = some (.int .i64 mk) := keyOf_int_mk Try.underlying3 (wf64 hmk)
  obtain ⟨m1, m2⟩ := hmk
  obtain ⟨b1, b2⟩ := hbs
  obtain ⟨c0, c1, c2, c3, f0, f1, f2, f3⟩ := h4.cells
  have hP1 := hP.al (.cells #[] 70)
  have hK1 := hP.kal (.cells #[] 70)
  have h41 := h4.below (bl1 (.cells #[] 70))
  have c10 := h41.cells.1
  have c11 := h41.cells.2.1
  have c12 := h41.cells.2.2.1
  have bad : ∀ (s' : St), s.fail = s' → Calls Try.prog 52 #[pg B] (w.alloc (.cells #[] 70)) fun e w' => e = .returned (.tuple #[]) ∧ Pc w' B G s' ∧ Keep G w w' := by
    intro s' e
    subst e
    refine (fail_any B G s _ hP1).mono ?_
    rintro e u ⟨rfl, hP2, hK2⟩
    exact ⟨rfl, hP2, hK1.trans hK2⟩
  by_cases hno : s.no = true
  · have hvm := h6 hno
    subst hvm
    have hlk := look_nil (w := w) true keyI Try.underlying54 (zeroU w) hkey
    have bad' := bad (s.now mk bse) (by rw [St.now_bad hno, St.fail_bad hno])
    clear bad h5 h6 hP hP1 hK1 h4 h41 c0 c1 c3 c10 c11 c12 f0 f1 f2 f3
    go_enter Try.func30, Try.ntmps30
    go_wp2_with fail
    refine bad'.mono ?_
    rintro e u ⟨rfl, hP2, hK2⟩
    go_wp2
    (try simp only [Exit.inBlock, Exit.then]); refine bodyPost_ret (results_none rfl _ _ _) rfl ?_
    exact ⟨rfl, hP2, hK2⟩
  have hno : s.no = false := by simpa using hno
  obtain ⟨hR, hM⟩ := h5 hno
  rcases hM with ⟨rfl, hws⟩ | ⟨m, D, rfl, hmG, hown, hhas, hsize⟩
  · have hlk := look_nil (w := w) true keyI Try.underlying54 (zeroU w) hkey
    have bad' := bad (s.now mk bse) (by rw [St.now_no hno]; rw [hws]; simp)
    clear bad h5 h6 hP hP1 hK1 h4 h41 c0 c1 c3 c10 c11 c12 f0 f1 f2 f3 hR
    go_enter Try.func30, Try.ntmps30
    go_wp2_with fail
    refine bad'.mono ?_
    rintro e u ⟨rfl, hP2, hK2⟩
    go_wp2
    (try simp only [Exit.inBlock, Exit.then]); refine bodyPost_ret (results_none rfl _ _ _) rfl ?_
    exact ⟨rfl, hP2, hK2⟩
  by_cases hw : mk ∈ s.ws
  rotate_left
  · have hh : Maps.has D (.int .i64 mk) = false := by rw [hhas]; simp [hw]
    have bad' := bad (s.now mk bse) (by rw [St.now_no hno]; intro h; exact hw h.1)
    clear bad h5 h6 hP hP1 hK1 h4 h41 c0 c1 c3 c10 c11 c12 f0 f1 f2 f3 hR hhas hsize
    go_enter Try.func30, Try.ntmps30
    go_wp2_with (first | (at_lookup; refine wpList_lookup_own_unit _ rfl _ _ 54 rfl 3 70 keyI Try.underlying54 (zeroU _) m _ D rfl hown _ _ rfl hkey ?_; rw [hh]) | fail)
    refine bad'.mono ?_
    rintro e u ⟨rfl, hP2, hK2⟩
    go_wp2
    (try simp only [Exit.inBlock, Exit.then]); refine bodyPost_ret (results_none rfl _ _ _) rfl ?_
    exact ⟨rfl, hP2, hK2⟩
  have hh : Maps.has D (.int .i64 mk) = true := by rw [hhas]; simp [hw]
  obtain ⟨l, hll⟩ : ∃ l, s.bs.length = l := ⟨_, rfl⟩
  have HL : Hid (s.bs.length = l) := hll
  by_cases hbo : -2147483648 ≤ bse ∧ bse ≤ (s.bs.length : Int)
  rotate_left
  · have bad' := bad (s.now mk bse) (by rw [St.now_no hno]; intro h; exact hbo h.2)
    have hor : bse < -2147483648 ∨ (-2147483648 ≤ bse ∧ (l : Int) < bse) := by rw [hll] at hbo; omega
    rw [hll] at c11 hl
    clear bad h5 h6 hP hP1 hK1 h4 h41 c0 c1 c3 c10 c12 f0 f1 f2 f3 hR hhas hsize hll hbo
    rcases hor with g1 | ⟨g1, g2⟩
    all_goals
      go_enter Try.func30, Try.ntmps30
      go_wp2_with (first | (at_lookup; refine wpList_lookup_own_unit _ rfl _ _ 54 rfl 3 70 keyI Try.underlying54 (zeroU _) m _ D rfl hown _ _ rfl hkey ?_; rw [hh]) | fail)
      refine bad'.mono ?_
      rintro e u ⟨rfl, hP2, hK2⟩
      go_wp2
      (try simp only [Exit.inBlock, Exit.then]); refine bodyPost_ret (results_none rfl _ _ _) rfl ?_
      exact ⟨rfl, hP2, hK2⟩
  have hs' := St.now_ok hno (m := mk) (b := bse) ⟨hw, hbo.1, hbo.2⟩
  have hwin := h3.2.2.1 mk hw
  obtain ⟨q, rfl⟩ : ∃ q : Nat, mk = (q : Int) := ⟨mk.toNat, by omega⟩
  rw [hll] at hs' hwin hbo hl h4 h41 c1 c11
  obtain ⟨hbo1, hbo2⟩ := hbo
  obtain ⟨g, cap, cur, rfl, hg0, hcap, hcapm, hcsz, hcur⟩ : ∃ g cap cur, vb = .slice (some ⟨g, 0, none⟩) l cap ∧ w.heap[g]? = some (.cells cur 5 (0, 0)) ∧ l ≤ cap ∧ cap ≤ maxLen ∧ cur.size = cap ∧ cur.toList.take l = s.bs.map Y := by
    rcases hR.1.2 with ⟨_, e⟩ | ⟨g, cap, cur, e1, _, e2, e3, e4, e5, e6⟩
    · omega
    · rw [hll] at e1 e3 e6
      exact ⟨g, cap, cur, e1, e2, e3, e4, by rw [e5, Nat.mul_one], by rw [← e6, Nat.mul_one]⟩
  unfold maxLen at hcapm
  have hgl : g < w.heap.size := (Array.getElem?_eq_some_iff.1 hg0).1
  have hown1 := hown.alloc (.cells #[] 70)
  have hR1 := hR.stay (w' := w.alloc (.cells #[] 70)) (fun k hk _ => (bl1 (.cells #[] 70)).block k hk)
  have hHS : Hid (s.now (q : Int) bse = _) := hs'
  have hLS : Hid (_) := length_less h3.2.1 hw
  have HW : Hid ((q : Int) ∈ s.ws) := hw
  have HF : Hid (Wf (s.now (q : Int) bse)) := h3.now _ _
  have HR1 : Hid (Row (w.alloc (.cells #[] 70)) G (.slice (some ⟨g, 0, none⟩) l cap) s.bs) := hR1
  have HCU : Hid (cur.toList.take l = s.bs.map Y) := hcur
  have HHA : Hid (∀ x : Int, Maps.has D (.int .i64 x) = decide (x ∈ s.ws)) := hhas
  have HSI : Hid (Maps.size D = s.ws.length) := hsize
  have HND : Hid s.ws.Nodup := h3.2.1
  have HG1 : Hid (∀ k, G k → k < w.heap.size) := h1
  have HNO : Hid (s.no = false) := hno
  rw [hno] at h41 h4 c3
  clear bad h5 h6 hP hP1 h4 c0 c1 c3 f0 f1 f2 f3 hR hR1 hhas hsize hs' hcur hll h1 hw
  go_enter Try.func30, Try.ntmps30
  go_wp2_with (first
    | (at_lookup; refine wpList_lookup_own_unit _ rfl _ _ 54 rfl 3 70 keyI Try.underlying54 (zeroU _) m _ D rfl hown _ _ rfl hkey ?_; rw [hh])
    | (at_delete; refine wpList_delete_own _ rfl _ _ 54 3 rfl 70 keyI Try.underlying54 _ m _ D rfl hown1 _ _ rfl hkey ?_)
    | fail)
  intro w2 hown2 hturn2
  have hgr2 := hturn2.grown
  have hmg : g ≠ m := by
    rintro rfl
    obtain ⟨es, ck, hb, _⟩ := hown
    rw [hg0] at hb
    cases hb
  have hmB : B ≠ m := by
    rintro rfl
    obtain ⟨es, ck, hb, _⟩ := hown1
    exact h41.no_map _ _ hb
  have hQ2 : Bx4 w2 B (.slice (some ⟨g, 0, none⟩) l cap) (.int .i64 (l : Int)) (.map (some m)) (.bool false) := (hgr2.block B h41.lt (by simpa using hmB)).trans h41
  have hg2 : w2.heap[g]? = some (.cells cur 5 (0, 0)) := (hgr2.block g (by simp; omega) (by simpa using hmg)).trans ((bl1 (.cells #[] 70)).block g hgl |>.trans hg0)
  have hR2 : Row w2 G (.slice (some ⟨g, 0, none⟩) l cap) s.bs := ⟨HR1.out.1.kept hgr2 (.inr (by simpa [Value.ownBlock] using hmg)), HR1.out.2⟩
  have hK2 : Keep G w w2 := hK1.grown hgr2 (fun k hk => Nat.lt_of_lt_of_le (HG1.out k hk) hK1.size) (fun k e => by cases e; exact hmG)
  have HR2 : Hid (Row w2 G (.slice (some ⟨g, 0, none⟩) l cap) s.bs) := hR2
  have e20 := hQ2.cells.1
  have e21 := hQ2.cells.2.1
  have hown2' : Hid (Tidy D) := hown.tidy keyI
  clear hgr2 hturn2 hR2 c10 c11 c12 c2 h41 hown1 hg0 hh HR1 hK1 hown
  go_wp2_with fail
  have hwr : IntKind.i64.wrap ((l : Int) - bse) = (l : Int) - bse := by unfold IntKind.wrap; simp [IntKind.bits, IntKind.signed]; omega
  have hql : q ≤ l := by omega
  have hcq : ¬ cap = q := by omega
  have hgB : B ≠ g := fun e => HR2.out.ne hQ2 (by decide) (by rw [e]; rfl)
  refine wp_region_held_drew (S := fun u => u.cell? ⟨B, 0, none⟩ = some (.slice (some ⟨g, 0, none⟩) l cap) ∧ u.cell? ⟨B, 1, none⟩ = some (.int .i64 (l : Int))) (by kernel_rfl) ?_ (fun hHeld => ?_)
  · (try dsimp only)
    go_keep
  have hdr : Below w2.heap.size w2 w2.drew := Below.drew (Below.refl _ _)
  generalize w2.drew = u3 at hdr hHeld ⊢
  have hb3 : Below w2.heap.size w2 u3 := hdr
  have hQ3 := hQ2.below hb3
  refine hTake (i := 0) (v := ?va1) rfl (by kernel_rfl) (by kernel_rfl) (by kernel_rfl) (fun _ _ _ h => h) (Or.inl ⟨by rfl, ?ya1⟩) hHeld ?ra1
  case ya1 =>
    intro w9 hSw
    (try dsimp only at hSw)
    go_simp
    try with_reducible rfl
  try simp only [Act.put, List.setIfInBounds_toArray, List.set_cons_zero, List.set_cons_succ]
  refine hTake (i := 1) (v := ?va2) rfl (by kernel_rfl) (by kernel_rfl) (by kernel_rfl) (fun _ _ _ h => h) (Or.inl ⟨by rfl, ?ya2⟩) hHeld ?ra2
  case ya2 =>
    intro w9 hSw
    (try dsimp only at hSw)
    go_simp
    try with_reducible rfl
  try simp only [Act.put, List.setIfInBounds_toArray, List.set_cons_zero, List.set_cons_succ]
  refine hTake (i := 2) (v := ?va3) rfl (by kernel_rfl) (by kernel_rfl) (by kernel_rfl) (fun _ _ _ h => h) (Or.inl ⟨by rfl, ?ya3⟩) hHeld ?ra3
  case ya3 =>
    intro w9 hSw
    (try dsimp only at hSw)
    go_simp
    try with_reducible rfl
  try simp only [Act.put, List.setIfInBounds_toArray, List.set_cons_zero, List.set_cons_succ]
  refine hTake (i := 3) (v := ?va4) rfl (by kernel_rfl) (by kernel_rfl) (by kernel_rfl) (fun _ _ _ h => h) (Or.inl ⟨by rfl, ?ya4⟩) hHeld ?ra4
  case ya4 =>
    intro w9 hSw
    (try dsimp only at hSw)
    go_simp
    try with_reducible rfl
  try simp only [Act.put, List.setIfInBounds_toArray, List.set_cons_zero, List.set_cons_succ]
  refine hTake (i := 4) (v := ?va5) rfl (by kernel_rfl) (by kernel_rfl) (by kernel_rfl) (fun _ _ _ h => h) (Or.inl ⟨by rfl, ?ya5⟩) hHeld ?ra5
  case ya5 =>
    intro w9 hSw
    (try dsimp only at hSw)
    go_simp
    try with_reducible rfl
  try simp only [Act.put, List.setIfInBounds_toArray, List.set_cons_zero, List.set_cons_succ]
  refine hTake (i := 5) (v := ?va6) rfl (by kernel_rfl) (by kernel_rfl) (by kernel_rfl) (fun _ _ _ h => h) (Or.inl ⟨by rfl, ?ya6⟩) hHeld ?ra6
  case ya6 =>
    intro w9 hSw
    (try dsimp only at hSw)
    go_simp
    try with_reducible rfl
  try simp only [Act.put, List.setIfInBounds_toArray, List.set_cons_zero, List.set_cons_succ]
  refine hTake (i := 6) (v := ?va7) rfl (by kernel_rfl) (by kernel_rfl) (by kernel_rfl) (fun _ _ _ h => h) (Or.inl ⟨by rfl, ?ya7⟩) hHeld ?ra7
  case ya7 =>
    intro w9 hSw
    (try dsimp only at hSw)
    go_simp
    try with_reducible rfl
  try simp only [Act.put, List.setIfInBounds_toArray, List.set_cons_zero, List.set_cons_succ]
  refine hTake (i := 7) (v := ?va8) rfl (by kernel_rfl) (by kernel_rfl) (by kernel_rfl) (fun _ _ _ h => h) (Or.inl ⟨by rfl, ?ya8⟩) hHeld ?ra8
  case ya8 =>
    intro w9 hSw
    (try dsimp only at hSw)
    go_simp
    try with_reducible rfl
  try simp only [Act.put, List.setIfInBounds_toArray, List.set_cons_zero, List.set_cons_succ]
  refine hTake (i := 8) (v := ?va9) rfl (by kernel_rfl) (by kernel_rfl) (by kernel_rfl) (fun _ _ _ h => h) (Or.inl ⟨by rfl, ?ya9⟩) hHeld ?ra9
  case ya9 =>
    intro w9 hSw
    (try dsimp only at hSw)
    go_simp
    try with_reducible rfl
  try simp only [Act.put, List.setIfInBounds_toArray, List.set_cons_zero, List.set_cons_succ]
  refine hTake (i := 9) (v := ?va10) rfl (by kernel_rfl) (by kernel_rfl) (by kernel_rfl) (fun _ _ _ h => h) (Or.inl ⟨by rfl, ?ya10⟩) hHeld ?ra10
  case ya10 =>
    intro w9 hSw
    (try dsimp only at hSw)
    go_simp
    try with_reducible rfl
  try simp only [Act.put, List.setIfInBounds_toArray, List.set_cons_zero, List.set_cons_succ]
  refine hTake (i := 10) (v := ?va11) rfl (by kernel_rfl) (by kernel_rfl) (by kernel_rfl) (fun _ _ _ h => h) (Or.inl ⟨by rfl, ?ya11⟩) hHeld ?ra11
  case ya11 =>
    intro w9 hSw
    (try dsimp only at hSw)
    go_simp
    try with_reducible rfl
  try simp only [Act.put, List.setIfInBounds_toArray, List.set_cons_zero, List.set_cons_succ]
  refine hTake (i := 11) (v := ?va12) rfl (by kernel_rfl) (by kernel_rfl) (by kernel_rfl) (fun _ _ _ h => h) (Or.inl ⟨by rfl, ?ya12⟩) hHeld ?ra12
  case ya12 =>
    intro w9 hSw
    (try dsimp only at hSw)
    go_simp
    try with_reducible rfl
  try simp only [Act.put, List.setIfInBounds_toArray, List.set_cons_zero, List.set_cons_succ]
  refine hCall (i := 12) rfl (by kernel_rfl) (by rfl) (fun K hK => ?_)
  go_simp
  refine (four_any ((l : Int) - bse) _ ⟨by omega, by omega⟩).mono ?_
  rintro e u4 ⟨a4, c4, rfl, hr4, hb4⟩
  go_wp2_with fail
  have hQ4 := hQ3.below hb4
  have hb24 := hb3.trans (hb4.mono hb3.size)
  have hg4 : u4.heap[g]? = some (.cells cur 5 (0, 0)) := (hb24.block g (Array.getElem?_eq_some_iff.1 hg2).1).trans hg2
  have d0 := hQ4.cells.1
  have d1 := hQ4.cells.2.1
  refine hK.out _ _ ?_ (fun hHeld => ?_)
  · (try dsimp only)
    exact ⟨d0, d1⟩
  clear hK K
  try simp only [Act.put, List.setIfInBounds_toArray, List.set_cons_zero, List.set_cons_succ]
  refine hCall (i := 13) rfl (by kernel_rfl) (by rfl) (fun K hK => ?_)
  have hcp := fun ty => copyEq u4 g q l cap cur a4 c4 (be4 ((l : Int) - bse)) ty hg4 hr4 rfl (by omega) (by omega)
  refine Lib.wp_copy_run _ (.tmp 50) (.tmp 57) 23 23 rfl _ _ rfl rfl (hcp _) ?_
  obtain ⟨W, hW⟩ : ∃ W, W = u4.setRow g (cur.toList.take q ++ (be4 ((l : Int) - bse)).map Y ++ cur.toList.drop (q + 4)).toArray := ⟨_, rfl⟩
  rw [← hW]
  have hQ5 : Bx4 W B (.slice (some ⟨g, 0, none⟩) l cap) (.int .i64 (l : Int)) (.map (some m)) (.bool false) := by rw [hW]; exact (setRow_other u4 g B _ hgB).trans hQ4
  have HWW : Hid (W = u4.setRow g (cur.toList.take q ++ (be4 ((l : Int) - bse)).map Y ++ cur.toList.drop (q + 4)).toArray) := hW
  clear hW hcp
  refine hK.out _ _ ?_ (fun hHeld => ?_)
  · (try dsimp only)
    exact ⟨hQ5.cells.1, hQ5.cells.2.1⟩
  clear hK K
  try simp only [Act.put, List.setIfInBounds_toArray, List.set_cons_zero, List.set_cons_succ]
  refine wpAnyH_done (by kernel_rfl) ?_ _
  go_wp2
  go_end0
  have hKR := Keep.of_below hb24 (G := G) (fun k hk => Nat.lt_of_lt_of_le (HG1.out k hk) hK2.size)
  have hR4 : Row u4 G (.slice (some ⟨g, 0, none⟩) l cap) s.bs := HR2.out.stay (fun k hk _ => hb24.block k hk)
  have hown4 : u4.ownsMap Try.prog 3 (unitElem (H := Unit)) m (Maps.size (D.del (.int .i64 (q : Int)))) (D.del (.int .i64 (q : Int))) := by
    have ho := ownsMap_tight hown2
    obtain ⟨es, ck, hb, hF⟩ := ho
    exact ⟨es, ck, (hb24.block m (Array.getElem?_eq_some_iff.1 hb).1).trans hb, hF⟩
  have hsz := size_less (hown2'.out) HHA.out HSI.out HND.out HW.out
  rw [hsz] at hown4
  have hfin := now_fin (s := s) (s' := s.now (q : Int) bse) (D := D.del (.int .i64 (q : Int))) (xs := be4 ((l : Int) - bse)) (q := q) (fun k hk => Nat.lt_of_lt_of_le (HG1.out k hk) (Nat.le_trans hK2.size hb24.size)) h2 hQ4 hR4 hg4 HCU.out (by omega) HL.out hmG
    (by rw [hHS.out]; exact hown4) (by rw [hHS.out]; exact has_less HHA.out) (by rw [hHS.out]; exact hsz) rfl (by omega) (by rw [hHS.out]; simp) (by rw [hHS.out]; exact HNO.out) HF.out
  rw [HWW.out]
  exact ⟨rfl, hfin.1, (hK2.trans hKR).trans hfin.2⟩

theorem now_nil (mk bse : Int) (w : World) :
    Calls Try.prog 30 #[.pointer none, .int .i64 mk, .int .i64 bse] w fun e w' => e = .returned (.tuple #[]) ∧ w = w' := by
  go_enter Try.func30, Try.ntmps30
  go_wp2
  (try simp only [Exit.inBlock, Exit.then]); refine bodyPost_ret (results_none rfl _ _ _) rfl ?_
  exact ⟨rfl, rfl⟩

end Go.Proofs.Ytijehnfadpoapaa
