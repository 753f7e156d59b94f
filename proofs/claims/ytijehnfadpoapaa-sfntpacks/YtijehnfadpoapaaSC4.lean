/-
  Pages that have grown too long (Pl); Pad by fours up to the end.
-/
import Derived.Test.YtijehnfadpoapaaOD
import Derived.Test.YtijehnfadpoapaaSP0
namespace Go.Proofs.Ytijehnfadpoapaa
open Go.RowKit Go.Maps
set_option linter.unusedSimpArgs false
set_option linter.unusedVariables false

/-- A page of the code that is too long: only its waiting places are kept. -/
def Pl (w : World) (B : Nat) (G : Nat → Prop) (ws : List Int) : Prop :=
  (∀ k, G k → k < w.heap.size) ∧ ¬ G B ∧ ws.Nodup ∧ ∃ (n : Nat) (vm : Value), 1048576 < n ∧ n ≤ 1000000000 ∧ Bx4 w B (.slice none 0 0) (.int .i64 (n : Int)) vm (.bool false) ∧ Wts w G vm ws

theorem Pl.stay {w w' : World} {B : Nat} {G : Nat → Prop} {ws : List Int} (h : Pl w B G ws) (hs : w.heap.size ≤ w'.heap.size) (hb : ∀ k, k < w.heap.size → ¬ G k → w'.heap[k]? = w.heap[k]?) : Pl w' B G ws := by
  obtain ⟨h1, h2, h3, n, vm, k1, k2, h4, h5⟩ := h
  exact ⟨fun k hk => Nat.lt_of_lt_of_le (h1 k hk) hs, h2, h3, n, vm, k1, k2, (hb B h4.lt h2).trans h4, h5.stay hb⟩
theorem Pl.below {w w' : World} {B : Nat} {G : Nat → Prop} {ws : List Int} (h : Pl w B G ws) (hb : Below w.heap.size w w') : Pl w' B G ws := h.stay hb.size fun k hk _ => hb.block k hk

set_option maxHeartbeats 400000 in
set_option maxRecDepth 100000 in
theorem closed_l (B : Nat) (G : Nat → Prop) (ws : List Int) (w : World) (h : Pl w B G ws) :
    Calls Try.prog 55 #[pg B] w fun e w' => e = .returned (.bool true) ∧ w = w' := by
  obtain ⟨h1, h2, h3, n, vm, k1, k2, h4, h5⟩ := h
  obtain ⟨c0, c1, c2, c3, f0, f1, f2, f3⟩ := h4.cells
  clear h5 h4 h3 h2 h1
  have g : (1048576 : Int) < (n : Int) := by omega
  go_enter Try.func55, Try.ntmps55
  go_wp2
  go_ret
  exact ⟨rfl, rfl⟩

set_option maxHeartbeats 400000 in
set_option maxRecDepth 100000 in
theorem put_l (B : Nat) (G : Nat → Prop) (ws : List Int) (v : Value) (w : World) (h : Pl w B G ws) :
    Calls Try.prog 54 #[pg B, v] w fun e w' => e = .returned (.tuple #[]) ∧ w = w' := by
  go_enter Try.func54, Try.ntmps54
  go_wp2_with fail
  refine (closed_l B G ws _ h).mono ?_
  rintro e u ⟨rfl, rfl⟩
  go_wp2
  (try simp only [Exit.inBlock, Exit.then]); refine bodyPost_ret (results_none rfl _ _ _) rfl ?_
  exact ⟨rfl, rfl⟩

set_option maxHeartbeats 400000 in
set_option maxRecDepth 100000 in
theorem putBytes_l (B : Nat) (G : Nat → Prop) (ws : List Int) (v : Value) (w : World) (h : Pl w B G ws) :
    Calls Try.prog 31 #[pg B, v] w fun e w' => e = .returned (.tuple #[]) ∧ w = w' := by
  go_enter Try.func31, Try.ntmps31
  go_wp2_with fail
  refine (put_l B G ws _ _ h).mono ?_
  rintro e u2 ⟨rfl, rfl⟩
  go_wp2
  go_end0
  exact ⟨rfl, rfl⟩

set_option maxHeartbeats 1000000 in
set_option maxRecDepth 100000 in
theorem pad_l (B : Nat) (G : Nat → Prop) (ws : List Int) (w : World) (h : Pl w B G ws) :
    Calls Try.prog 32 #[pg B, .int .i64 4] w fun e w' => e = .returned (.tuple #[]) ∧ w = w' := by
  go_enter Try.func32, Try.ntmps32
  go_wp2
  go_loopw [12] (fun _ wr => wr = w) (fun _ _ => 0)
  case atStart => rfl
  case round =>
    subst hrel
    go_wp2_with fail
    refine (closed_l B G ws _ h).mono ?_
    rintro e u ⟨rfl, rfl⟩
    go_wp2
    go_end0
    exact ⟨rfl, rfl⟩

set_option maxHeartbeats 1000000 in
set_option maxRecDepth 100000 in
/-- Bytes that are too many. -/
theorem put_over (B : Nat) (G : Nat → Prop) (s : St) (a : Option Addr) (cap : Nat) (xs : List Nat) (w : World) (h : Pc w B G s) (hno : s.no = false) (hl : s.bs.length ≤ 1048576) (hx : 1048576 < s.bs.length + xs.length) (hx2 : s.bs.length + xs.length ≤ 1000000000) :
    Calls Try.prog 54 #[pg B, .slice a xs.length cap] w fun e w' => e = .returned (.tuple #[]) ∧ Pl w' B G s.ws ∧ Keep G w w' := by
  have hP := h
  obtain ⟨h1, h2, h3, vb, vm, h4, h6, h5⟩ := h
  obtain ⟨hR, hM⟩ := h5 hno
  rw [hno] at h4
  obtain ⟨c0, c1, c2, c3, f0, f1, f2, f3⟩ := h4.cells
  obtain ⟨l, hll⟩ : ∃ l, s.bs.length = l := ⟨_, rfl⟩
  rw [hll] at c1 h4 hl hx hx2
  have HL : Hid (s.bs.length = l) := hll
  have HP : Hid (Pc w B G s) := hP
  have HLL : Hid (s.bs.length ≤ 1048576) := by show s.bs.length ≤ 1048576; rw [hll]; exact hl
  clear hll
  have hoff : ∀ (u : World) (v : Value) (o : Nat), ∀ k, k < u.heap.size → k ≠ B → (u.setCell ⟨B, o, none⟩ v).heap[k]? = u.heap[k]? := fun u v o k _ hk => Below.heap_setCell _ ⟨B, o, none⟩ v k hk
  have h41 := h4.set1 (.int .i64 ((l : Int) + xs.length))
  have h42 := h41.set0 (.slice none 0 0)
  have hM1 := hM.off h4.no_map (hoff w (.int .i64 ((l : Int) + xs.length)) 1)
  have hM2 := hM1.off h41.no_map (hoff _ (.slice none 0 0) 0)
  have hK2 : Keep G w ((w.setCell ⟨B, 1, none⟩ (.int .i64 ((l : Int) + xs.length))).setCell ⟨B, 0, none⟩ (.slice none 0 0)) := ((Keep.refl G w).setCell (p := ⟨B, 1, none⟩) h2 _).setCell (p := ⟨B, 0, none⟩) h2 _
  have g : (1048576 : Int) < (l : Int) + xs.length := by omega
  clear hP hR hM h5 h6 hM1
  obtain ⟨d0, d1, d2, d3, g0, g1, g2, g3⟩ := h41.cells
  go_enter Try.func54, Try.ntmps54
  go_wp2_with fail
  refine (closed_any B G s _ HP.out HLL.out).mono ?_
  rintro e u ⟨rfl, rfl⟩
  rw [hno]
  go_wp2
  (try simp only [Exit.inBlock, Exit.then]); refine bodyPost_ret (results_none rfl _ _ _) rfl ?_
  refine ⟨rfl, ⟨fun k hk => Nat.lt_of_lt_of_le (h1 k hk) hK2.size, h2, h3.2.1, l + xs.length, vm, hx, hx2, ?_, hM2⟩, hK2⟩
  rw [Int.natCast_add]
  exact h42

set_option maxHeartbeats 400000 in
set_option maxRecDepth 100000 in
theorem putBytes_over (B : Nat) (G : Nat → Prop) (s : St) (a : Option Addr) (cap : Nat) (xs : List Nat) (w : World) (h : Pc w B G s) (hno : s.no = false) (hl : s.bs.length ≤ 1048576) (hx : 1048576 < s.bs.length + xs.length) (hx2 : s.bs.length + xs.length ≤ 1000000000) :
    Calls Try.prog 31 #[pg B, .slice a xs.length cap] w fun e w' => e = .returned (.tuple #[]) ∧ Pl w' B G s.ws ∧ Keep G w w' := by
  go_enter Try.func31, Try.ntmps31
  go_wp2_with fail
  refine (put_over B G s a cap xs _ h hno hl hx hx2).mono ?_
  rintro e u2 ⟨rfl, hP, hK⟩
  go_wp2
  go_end0
  exact ⟨rfl, hP, hK⟩

set_option maxHeartbeats 1000000 in
set_option maxRecDepth 100000 in
/-- Pad by fours: to the very end of what a page may hold. -/
theorem pad4_any (B : Nat) (G : Nat → Prop) (s : St) (w : World) (h : Pc w B G s) (hl : s.bs.length ≤ 1048576) (hno : s.no = false) :
    Calls Try.prog 32 #[pg B, .int .i64 4] w fun e w' => e = .returned (.tuple #[]) ∧ Pc w' B G (s.app (List.replicate (padN s.bs.length 4) 0)) ∧ Keep G w w' := by
  have hend : s.bs.length + padN s.bs.length 4 ≤ 1048576 := by unfold padN; omega
  go_enter Try.func32, Try.ntmps32
  go_wp2
  go_loopw [12] (fun _ wr => ∃ j : Nat, j + padN (s.bs.length + j) 4 = padN s.bs.length 4 ∧ Pc wr B G (s.app (List.replicate j 0)) ∧ Keep G w wr) (fun _ wr => 2000000 - hereOf B wr)
  case atStart => exact ⟨0, by simp, by simpa [St.app_nil] using h, Keep.refl _ _⟩
  case round =>
    obtain ⟨j, hj, hP, hK⟩ := hrel
    have hjm : j < 4 := by have := padN_lt (l := s.bs.length) (n := 4) (by decide); omega
    have hlen : (s.app (List.replicate j 0)).bs.length = s.bs.length + j := by rw [St.app_ok hno]; simp
    have hno' : (s.app (List.replicate j 0)).no = false := by rw [St.app_no, hno]
    have hjl : s.bs.length + j ≤ 1048576 := by omega
    go_wp2_with fail
    refine (closed_any B G _ _ hP (by rw [hlen]; omega)).mono ?_
    rintro e u ⟨rfl, rfl⟩
    rw [hno']
    have hP' := hP
    obtain ⟨h1, h2, h3, vb, vm, h4, h6, h5⟩ := hP'
    obtain ⟨c0, c1, c2, c3, f0, f1, f2, f3⟩ := h4.cells
    rw [hlen] at c1
    clear h1 h2 h3 h4 h6 h5 c0 c2 c3 f0 f1 f2 f3
    obtain ⟨L, hL⟩ : ∃ L, s.bs.length + j = L := ⟨_, rfl⟩
    rw [hL] at hj hlen c1 hjl
    obtain ⟨r, hr⟩ : ∃ r, L % 4 = r := ⟨_, rfl⟩
    have hrem : (L : Int).tmod 4 = (r : Int) := by rw [show (4 : Int) = ((4 : Nat) : Int) from rfl, ← Int.ofNat_tmod, hr]
    have HJ : Hid (j + padN L 4 = padN s.bs.length 4) := hj
    have HR : Hid (L % 4 = r) := hr
    have HL : Hid (s.bs.length + j = L) := hL
    have HLN : Hid ((s.app (List.replicate j 0)).bs.length = L) := hlen
    have HLB : Hid (r ≠ 0 → L + 1 ≤ 1048576) := by show r ≠ 0 → L + 1 ≤ 1048576; omega
    clear hj hr hL hlen hno'
    by_cases hr0 : r = 0
    · subst hr0
      go_wp2
      go_end0
      refine ⟨rfl, ?_, hK⟩
      have e := HJ.out
      rw [padN_zero (by decide) HR.out] at e
      rw [← e]
      exact hP
    · have hr1 : ((r : Int) != 0) = true := by simp; omega
      go_wp2_with fail
      have hrb := rb_new wr 5 [0] #[Value.int IntKind.u8 0] (by simp [Y]) (Byt.mk (by decide) Byt.nil) (by simp [maxLen])
      refine (put_any B G _ (some ⟨wr.heap.size, 0, none⟩) 1 [0] _ (hP.al _) hrb (by rw [HLN.out]; exact HLB.out hr0)).mono ?_
      rintro e u ⟨rfl, hP2, hK2⟩
      have hP3 : Pc u B G (s.app (List.replicate (j + 1) 0)) := by
        rw [St.app_app] at hP2
        rw [List.replicate_succ']
        exact hP2
      have hK3 : Keep G w u := hK.trans ((hP.kal _).trans hK2)
      have e1 : hereOf B u = L + 1 := by rw [hP3.hereOf, St.app_ok hno]; have := HL.out; simp; omega
      have e2 : hereOf B wr = L := by rw [hP.hereOf, HLN.out]
      clear hP2 hK2
      go_wp2
      go_roundw
      case rel =>
        refine ⟨j + 1, ?_, hP3, hK3⟩
        have e := HJ.out
        rw [padN_succ (by decide) (by rw [HR.out]; exact hr0)] at e
        rw [← Nat.add_assoc, HL.out]
        omega
      case measure => rw [e1, e2]; omega

set_option maxHeartbeats 500000 in
set_option maxRecDepth 100000 in
/-- A place of a page that is too long. -/
theorem now_l (B : Nat) (G : Nat → Prop) (ws : List Int) (mk : Int) (w : World) (h : Pl w B G ws) (hmk : I64 mk) (hw : mk ∈ ws) :
    Calls Try.prog 30 #[pg B, .int .i64 mk, .int .i64 0] w fun e w' => e = .returned (.tuple #[]) ∧ Pl w' B G (ws.filter (fun x => decide (x ≠ mk))) ∧ Keep G w w' := by
  have hP := h
  obtain ⟨h1, h2, h3, n, vm, k1, k2, h4, h5⟩ := h
  have hkey : keyOf Try.prog 3 (.int .i64 mk) = some (.int .i64 mk) := keyOf_int_mk Try.underlying3 (wf64 hmk)
  obtain ⟨m1, m2⟩ := hmk
  obtain ⟨c0, c1, c2, c3, f0, f1, f2, f3⟩ := h4.cells
  have hK1 : Keep G w (w.alloc (.cells #[] 70)) := Keep.of_below (bl1 _) h1
  have h41 := h4.below (bl1 (.cells #[] 70))
  have c10 := h41.cells.1
  have c11 := h41.cells.2.1
  have c12 := h41.cells.2.2.1
  rcases h5 with ⟨rfl, hws⟩ | ⟨m, D, rfl, hmG, hown, hhas, hsize⟩
  · rw [hws] at hw
    cases hw
  have hh : Maps.has D (.int .i64 mk) = true := by rw [hhas]; simp [hw]
  have hown1 := hown.alloc (.cells #[] 70)
  have HHA : Hid (∀ x : Int, Maps.has D (.int .i64 x) = decide (x ∈ ws)) := hhas
  have HSI : Hid (Maps.size D = ws.length) := hsize
  have HND : Hid ws.Nodup := h3
  have HW : Hid (mk ∈ ws) := hw
  have HLS : Hid (_) := length_less h3 hw
  have HG1 : Hid (∀ k, G k → k < w.heap.size) := h1
  have htd : Hid (Tidy D) := hown.tidy keyI
  have g1 : ¬ ((n : Int) < 0) := by omega
  have g2 : ¬ ((n : Int) ≤ 1048576) := by omega
  clear hhas hsize h3 hw h1 hP h4
  go_enter Try.func30, Try.ntmps30
  go_wp2_with (first
    | (at_lookup; refine wpList_lookup_own_unit _ rfl _ _ 54 rfl 3 70 keyI Try.underlying54 (zeroU _) m _ D rfl hown _ _ rfl hkey ?_; rw [hh])
    | (at_delete; refine wpList_delete_own _ rfl _ _ 54 3 rfl 70 keyI Try.underlying54 _ m _ D rfl hown1 _ _ rfl hkey ?_)
    | fail)
  intro w2 hown2 hturn2
  have hgr2 := hturn2.grown
  have hmB : B ≠ m := by
    rintro rfl
    obtain ⟨es, ck, hb, _⟩ := hown1
    exact h41.no_map _ _ hb
  have hQ2 : Bx4 w2 B (.slice none 0 0) (.int .i64 (n : Int)) (.map (some m)) (.bool false) := (hgr2.block B h41.lt (by simpa using hmB)).trans h41
  have hK2 : Keep G w w2 := hK1.grown hgr2 (fun k hk => Nat.lt_of_lt_of_le (HG1.out k hk) hK1.size) (fun k e => by cases e; exact hmG)
  have e20 := hQ2.cells.1
  have e21 := hQ2.cells.2.1
  clear hgr2 hturn2 c10 c11 c12 c2 h41 hown1 hh hK1 hown
  go_wp2
  go_end0
  have hown3 := ownsMap_tight hown2
  have hsz := size_less htd.out HHA.out HSI.out HND.out HW.out
  rw [hsz] at hown3
  exact ⟨rfl, ⟨fun k hk => Nat.lt_of_lt_of_le (HG1.out k hk) hK2.size, h2, HND.out.filter _, n, .map (some m), k1, k2, hQ2, .inr ⟨m, _, rfl, hmG, hown3, has_less HHA.out, hsz⟩⟩, hK2⟩

set_option maxHeartbeats 1000000 in
set_option maxRecDepth 100000 in
theorem all_l (B : Nat) (G : Nat → Prop) (w : World) (h : Pl w B G []) :
    Calls Try.prog 33 #[pg B] w fun e w' => e = .returned (.tuple #[.slice none 0 0, .int .i64 3]) ∧ w = w' := by
  obtain ⟨h1, h2, h3, n, vm, k1, k2, h4, h5⟩ := h
  obtain ⟨c0, c1, c2, c3, f0, f1, f2, f3⟩ := h4.cells
  have g : (1048576 : Int) < (n : Int) := by omega
  rcases h5 with ⟨rfl, _⟩ | ⟨m, D, rfl, hmG, hown, hhas, hsize⟩
  · clear h1 h2 h3 h4
    have hlen := fun (w : World) ty => Maps.len_nil (w := w) Try.underlying54 ty
    go_enter Try.func33, Try.ntmps33
    go_wp2
    go_ret2
    exact ⟨rfl, rfl⟩
  · have hs0 : Maps.size D = 0 := by simpa using hsize
    clear h1 h2 h3 h4 hhas hsize
    go_enter Try.func33, Try.ntmps33
    go_wp2_with (first | (at_len; refine wpList_len_own _ rfl _ 54 rfl 3 70 Try.underlying54 _ m _ D rfl hown ?_; rw [hs0]) | go_in)
    go_ret2
    exact ⟨rfl, rfl⟩

end Go.Proofs.Ytijehnfadpoapaa
