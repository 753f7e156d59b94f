/-
  (place.mover).move: the walk.
  (place.mover).anchor: the walk.
  Rows of bools that are read.
  classes.Mark, place, foundryref19.Mark, place: the walks.
  classes.Next: the walk.
-/
import Derived.Test.YtchdoakoelfenaaGreatZX19
import Derived.Test.YtchdoakoelfenaaGreatZX3
import Derived.Test.YtchdoakoelfenaaGreatZX1
import Derived.Test.YtchdoakoelfenaaGreatZX4
import Derived.WalkSmall
namespace Go.Proofs.YtchdoakoelfenaaGreat
open Go.RowKit Go.Maps
set_option linter.unusedSimpArgs false
set_option linter.unusedVariables false

/-- One field of a glyph of a row of the call's own. -/
theorem Ln.fx {base : Nat} {w : World} {g n c : Nat} {P : List Pd} {k : Nat} (h : Ln base w (.slice (some ⟨g, 0, none⟩) n c) P) (hk : k < P.length) {q : Pd} (hq : P.getD k Pd.none = q) : (∀ x, I64 x → Ln base (w.setCell ⟨g, k * 4 + 1, none⟩ (.int .i64 x)) (.slice (some ⟨g, 0, none⟩) n c) (P.set k ⟨q.g, x, q.y, q.a⟩)) ∧ w.frozen? ⟨g, k * 4 + 1, none⟩ = false ∧ w.cell? ⟨g, k * 4 + 1, none⟩ = some (.int .i64 q.x) := by
  obtain ⟨-, h1, -, -, hf, -, -, h2, -, -⟩ := h.at hk
  rw [hq] at h1 h2
  exact ⟨h1, hf _, h2⟩
theorem Ln.fy {base : Nat} {w : World} {g n c : Nat} {P : List Pd} {k : Nat} (h : Ln base w (.slice (some ⟨g, 0, none⟩) n c) P) (hk : k < P.length) {q : Pd} (hq : P.getD k Pd.none = q) : (∀ x, I64 x → Ln base (w.setCell ⟨g, k * 4 + 2, none⟩ (.int .i64 x)) (.slice (some ⟨g, 0, none⟩) n c) (P.set k ⟨q.g, q.x, x, q.a⟩)) ∧ w.frozen? ⟨g, k * 4 + 2, none⟩ = false ∧ w.cell? ⟨g, k * 4 + 2, none⟩ = some (.int .i64 q.y) := by
  obtain ⟨-, -, h1, -, hf, -, -, -, h2, -⟩ := h.at hk
  rw [hq] at h1 h2
  exact ⟨h1, hf _, h2⟩
theorem Ln.fa {base : Nat} {w : World} {g n c : Nat} {P : List Pd} {k : Nat} (h : Ln base w (.slice (some ⟨g, 0, none⟩) n c) P) (hk : k < P.length) {q : Pd} (hq : P.getD k Pd.none = q) : (∀ x, I64 x → Ln base (w.setCell ⟨g, k * 4 + 3, none⟩ (.int .i64 x)) (.slice (some ⟨g, 0, none⟩) n c) (P.set k ⟨q.g, q.x, q.y, x⟩)) ∧ w.frozen? ⟨g, k * 4 + 3, none⟩ = false ∧ w.cell? ⟨g, k * 4 + 3, none⟩ = some (.int .i64 q.a) := by
  obtain ⟨-, -, -, h1, hf, -, -, -, -, h2⟩ := h.at hk
  rw [hq] at h1 h2
  exact ⟨h1, hf _, h2⟩

set_option maxHeartbeats 8000000 in
set_option maxRecDepth 100000 in
theorem mmove_any (ga : Option Addr) (gc : Nat) (ma : Option Addr) (mc : Nat) (s : Sr) (ka : Option Addr) (kc : Nat) (ms : List Bool) (pa : Option Addr) (pc : Nat) (cs : List Int) (lb lc : Nat) (na : Option Addr) (nn nc : Nat) (P : List Pd) (base i : Nat) (n0 n1 n2 : Int) (w : World) (hL : Ln base w (.slice (some ⟨lb, 0, none⟩) P.length lc) P) (hi : i < P.length) (q : Pd) (hq : P.getD i Pd.none = q) :
    Calls Tryz.prog 36 #[.agg #[.slice ga s.rg.length gc, .slice ma s.rw.length mc, .slice ka ms.length kc, .slice pa cs.length pc, .slice (some ⟨lb, 0, none⟩) P.length lc, .slice na nn nc], .int .i64 (i : Int), .agg #[.int .i64 n0, .int .i64 n1, .int .i64 n2]] w fun e w' => e = .returned (.tuple #[]) ∧ Ln base w' (.slice (some ⟨lb, 0, none⟩) P.length lc) (P.set i ⟨q.g, w6 (q.x + n0), w6 (q.y + n1), w6 (q.a + n2)⟩) ∧ Kp lb w w' := by
  have hlb : lb < w.heap.size := (Ln.lo hL (g := lb) rfl).2
  have kl := (show _ from hL.slice.choose_spec.choose_spec.2.1).lenB
  obtain ⟨W, hW, X1, X2, hbW⟩ : ∃ W, W = (w.alloc (.cells #[.slice ga s.rg.length gc, .slice ma s.rw.length mc, .slice ka ms.length kc, .slice pa cs.length pc, .slice (some ⟨lb, 0, none⟩) P.length lc, .slice na nn nc] 61)).alloc (.cells #[.int .i64 n0, .int .i64 n1, .int .i64 n2] 79) ∧ Bk 61 W w.heap.size [.slice ga s.rg.length gc, .slice ma s.rw.length mc, .slice ka ms.length kc, .slice pa cs.length pc, .slice (some ⟨lb, 0, none⟩) P.length lc, .slice na nn nc] ∧ Bk 79 W (w.heap.size + 1) [.int .i64 n0, .int .i64 n1, .int .i64 n2] ∧ Below w.heap.size w W := by
    obtain ⟨h1, h2, h3⟩ := new2B w 61 79 [.slice ga s.rg.length gc, .slice ma s.rw.length mc, .slice ka ms.length kc, .slice pa cs.length pc, .slice (some ⟨lb, 0, none⟩) P.length lc, .slice na nn nc] [.int .i64 n0, .int .i64 n1, .int .i64 n2]
    exact ⟨_, rfl, h1, h2, h3⟩
  obtain ⟨m0, m1, m2, m3, m4, m5⟩ := X1.six21
  obtain ⟨⟨c0, c1, c2⟩, -⟩ := X2.three3
  have HLW : Hid (Ln base W (.slice (some ⟨lb, 0, none⟩) P.length lc) P) := hL.below hbW
  have HKW : Hid (Kp lb w W) := Kp.of hbW
  have i1 : (0 : Int) ≤ (i : Int) := by omega
  have i2 : (i : Int) < (P.length : Int) := by omega
  have hl2 : lb ≠ w.heap.size + 1 := by omega
  have HPL : Hid (∀ p : Pd, (P.set i p).getD i Pd.none = p) := fun p => get_set4 hi p
  have HPS : Hid (∀ p r : Pd, (P.set i p).set i r = P.set i r) := fun p r => List.set_set ..
  have HLN : Hid (∀ p : Pd, i < (P.set i p).length) := fun p => by rw [List.length_set]; exact hi
  have HLB : Hid (lb < W.heap.size) := by have := hbW.size; show _ < _; omega
  have HCB : Hid (w.heap.size + 1 < W.heap.size) := X2.lt
  clear hL X1 X2
  go_enter Tryz.func36, Tryz.ntmps36
  go_upto_region 2 with fail
  rw [← hW]
  clear hW m0 m1 m2 m3 m4 m5 hbW
  obtain ⟨Y0, hY0⟩ : ∃ Y, Y = W := ⟨_, rfl⟩
  have HL0 : Hid (Ln base Y0 (.slice (some ⟨lb, 0, none⟩) P.length lc) P) := by rw [hY0]; exact HLW.out
  have HK0 : Hid (Kp lb w Y0) := by rw [hY0]; exact HKW.out
  have HB0 : Hid (lb < Y0.heap.size ∧ w.heap.size + 1 < Y0.heap.size) := by rw [hY0]; exact ⟨HLB.out, HCB.out⟩
  rw [← hY0] at c0 c1 c2 ⊢
  clear hY0 HLW HKW HLB HCB
  have hdr : Below Y0.heap.size Y0 Y0.drew := (Below.refl _ _).drew
  have HLZ : Hid (Ln base Y0.drew (.slice (some ⟨lb, 0, none⟩) P.length lc) P) := HL0.out.below hdr
  have HKZ : Hid (Kp lb w Y0.drew) := HK0.out.trans (Kp.of hdr)
  have HBZ : Hid (lb < Y0.drew.heap.size ∧ w.heap.size + 1 < Y0.drew.heap.size) := ⟨Nat.lt_of_lt_of_le HB0.out.1 hdr.size, Nat.lt_of_lt_of_le HB0.out.2 hdr.size⟩
  replace c1 := (hdr.cell (p := ⟨w.heap.size + 1, 1, none⟩) HB0.out.2).trans c1
  replace c2 := (hdr.cell (p := ⟨w.heap.size + 1, 2, none⟩) HB0.out.2).trans c2
  refine wp_region_held_drew (S := fun u => u.cell? ⟨w.heap.size + 1, 0, none⟩ = some (.int .i64 n0)) (by kernel_rfl) c0 (fun hHeld => ?_)
  clear HL0 HK0 HB0 hdr c0
  generalize Y0.drew = Z0 at hHeld HLZ HKZ HBZ c1 c2 ⊢
  obtain ⟨hs, hf, hx⟩ := Ln.fx HLZ.out hi hq
  skip
  skip
  refine hT 0 hHeld ?_
  refine hT 1 hHeld ?_
  refine hT 2 hHeld ?_
  refine hT 4 hHeld ?_
  refine hT 5 hHeld ?_
  refine hCall (i := 3) rfl (by kernel_rfl) (by rfl) (fun K hK => ?_)
  go_simp
  refine hK.out _ _ hHeld (fun hHeld => ?_)
  clear hK K
  try simp only [Act.put, List.setIfInBounds_toArray, List.set_cons_zero, List.set_cons_succ]
  refine hT 6 hHeld ?_
  refine hT 7 hHeld ?_
  refine hT 8 hHeld ?_
  have HS0 : Hid (Ln base (Z0.setCell ⟨lb, i * 4 + 1, none⟩ (.int .i64 (w6 (q.x + n0)))) (.slice (some ⟨lb, 0, none⟩) P.length lc) (P.set i (⟨q.g, w6 (q.x + n0), q.y, q.a⟩ : Pd))) := hs _ (w6_in _)
  have HK1 : Hid (Kp lb w (Z0.setCell ⟨lb, i * 4 + 1, none⟩ (.int .i64 (w6 (q.x + n0))))) := HKZ.out.setCell _ _
  have HB1 : Hid (lb < (Z0.setCell ⟨lb, i * 4 + 1, none⟩ (.int .i64 (w6 (q.x + n0)))).heap.size ∧ w.heap.size + 1 < (Z0.setCell ⟨lb, i * 4 + 1, none⟩ (.int .i64 (w6 (q.x + n0)))).heap.size) := by
    show _ ∧ _
    rw [show (Z0.setCell ⟨lb, i * 4 + 1, none⟩ (.int .i64 (w6 (q.x + n0)))).heap.size = Z0.heap.size by simp [World.setCell]]
    exact HBZ.out
  replace c1 := (World.cell?_setCell_other Z0 ⟨lb, i * 4 + 1, none⟩ ⟨w.heap.size + 1, 1, none⟩ (.int .i64 (w6 (q.x + n0))) (fun e => hl2 (congrArg Addr.block e))).trans c1
  replace c2 := (World.cell?_setCell_other Z0 ⟨lb, i * 4 + 1, none⟩ ⟨w.heap.size + 1, 2, none⟩ (.int .i64 (w6 (q.x + n0))) (fun e => hl2 (congrArg Addr.block e))).trans c2
  refine hCall (i := 9) rfl (by kernel_rfl) (by rfl) (fun K hK => ?_)
  go_simp
  rw [w6_eq]
  refine hK.out _ _ ((World.cell?_setCell_other Z0 ⟨lb, i * 4 + 1, none⟩ ⟨w.heap.size + 1, 0, none⟩ (.int .i64 (w6 (q.x + n0))) (fun e => hl2 (congrArg Addr.block e))).trans hHeld) (fun hHeld => ?_)
  clear hK K
  try simp only [Act.put, List.setIfInBounds_toArray, List.set_cons_zero, List.set_cons_succ]
  refine wpAnyH_done (by kernel_rfl) ?_ _
  clear hHeld hs hf hx HLZ HKZ HBZ
  try rw [w6_eq]
  
  obtain ⟨A0, hA0⟩ : ∃ A, w6 (q.x + n0) = A := ⟨_, rfl⟩
  have HA0 : Hid (w6 (q.x + n0) = A0) := hA0
  rw [hA0] at HS0 HK1 HB1 c1 c2 ⊢
  clear hA0
  obtain ⟨Y1, hY⟩ : ∃ Y, Y = Z0.setCell ⟨lb, i * 4 + 1, none⟩ (.int .i64 A0) := ⟨_, rfl⟩
  rw [← hY] at HS0 HK1 HB1 c1 c2 ⊢
  clear hY
  have HL1 : Hid (Ln base Y1 (.slice (some ⟨lb, 0, none⟩) P.length lc) (P.set i (⟨q.g, A0, q.y, q.a⟩ : Pd))) := HS0.out
  clear HS0
  go_upto_region 3 with fail
  have hdr : Below Y1.heap.size Y1 Y1.drew := (Below.refl _ _).drew
  have HLZ : Hid (Ln base Y1.drew (.slice (some ⟨lb, 0, none⟩) P.length lc) (P.set i (⟨q.g, A0, q.y, q.a⟩ : Pd))) := HL1.out.below hdr
  have HKZ : Hid (Kp lb w Y1.drew) := HK1.out.trans (Kp.of hdr)
  have HBZ : Hid (lb < Y1.drew.heap.size ∧ w.heap.size + 1 < Y1.drew.heap.size) := ⟨Nat.lt_of_lt_of_le HB1.out.1 hdr.size, Nat.lt_of_lt_of_le HB1.out.2 hdr.size⟩
  replace c2 := (hdr.cell (p := ⟨w.heap.size + 1, 2, none⟩) HB1.out.2).trans c2
  refine wp_region_held_drew (S := fun u => u.cell? ⟨w.heap.size + 1, 1, none⟩ = some (.int .i64 n1)) (by kernel_rfl) c1 (fun hHeld => ?_)
  clear HL1 HK1 HB1 hdr c1
  generalize Y1.drew = Z1 at hHeld HLZ HKZ HBZ c2 ⊢
  obtain ⟨hs, hf, hx⟩ := Ln.fy HLZ.out (HLN.out _) (HPL.out _)
  dsimp only at hs hx
  skip
  refine hT 0 hHeld ?_
  refine hT 1 hHeld ?_
  refine hT 2 hHeld ?_
  refine hT 4 hHeld ?_
  refine hT 5 hHeld ?_
  refine hCall (i := 3) rfl (by kernel_rfl) (by rfl) (fun K hK => ?_)
  go_simp
  refine hK.out _ _ hHeld (fun hHeld => ?_)
  clear hK K
  try simp only [Act.put, List.setIfInBounds_toArray, List.set_cons_zero, List.set_cons_succ]
  refine hT 6 hHeld ?_
  refine hT 7 hHeld ?_
  refine hT 8 hHeld ?_
  have HS1 : Hid (Ln base (Z1.setCell ⟨lb, i * 4 + 2, none⟩ (.int .i64 (w6 (q.y + n1)))) (.slice (some ⟨lb, 0, none⟩) P.length lc) ((P.set i (⟨q.g, A0, q.y, q.a⟩ : Pd)).set i (⟨q.g, A0, w6 (q.y + n1), q.a⟩ : Pd))) := hs _ (w6_in _)
  have HK2 : Hid (Kp lb w (Z1.setCell ⟨lb, i * 4 + 2, none⟩ (.int .i64 (w6 (q.y + n1))))) := HKZ.out.setCell _ _
  have HB2 : Hid (lb < (Z1.setCell ⟨lb, i * 4 + 2, none⟩ (.int .i64 (w6 (q.y + n1)))).heap.size ∧ w.heap.size + 1 < (Z1.setCell ⟨lb, i * 4 + 2, none⟩ (.int .i64 (w6 (q.y + n1)))).heap.size) := by
    show _ ∧ _
    rw [show (Z1.setCell ⟨lb, i * 4 + 2, none⟩ (.int .i64 (w6 (q.y + n1)))).heap.size = Z1.heap.size by simp [World.setCell]]
    exact HBZ.out
  replace c2 := (World.cell?_setCell_other Z1 ⟨lb, i * 4 + 2, none⟩ ⟨w.heap.size + 1, 2, none⟩ (.int .i64 (w6 (q.y + n1))) (fun e => hl2 (congrArg Addr.block e))).trans c2
  refine hCall (i := 9) rfl (by kernel_rfl) (by rfl) (fun K hK => ?_)
  go_simp
  rw [w6_eq]
  refine hK.out _ _ ((World.cell?_setCell_other Z1 ⟨lb, i * 4 + 2, none⟩ ⟨w.heap.size + 1, 1, none⟩ (.int .i64 (w6 (q.y + n1))) (fun e => hl2 (congrArg Addr.block e))).trans hHeld) (fun hHeld => ?_)
  clear hK K
  try simp only [Act.put, List.setIfInBounds_toArray, List.set_cons_zero, List.set_cons_succ]
  refine wpAnyH_done (by kernel_rfl) ?_ _
  clear hHeld hs hf hx HLZ HKZ HBZ
  try rw [w6_eq]
  rw [HPS.out] at HS1
  obtain ⟨A1, hA1⟩ : ∃ A, w6 (q.y + n1) = A := ⟨_, rfl⟩
  have HA1 : Hid (w6 (q.y + n1) = A1) := hA1
  rw [hA1] at HS1 HK2 HB2 c2 ⊢
  clear hA1
  obtain ⟨Y2, hY⟩ : ∃ Y, Y = Z1.setCell ⟨lb, i * 4 + 2, none⟩ (.int .i64 A1) := ⟨_, rfl⟩
  rw [← hY] at HS1 HK2 HB2 c2 ⊢
  clear hY
  have HL2 : Hid (Ln base Y2 (.slice (some ⟨lb, 0, none⟩) P.length lc) (P.set i (⟨q.g, A0, A1, q.a⟩ : Pd))) := HS1.out
  clear HS1
  go_upto_region 4 with fail
  have hdr : Below Y2.heap.size Y2 Y2.drew := (Below.refl _ _).drew
  have HLZ : Hid (Ln base Y2.drew (.slice (some ⟨lb, 0, none⟩) P.length lc) (P.set i (⟨q.g, A0, A1, q.a⟩ : Pd))) := HL2.out.below hdr
  have HKZ : Hid (Kp lb w Y2.drew) := HK2.out.trans (Kp.of hdr)
  have HBZ : Hid (lb < Y2.drew.heap.size ∧ w.heap.size + 1 < Y2.drew.heap.size) := ⟨Nat.lt_of_lt_of_le HB2.out.1 hdr.size, Nat.lt_of_lt_of_le HB2.out.2 hdr.size⟩
  refine wp_region_held_drew (S := fun u => u.cell? ⟨w.heap.size + 1, 2, none⟩ = some (.int .i64 n2)) (by kernel_rfl) c2 (fun hHeld => ?_)
  clear HL2 HK2 HB2 hdr c2
  generalize Y2.drew = Z2 at hHeld HLZ HKZ HBZ  ⊢
  obtain ⟨hs, hf, hx⟩ := Ln.fa HLZ.out (HLN.out _) (HPL.out _)
  dsimp only at hs hx
  skip
  refine hT 0 hHeld ?_
  refine hT 1 hHeld ?_
  refine hT 2 hHeld ?_
  refine hT 4 hHeld ?_
  refine hT 5 hHeld ?_
  refine hCall (i := 3) rfl (by kernel_rfl) (by rfl) (fun K hK => ?_)
  go_simp
  refine hK.out _ _ hHeld (fun hHeld => ?_)
  clear hK K
  try simp only [Act.put, List.setIfInBounds_toArray, List.set_cons_zero, List.set_cons_succ]
  refine hT 6 hHeld ?_
  refine hT 7 hHeld ?_
  refine hT 8 hHeld ?_
  have HS2 : Hid (Ln base (Z2.setCell ⟨lb, i * 4 + 3, none⟩ (.int .i64 (w6 (q.a + n2)))) (.slice (some ⟨lb, 0, none⟩) P.length lc) ((P.set i (⟨q.g, A0, A1, q.a⟩ : Pd)).set i (⟨q.g, A0, A1, w6 (q.a + n2)⟩ : Pd))) := hs _ (w6_in _)
  have HK3 : Hid (Kp lb w (Z2.setCell ⟨lb, i * 4 + 3, none⟩ (.int .i64 (w6 (q.a + n2))))) := HKZ.out.setCell _ _
  have HB3 : Hid (lb < (Z2.setCell ⟨lb, i * 4 + 3, none⟩ (.int .i64 (w6 (q.a + n2)))).heap.size ∧ w.heap.size + 1 < (Z2.setCell ⟨lb, i * 4 + 3, none⟩ (.int .i64 (w6 (q.a + n2)))).heap.size) := by
    show _ ∧ _
    rw [show (Z2.setCell ⟨lb, i * 4 + 3, none⟩ (.int .i64 (w6 (q.a + n2)))).heap.size = Z2.heap.size by simp [World.setCell]]
    exact HBZ.out
  refine hCall (i := 9) rfl (by kernel_rfl) (by rfl) (fun K hK => ?_)
  go_simp
  rw [w6_eq]
  refine hK.out _ _ ((World.cell?_setCell_other Z2 ⟨lb, i * 4 + 3, none⟩ ⟨w.heap.size + 1, 2, none⟩ (.int .i64 (w6 (q.a + n2))) (fun e => hl2 (congrArg Addr.block e))).trans hHeld) (fun hHeld => ?_)
  clear hK K
  try simp only [Act.put, List.setIfInBounds_toArray, List.set_cons_zero, List.set_cons_succ]
  refine wpAnyH_done (by kernel_rfl) ?_ _
  clear hHeld hs hf hx HLZ HKZ HBZ
  try rw [w6_eq]
  rw [HPS.out] at HS2
  obtain ⟨A2, hA2⟩ : ∃ A, w6 (q.a + n2) = A := ⟨_, rfl⟩
  have HA2 : Hid (w6 (q.a + n2) = A2) := hA2
  rw [hA2] at HS2 HK3 HB3  ⊢
  clear hA2
  obtain ⟨Y3, hY⟩ : ∃ Y, Y = Z2.setCell ⟨lb, i * 4 + 3, none⟩ (.int .i64 A2) := ⟨_, rfl⟩
  rw [← hY] at HS2 HK3 HB3  ⊢
  clear hY
  have HL3 : Hid (Ln base Y3 (.slice (some ⟨lb, 0, none⟩) P.length lc) (P.set i (⟨q.g, A0, A1, A2⟩ : Pd))) := HS2.out
  clear HS2
  go_wp2
  (try simp only [Exit.inBlock, Exit.then])
  refine bodyPost_end (results_none rfl _ _ _) rfl ?_
  rw [HA0.out, HA1.out, HA2.out]
  exact ⟨rfl, HL3.out, HK3.out⟩

end Go.Proofs.YtchdoakoelfenaaGreat

namespace Go.Proofs.YtchdoakoelfenaaGreat
open Go.RowKit Go.Maps
set_option linter.unusedSimpArgs false
set_option linter.unusedVariables false

set_option maxHeartbeats 8000000 in
set_option maxRecDepth 100000 in
theorem manchor_any (ga : Option Addr) (gc : Nat) (ma : Option Addr) (mc : Nat) (s : Sr) (ka : Option Addr) (kc : Nat) (ms : List Bool) (pa : Option Addr) (pc : Nat) (cs : List Int) (lb lc : Nat) (na : Option Addr) (nn nc : Nat) (P : List Pd) (base i b : Nat) (n0 n1 n2 : Int) (w : World) (hL : Ln base w (.slice (some ⟨lb, 0, none⟩) P.length lc) P) (hi : i < P.length) (hbi : b < i) (q p : Pd) (hq : P.getD i Pd.none = q) (hp : P.getD b Pd.none = p) :
    Calls Tryz.prog 35 #[.agg #[.slice ga s.rg.length gc, .slice ma s.rw.length mc, .slice ka ms.length kc, .slice pa cs.length pc, .slice (some ⟨lb, 0, none⟩) P.length lc, .slice na nn nc], .int .i64 (i : Int), .int .i64 (b : Int), .agg #[.int .i64 n0, .int .i64 n1, .int .i64 n2]] w fun e w' => e = .returned (.tuple #[]) ∧ Ln base w' (.slice (some ⟨lb, 0, none⟩) P.length lc) (P.set i ⟨q.g, w6 (p.x + n0 - adS P b (i - b)), w6 (p.y + n1), q.a⟩) ∧ Kp lb w w' := by
  have hlb : lb < w.heap.size := (Ln.lo hL (g := lb) rfl).2
  obtain ⟨a', c', ea, hgr, -⟩ := hL.slice
  injection ea with e1 e2 e3
  subst e1 e3
  have kl := hgr.lenB
  have klc : P.length ≤ lc := hgr.1
  have klm : lc ≤ maxLen := hgr.2.1
  have HGR : Hid (Gr PdE (fun _ => False) w (some ⟨lb, 0, none⟩) lc P) := hgr
  obtain ⟨W0, hW0, hW1, hW2, hW3⟩ : ∃ W, W = (w.alloc (.cells #[.slice ga s.rg.length gc, .slice ma s.rw.length mc, .slice ka ms.length kc, .slice pa cs.length pc, .slice (some ⟨lb, 0, none⟩) P.length lc, .slice na nn nc] 61)).alloc (.cells #[.int .i64 n0, .int .i64 n1, .int .i64 n2] 79) ∧ Bk 61 W w.heap.size [.slice ga s.rg.length gc, .slice ma s.rw.length mc, .slice ka ms.length kc, .slice pa cs.length pc, .slice (some ⟨lb, 0, none⟩) P.length lc, .slice na nn nc] ∧ Bk 79 W (w.heap.size + 1) [.int .i64 n0, .int .i64 n1, .int .i64 n2] ∧ Below w.heap.size w W := by
    obtain ⟨h1, h2, h3⟩ := new2B w 61 79 [.slice ga s.rg.length gc, .slice ma s.rw.length mc, .slice ka ms.length kc, .slice pa cs.length pc, .slice (some ⟨lb, 0, none⟩) P.length lc, .slice na nn nc] [.int .i64 n0, .int .i64 n1, .int .i64 n2]
    exact ⟨_, rfl, h1, h2, h3⟩
  obtain ⟨b1, o1, e1, -, hpw, d0, d1, d2, d3⟩ := hgr.pd hW3 b (by omega)
  rw [hp] at hpw d0 d1 d2 d3
  cases e1
  simp only [Nat.zero_add] at d0 d1 d2 d3
  have HPW : Hid (PdW p) := hpw
  have hs0 : W0.heap.size = w.heap.size + 2 := by rw [hW0]; simp
  obtain ⟨m0, m1, m2, m3, m4, m5⟩ := hW1.six21
  have i1 : (0 : Int) ≤ (i : Int) := by omega
  have i2 : (i : Int) < (P.length : Int) := by omega
  have i3 : (0 : Int) ≤ (b : Int) := by omega
  have i4 : (b : Int) < (P.length : Int) := by omega
  obtain ⟨W, hW, X3, hbW⟩ : ∃ W, W = W0.alloc (.cells #[.int .i64 p.g, .int .i64 p.x, .int .i64 p.y, .int .i64 p.a] 54) ∧ Bk 54 W W0.heap.size (pdC p) ∧ Below W0.heap.size W0 W := ⟨_, rfl, Bk.new _ _ (pdC p), bl1 _⟩
  rw [hs0] at X3
  have X1 := hW1.below hbW
  have X2 := hW2.below hbW
  have hbw := hW3.trans (hbW.mono hW3.size)
  clear hW1 hW2
  go_enter Tryz.func35, Tryz.ntmps35
  go_upto_region 1 with fail
  rw [← hW0]
  clear hW0
  go_upto_region 2 with fail
  rw [← hW]
  clear hW m0 m1 m2 m3 m4 m5 d0 d1 d2 d3 hbW
  obtain ⟨m0, m1, m2, m3, m4, m5⟩ := X1.six21
  obtain ⟨⟨c0, c1, c2⟩, -⟩ := X2.three3
  have y0 : W.cell? ⟨w.heap.size + 2, 0, none⟩ = some (.int .i64 p.g) := X3.cell 0 (by simp [pdC])
  have y1 : W.cell? ⟨w.heap.size + 2, 1, none⟩ = some (.int .i64 p.x) := X3.cell 1 (by simp [pdC])
  have y2 : W.cell? ⟨w.heap.size + 2, 2, none⟩ = some (.int .i64 p.y) := X3.cell 2 (by simp [pdC])
  have y3 : W.cell? ⟨w.heap.size + 2, 3, none⟩ = some (.int .i64 p.a) := X3.cell 3 (by simp [pdC])
  have i5 : (b : Int) ≤ (i : Int) := by omega
  have i6 : (i : Int) ≤ (lc : Int) := by omega
  have i7 : (i : Int) - (b : Int) = ((i - b : Nat) : Int) := by omega
  clear hs0
  go_wp2
  rw [w6_64]
  have HFR : Hid (Gr PdE (fun _ => False) W (some ⟨lb, b * 4, none⟩) (lc - b) (P.drop b)) := by
    have h1 := (hgr.below hbw).from b (by omega)
    have e : 0 + b * PdE.sz = b * 4 := Nat.zero_add _
    rw [e] at h1
    exact h1
  have HFL : Hid (∀ k, k < i - b → k < (P.drop b).length ∧ (P.drop b).getD k Pd.none = P.getD (b + k) Pd.none) := fun k hk => ⟨by rw [List.length_drop]; omega, by rw [List.getD_eq_getElem?_getD, List.getElem?_drop, List.getD_eq_getElem?_getD]⟩
  have HX : Hid (Bk 61 W w.heap.size [.slice ga s.rg.length gc, .slice ma s.rw.length mc, .slice ka ms.length kc, .slice pa cs.length pc, .slice (some ⟨lb, 0, none⟩) P.length lc, .slice na nn nc] ∧ Bk 79 W (w.heap.size + 1) [.int .i64 n0, .int .i64 n1, .int .i64 n2] ∧ Bk 54 W (w.heap.size + 2) (pdC p)) := ⟨X1, X2, X3⟩
  have HLW : Hid (Ln base W (.slice (some ⟨lb, 0, none⟩) P.length lc) P) := hL.below hbw
  have HKW : Hid (Kp lb w W) := Kp.of hbw
  have hbW := hbw.size
  clear m0 m1 m2 m3 m4 m5 c0 c1 c2 y0 y1 y2 y3 X1 X2 X3 hgr hL hW3 hpw hbw i7 klc klm
  go_loopw [9, 28] (fun vx vi wr => ∃ k : Nat, k ≤ i - b ∧ vi = .int .i64 k ∧ vx = .int .i64 (w6 (p.x + n0 - adS P b k)) ∧ Below W.heap.size W wr) (fun _ vi _ => (i - b) - (intOf vi).toNat)
  case atStart => exact ⟨0, Nat.zero_le _, rfl, by rw [adS, Int.sub_zero], Below.refl _ _⟩
  case round =>
    obtain ⟨k, hk, rfl, rfl, hB⟩ := hrel
    by_cases hkn : k < i - b
    · obtain ⟨hk1, hk2⟩ := HFL.out k hkn
      obtain ⟨b1, o1, e1, hb1, hpw, d0, d1, d2, d3⟩ := HFR.out.pd hB k hk1
      rw [hk2] at hpw d0 d1 d2 d3
      injection e1 with e1
      injection e1 with e1 e2
      subst e1 e2
      have HAD : Hid (adS P b (k + 1) = adS P b k + (P.getD (b + k) Pd.none).a) := rfl
      generalize P.getD (b + k) Pd.none = r at hpw d0 d1 d2 d3 HAD
      generalize adS P b k = A0 at HAD ⊢
      have i8 : (0 : Int) ≤ (k : Int) := by omega
      have i9 : (k : Int) < ((i - b : Nat) : Int) := by omega
      obtain ⟨U, hU, XG, hbU⟩ : ∃ U, U = wr.alloc (.cells #[.int .i64 r.g, .int .i64 r.x, .int .i64 r.y, .int .i64 r.a] 54) ∧ Bk 54 U wr.heap.size [.int .i64 r.g, .int .i64 r.x, .int .i64 r.y, .int .i64 r.a] ∧ Below wr.heap.size wr U := ⟨_, rfl, Bk.new _ _ _, bl1 _⟩
      have hBU := hB.trans (hbU.mono hB.size)
      obtain ⟨y0, y1, y2, y3, -⟩ := XG.four
      obtain ⟨S, hS⟩ : ∃ S, w6 (p.x + n0 - A0) = S := ⟨_, rfl⟩
      have HSS : Hid (w6 (S - r.a) = w6 (p.x + n0 - adS P b (k + 1))) := by
        show _ = _
        rw [← hS, w6_sub, HAD.out]
        congr 1
        omega
      rw [hS]
      clear hk2 hS HAD hpw
      go_upto_region 6 with fail
      rw [← hU]
      clear hU d0 d1 d2 d3 XG hbU hB
      go_wp2
      go_roundw
      case rel => exact ⟨k + 1, by omega, by go_num, by rw [w6_64, HSS.out], hBU⟩
      case measure => simp [intOf]; omega
    · obtain rfl : k = i - b := by omega
      have g4 : ¬ ((i - b : Nat) : Int) < ((i - b : Nat) : Int) := by omega
      obtain ⟨X, hX⟩ : ∃ X, w6 (p.x + n0 - adS P b (i - b)) = X := ⟨_, rfl⟩
      have HXE : Hid (w6 (p.x + n0 - adS P b (i - b)) = X ∧ I64 X) := ⟨hX, by rw [← hX]; exact w6_in _⟩
      rw [hX]
      clear hX
      have hdr : Below wr.heap.size wr wr.drew := (Below.refl _ _).drew
      have hWZ := hB.trans (hdr.mono hB.size)
      have HLZ : Hid (Ln base wr.drew (.slice (some ⟨lb, 0, none⟩) P.length lc) P) := HLW.out.below hWZ
      have HKZ : Hid (Kp lb w wr.drew) := HKW.out.trans (Kp.of hWZ)
      have X1 := HX.out.1.below hWZ
      have X2 := HX.out.2.1.below hWZ
      have X3 := HX.out.2.2.below hWZ
      have m4 : wr.drew.cell? ⟨w.heap.size, 4, none⟩ = some (.slice (some ⟨lb, 0, none⟩) P.length lc) := X1.cell 4 (by simp)
      have c1 : wr.drew.cell? ⟨w.heap.size + 1, 1, none⟩ = some (.int .i64 n1) := X2.cell 1 (by simp)
      have y2 : wr.drew.cell? ⟨w.heap.size + 2, 2, none⟩ = some (.int .i64 p.y) := X3.cell 2 (by simp [pdC])
      have ne0 : lb ≠ w.heap.size := by omega
      have ne1 : lb ≠ w.heap.size + 1 := by omega
      have ne2 : lb ≠ w.heap.size + 2 := by omega
      have HQ2 : Hid (∀ r : Pd, (P.set i r).getD i Pd.none = r) := fun r => get_set4 hi r
      have HSS : Hid (∀ r t : Pd, (P.set i r).set i t = P.set i t) := fun r t => List.set_set ..
      have HSL : Hid (∀ r : Pd, i < (P.set i r).length) := fun r => by rw [List.length_set]; exact hi
      clear X1 X2 X3 HX HLW HKW HFR HFL
      go_upto_region 8 with fail
      refine wp_region_held_drew (S := fun u => u.cell? ⟨w.heap.size, 4, none⟩ = some (.slice (some ⟨lb, 0, none⟩) P.length lc) ∧ u.cell? ⟨w.heap.size + 1, 1, none⟩ = some (.int .i64 n1) ∧ u.cell? ⟨w.heap.size + 2, 2, none⟩ = some (.int .i64 p.y)) (by kernel_rfl) ⟨m4, c1, y2⟩ (fun hHeld => ?_)
      clear hB hdr hWZ m4 c1 y2
      generalize wr.drew = Z at hHeld HLZ HKZ ⊢
      obtain ⟨hs, hf, hx⟩ := Ln.fx HLZ.out hi hq
      have HL1 : Hid (Ln base (Z.setCell ⟨lb, i * 4 + 1, none⟩ (.int .i64 X)) (.slice (some ⟨lb, 0, none⟩) P.length lc) (P.set i ⟨q.g, X, q.y, q.a⟩)) := hs X HXE.out.2
      have HK1 : Hid (Kp lb w (Z.setCell ⟨lb, i * 4 + 1, none⟩ (.int .i64 X))) := HKZ.out.setCell _ _
      refine hT 0 hHeld ?_
      refine hT 1 hHeld ?_
      refine hT 2 hHeld ?_
      refine hT 3 hHeld ?_
      refine hT 4 hHeld ?_
      refine hT 5 hHeld ?_
      refine hT 6 hHeld ?_
      refine hT 7 hHeld ?_
      refine hT 8 hHeld ?_
      refine hT 9 hHeld ?_
      refine hT 10 hHeld ?_
      refine hT 11 hHeld ?_
      refine hT 12 hHeld ?_
      refine hT 13 hHeld ?_
      refine hCall (i := 14) rfl (by kernel_rfl) (by rfl) (fun K hK => ?_)
      go_simp
      have h2 : ∀ (b j : Nat) (v : Value), lb ≠ b → Z.cell? ⟨b, j, none⟩ = some v → (Z.setCell ⟨lb, i * 4 + 1, none⟩ (.int .i64 X)).cell? ⟨b, j, none⟩ = some v := fun b j v hne h => (World.cell?_setCell_other Z ⟨lb, i * 4 + 1, none⟩ ⟨b, j, none⟩ (.int .i64 X) (fun e => hne (congrArg Addr.block e))).trans h
      refine hK.out _ _ ⟨h2 _ _ _ ne0 hHeld.1, h2 _ _ _ ne1 hHeld.2.1, h2 _ _ _ ne2 hHeld.2.2⟩ (fun hHeld => ?_)
      clear hK K h2 hs hf hx HLZ HKZ
      try simp only [Act.put, List.setIfInBounds_toArray, List.set_cons_zero, List.set_cons_succ]
      obtain ⟨Y, hY⟩ : ∃ Y, Y = Z.setCell ⟨lb, i * 4 + 1, none⟩ (.int .i64 X) := ⟨_, rfl⟩
      rw [← hY] at HL1 HK1 hHeld ⊢
      clear hY
      obtain ⟨hs, hf, hx⟩ := Ln.fy HL1.out (HSL.out _) (HQ2.out _)
      dsimp only at hs hx
      have HL2 : Hid (Ln base (Y.setCell ⟨lb, i * 4 + 2, none⟩ (.int .i64 (w6 (p.y + n1)))) (.slice (some ⟨lb, 0, none⟩) P.length lc) (P.set i ⟨q.g, X, w6 (p.y + n1), q.a⟩)) := by have := hs (w6 (p.y + n1)) (w6_in _); rw [HSS.out] at this; exact this
      have HK2 : Hid (Kp lb w (Y.setCell ⟨lb, i * 4 + 2, none⟩ (.int .i64 (w6 (p.y + n1))))) := HK1.out.setCell _ _
      refine hT 15 hHeld ?_
      refine hT 16 hHeld ?_
      refine hCall (i := 17) rfl (by kernel_rfl) (by rfl) (fun K hK => ?_)
      go_simp
      rw [w6_eq]
      have h2 : ∀ (b j : Nat) (v : Value), lb ≠ b → Y.cell? ⟨b, j, none⟩ = some v → (Y.setCell ⟨lb, i * 4 + 2, none⟩ (.int .i64 (w6 (p.y + n1)))).cell? ⟨b, j, none⟩ = some v := fun b j v hne h => (World.cell?_setCell_other Y ⟨lb, i * 4 + 2, none⟩ ⟨b, j, none⟩ (.int .i64 (w6 (p.y + n1))) (fun e => hne (congrArg Addr.block e))).trans h
      refine hK.out _ _ ⟨h2 _ _ _ ne0 hHeld.1, h2 _ _ _ ne1 hHeld.2.1, h2 _ _ _ ne2 hHeld.2.2⟩ (fun hHeld => ?_)
      clear hK K h2 hs hf hx
      try simp only [Act.put, List.setIfInBounds_toArray, List.set_cons_zero, List.set_cons_succ]
      refine wpAnyH_done (by kernel_rfl) ?_ _
      clear hHeld HL1 HK1
      go_wp2
      (try simp only [Exit.inBlock, Exit.then])
      refine bodyPost_end (results_none rfl _ _ _) rfl ?_
      rw [HXE.out.1]
      exact ⟨rfl, HL2.out, HK2.out⟩

end Go.Proofs.YtchdoakoelfenaaGreat

namespace Go.Proofs.YtchdoakoelfenaaGreat
open Go.RowKit Go.Maps
set_option linter.unusedSimpArgs false
set_option linter.unusedVariables false

theorem Gr.bl {S : Nat → Prop} {w wr : World} {a : Option Addr} {cap : Nat} {ms : List Bool} (h : Gr El.bool S w a cap ms) (hb : Below w.heap.size w wr) (k : Nat) (hk : k < ms.length) :
    ∃ b off, a = some ⟨b, off, none⟩ ∧ b < w.heap.size ∧ wr.cell? ⟨b, off + k, none⟩ = some (.bool (ms.getD k false)) := by
  obtain ⟨b, off, vs, e, hl, hr, hc⟩ := h.at hb k hk
  have hv : vs = [.bool (ms.getD k false)] := hr
  have := hc 0 Nat.one_pos
  rw [hv, show k * El.bool.sz = k from Nat.mul_one k] at this
  exact ⟨b, off, e, hl, this⟩

end Go.Proofs.YtchdoakoelfenaaGreat

namespace Go.Proofs.YtchdoakoelfenaaGreat
open Go.RowKit Go.Maps
set_option linter.unusedSimpArgs false
set_option linter.unusedVariables false

theorem wrapi64y {z : Int} (h1 : -9223372036854775808 ≤ z) (h2 : z ≤ 9223372036854775807) : IntKind.i64.wrap z = z := by
  simp only [IntKind.wrap, IntKind.bits, IntKind.signed]
  simp
  omega

set_option maxHeartbeats 1000000 in
set_option maxRecDepth 100000 in
theorem cmark_any (S : Nat → Prop) (a : Option Addr) (ca : Nat) (ms : List Bool) (g : Int) (w : World) (hm : Gr El.bool S w a ca ms) (hg : I64 g) :
    Calls Tryz.prog 32 #[.slice a ms.length ca, .int .i64 g] w fun e w' => e = .returned (.bool (mkB ms g)) ∧ Below w.heap.size w w' := by
  have kl := hm.lenB
  obtain ⟨h1, h2⟩ := hg
  by_cases f1 : 0 ≤ g
  rotate_left
  · have d1 : decide (0 ≤ g) = false := decide_eq_false f1
    have HF : Hid (mkB ms g = false) := mkB_no (fun h => f1 h.1)
    clear f1 hm
    go_enter Tryz.func32, Tryz.ntmps32
    go_wp2
    go_ret
    exact ⟨rt_bool HF.out.symm, Below.refl _ _⟩
  by_cases f2 : g < (ms.length : Int)
  rotate_left
  · have d1 : decide (0 ≤ g) = true := decide_eq_true f1
    have d2 : decide (g < (ms.length : Int)) = false := decide_eq_false f2
    have HF : Hid (mkB ms g = false) := mkB_no (fun h => f2 h.2)
    clear f1 f2 hm
    go_enter Tryz.func32, Tryz.ntmps32
    go_wp2
    go_ret
    exact ⟨rt_bool HF.out.symm, Below.refl _ _⟩
  have HF : Hid (mkB ms g = ms.getD g.toNat false) := mkB_at f1 f2
  obtain ⟨k, rfl⟩ : ∃ k : Nat, g = (k : Int) := ⟨g.toNat, by omega⟩
  rw [Int.toNat_natCast] at HF
  have hk : k < ms.length := by omega
  obtain ⟨b, off, rfl, hb, c0⟩ := hm.bl (Below.refl _ _) k hk
  obtain ⟨q, hq⟩ : ∃ q, ms.getD k false = q := ⟨_, rfl⟩
  rw [hq] at c0 HF
  have d1 : decide ((0 : Int) ≤ (k : Int)) = true := decide_eq_true f1
  have d2 : decide ((k : Int) < (ms.length : Int)) = true := decide_eq_true f2
  have d2n : decide (k < ms.length) = true := decide_eq_true hk
  clear hq hm
  go_enter Tryz.func32, Tryz.ntmps32
  go_wp2
  go_ret
  exact ⟨rt_bool HF.out.symm, Below.refl _ _⟩

set_option maxHeartbeats 1000000 in
set_option maxRecDepth 100000 in
theorem smark_any (S : Nat → Prop) (a : Option Addr) (ca : Nat) (ms : List Bool) (g : Int) (w : World) (hm : Gr El.bool S w a ca ms) (hg : I64 g) :
    Calls Tryz.prog 26 #[.slice a ms.length ca, .int .i64 g] w fun e w' => e = .returned (.bool (mkB ms g)) ∧ Below w.heap.size w w' := by
  have kl := hm.lenB
  obtain ⟨h1, h2⟩ := hg
  by_cases f1 : g < 0
  · have d1 : decide (g < 0) = true := decide_eq_true f1
    have HF : Hid (mkB ms g = false) := mkB_no (fun h => by omega)
    clear f1 hm
    go_enter Tryz.func26, Tryz.ntmps26
    go_wp2
    go_ret
    exact ⟨rt_bool HF.out.symm, Below.refl _ _⟩
  by_cases f2 : (ms.length : Int) ≤ g
  · have d1 : decide (g < 0) = false := decide_eq_false f1
    have d2 : decide ((ms.length : Int) ≤ g) = true := decide_eq_true f2
    have HF : Hid (mkB ms g = false) := mkB_no (fun h => by omega)
    clear f1 f2 hm
    go_enter Tryz.func26, Tryz.ntmps26
    go_wp2
    go_ret
    exact ⟨rt_bool HF.out.symm, Below.refl _ _⟩
  have HF : Hid (mkB ms g = ms.getD g.toNat false) := mkB_at (by omega) (by omega)
  obtain ⟨k, rfl⟩ : ∃ k : Nat, g = (k : Int) := ⟨g.toNat, by omega⟩
  rw [Int.toNat_natCast] at HF
  have hk : k < ms.length := by omega
  obtain ⟨b, off, rfl, hb, c0⟩ := hm.bl (Below.refl _ _) k hk
  obtain ⟨q, hq⟩ : ∃ q, ms.getD k false = q := ⟨_, rfl⟩
  rw [hq] at c0 HF
  have d1 : decide ((k : Int) < 0) = false := decide_eq_false f1
  have d2 : decide ((ms.length : Int) ≤ (k : Int)) = false := decide_eq_false f2
  have d2n : decide (ms.length ≤ k) = false := decide_eq_false (by omega)
  have i1 : (0 : Int) ≤ (k : Int) := by omega
  have i2 : (k : Int) < (ms.length : Int) := by omega
  clear hq hm f1 f2
  go_enter Tryz.func26, Tryz.ntmps26
  go_wp2
  go_ret
  exact ⟨rt_bool HF.out.symm, Below.refl _ _⟩

set_option maxHeartbeats 1000000 in
set_option maxRecDepth 100000 in
theorem cplace_any (a : Option Addr) (ca : Nat) (L : List Int) (i : Int) (w : World) (kl : L.length ≤ 9223372036854775807) :
    Calls Tryz.prog 54 #[.slice a L.length ca, .int .i64 i] w fun e w' => e = .returned (.bool (plB L i)) ∧ w = w' := by
  by_cases f1 : 0 ≤ i
  rotate_left
  · have d1 : decide (0 ≤ i) = false := decide_eq_false f1
    have HF : Hid (plB L i = false) := plB_no (fun h => f1 h.1)
    clear f1
    go_enter Tryz.func54, Tryz.ntmps54
    go_wp2
    go_ret
    exact ⟨rt_bool HF.out.symm, rfl⟩
  have d1 : decide (0 ≤ i) = true := decide_eq_true f1
  have HF : Hid (plB L i = decide (i < (L.length : Int))) := by show _ = _; unfold plB; rw [d1]; rfl
  go_enter Tryz.func54, Tryz.ntmps54
  go_wp2
  go_ret
  exact ⟨rt_bool HF.out.symm, rfl⟩

set_option maxHeartbeats 1000000 in
set_option maxRecDepth 100000 in
theorem splace_any (a : Option Addr) (ca : Nat) (L : List Int) (i : Int) (w : World) (kl : L.length ≤ 9223372036854775807) :
    Calls Tryz.prog 46 #[.slice a L.length ca, .int .i64 i] w fun e w' => e = .returned (.bool (plB L i)) ∧ w = w' := by
  by_cases f1 : 0 ≤ i
  rotate_left
  · have d1 : decide (0 ≤ i) = false := decide_eq_false f1
    have HF : Hid (plB L i = false) := plB_no (fun h => f1 h.1)
    clear f1
    go_enter Tryz.func46, Tryz.ntmps46
    go_wp2
    go_ret
    exact ⟨rt_bool HF.out.symm, rfl⟩
  have d1 : decide (0 ≤ i) = true := decide_eq_true f1
  have HF : Hid (plB L i = decide (i < (L.length : Int))) := by show _ = _; unfold plB; rw [d1]; rfl
  go_enter Tryz.func46, Tryz.ntmps46
  go_wp2
  go_ret
  exact ⟨rt_bool HF.out.symm, rfl⟩

end Go.Proofs.YtchdoakoelfenaaGreat

namespace Go.Proofs.YtchdoakoelfenaaGreat
open Go.RowKit Go.Maps
set_option linter.unusedSimpArgs false
set_option linter.unusedVariables false

theorem psB_sk {ms : List Bool} {L : List Int} {sk : Bool} {i : Nat} (h : sk = false) : psB ms L sk i = false := by unfold psB; rw [h]; rfl
theorem psB_yes {ms : List Bool} {L : List Int} {i : Nat} {g : Int} (h : L.getD i 0 = g) : psB ms L true i = mkB ms g := by unfold psB; rw [h]; rfl

set_option maxHeartbeats 2000000 in
set_option maxRecDepth 100000 in
theorem cnext_any (S : Nat → Prop) (a : Option Addr) (ca : Nat) (L : List Int) (b : Option Addr) (cb : Nat) (ms : List Bool) (i : Int) (sk : Bool) (w : World) (hL : Ri w a ca L) (hm : Gr El.bool S w b cb ms) (hi : I64 i) :
    Calls Tryz.prog 56 #[.slice a L.length ca, .slice b ms.length cb, .int .i64 i, .bool sk] w fun e w' => e = .returned (.int .i64 (nxQ ms L sk i)) ∧ Below w.heap.size w w' := by
  have kl := hL.lenB
  obtain ⟨hi1, hi2⟩ := hi
  have hpl := cplace_any a ca L i w kl
  cases hp : plB L i with
  | false =>
    rw [hp] at hpl
    have HF : Hid (nxQ ms L sk i = -1) := nxQ_no hp
    clear hp hL hm
    go_enter Tryz.func56, Tryz.ntmps56
    go_wp2_with fail
    refine hpl.mono ?_
    rintro e u ⟨rfl, rfl⟩
    clear hpl
    go_wp2
    go_ret
    exact ⟨rt_int HF.out.symm, Below.refl _ _⟩
  | true =>
  rw [hp] at hpl
  obtain ⟨p1, p2⟩ := plB_iff.1 hp
  obtain ⟨k, rfl⟩ : ∃ k : Nat, i = (k : Int) := ⟨i.toNat, by omega⟩
  have hk : k < L.length := by omega
  have HX : Hid (nxQ ms L sk (k : Int) = nxF ms L sk (L.length - (k + 1)) (k + 1)) := nxQ_yes hk
  obtain ⟨b0, off, rfl, hb0, _⟩ := hL.at (Below.refl _ _) k hk
  have hcap := hL.2.1
  have hcap2 := hL.2.2.1
  unfold maxLen at hcap2
  clear hp
  by_cases hlast : k + 1 = L.length
  · have HF : Hid (nxQ ms L sk (k : Int) = -1) := by show _ = _; rw [HX.out]; exact nxF_end (by omega)
    have hn0 : L.length - (k + 1) = 0 := by omega
    clear HX hlast hL hm
    by_cases hc1 : ca = k + 1
    · subst hc1
      go_enter Tryz.func56, Tryz.ntmps56
      go_wp2_with fail
      refine hpl.mono ?_
      rintro e u ⟨rfl, rfl⟩
      clear hpl
      go_wp2
      go_loopw [20] (fun i wr => i = .int .i64 0 ∧ wr = w) (fun _ _ => 0)
      case atStart => exact ⟨rfl, rfl⟩
      case round =>
        obtain ⟨rfl, rfl⟩ := hrel
        go_wp2
        go_ret
        exact ⟨rt_int HF.out.symm, Below.refl _ _⟩
    · go_enter Tryz.func56, Tryz.ntmps56
      go_wp2_with fail
      refine hpl.mono ?_
      rintro e u ⟨rfl, rfl⟩
      clear hpl
      go_wp2
      go_loopw [20] (fun i wr => i = .int .i64 0 ∧ wr = w) (fun _ _ => 0)
      case atStart => exact ⟨rfl, rfl⟩
      case round =>
        obtain ⟨rfl, rfl⟩ := hrel
        go_wp2
        go_ret
        exact ⟨rt_int HF.out.symm, Below.refl _ _⟩
  · have hc1 : ¬ ca = k + 1 := by omega
    obtain ⟨n, hn⟩ : ∃ n, L.length - (k + 1) = n := ⟨_, rfl⟩
    have hn1 : n + (k + 1) ≤ L.length := by omega
    have hn2 : L.length ≤ n + (k + 1) := by omega
    have HN : Hid (L.length - (k + 1) = n) := hn
    have HL : Hid (Ri w (some ⟨b0, off, none⟩) ca L) := hL
    have HM : Hid (Gr El.bool S w b cb ms) := hm
    clear hlast hL hm
    go_enter Tryz.func56, Tryz.ntmps56
    go_wp2_with fail
    refine hpl.mono ?_
    rintro e u ⟨rfl, rfl⟩
    clear hpl
    go_wp2
    clear hn
    go_loopw [20] (fun i wr => ∃ j : Nat, j ≤ n ∧ i = .int .i64 j ∧ Hid (nxQ ms L sk (k : Int) = nxF ms L sk (L.length - (k + 1 + j)) (k + 1 + j)) ∧ Below w.heap.size w wr) (fun i _ => n - (intOf i).toNat)
    case atStart => exact ⟨0, Nat.zero_le _, rfl, HX, Below.refl _ _⟩
    case round =>
      obtain ⟨j, hj, rfl, HJ, hB⟩ := hrel
      by_cases hjn : j < n
      · obtain ⟨b1, o1, e1, _, c0⟩ := HL.out.at hB (k + 1 + j) (by omega)
        cases e1
        have HG : Hid (I64 (L.getD (k + 1 + j) 0)) := HL.out.i64 (by omega)
        have HON : Hid (_) := nxF_on (ms := ms) (sk := sk) (show k + 1 + j < L.length by omega)
        have HOF : Hid (_) := nxF_off (ms := ms) (sk := sk) (show k + 1 + j < L.length by omega)
        have HPS : Hid (∀ q, mkB ms (L.getD (k + 1 + j) 0) = q → psB ms L true (k + 1 + j) = q) := fun q hq => by rw [psB_yes rfl]; exact hq
        obtain ⟨g, hg⟩ : ∃ g, L.getD (k + 1 + j) 0 = g := ⟨_, rfl⟩
        rw [hg] at c0 HG HPS
        have hadd : off + (k + 1 + j) = off + (k + 1) + j := by omega
        rw [hadd] at c0
        have i1 : (0 : Int) ≤ (j : Int) := by omega
        have i2 : (j : Int) < (n : Int) := by omega
        have i3 : (k : Int) + 1 + (j : Int) ≤ 9223372036854775807 := by omega
        clear hadd hg
        cases sk with
        | false =>
          have HF : Hid (nxQ ms L false (k : Int) = (k : Int) + 1 + (j : Int)) := by show _ = _; rw [HJ.out, HOF.out (psB_sk rfl)]; omega
          clear HJ HON HOF HPS
          go_wp2
          go_ret
          exact ⟨rt_int HF.out.symm, hB⟩
        | true =>
        have hmk := cmark_any S b cb ms g wr (HM.out.below hB) HG.out
        cases hq : mkB ms g with
        | true =>
          rw [hq] at hmk
          have HJ2 : Hid (nxQ ms L true (k : Int) = nxF ms L true (L.length - (k + 1 + (j + 1))) (k + 1 + (j + 1))) := by show _ = _; rw [HJ.out]; exact HON.out (HPS.out _ hq)
          clear HJ HON HOF HPS hq
          go_wp2_with fail
          refine hmk.mono ?_
          rintro e u ⟨rfl, hb1⟩
          have hB2 := hB.trans (hb1.mono hB.size)
          clear hmk hb1 hB
          go_wp2
          go_roundw
          case rel => exact ⟨j + 1, by omega, by go_num, HJ2, hB2⟩
          case measure => simp [intOf]; omega
        | false =>
          rw [hq] at hmk
          have HF : Hid (nxQ ms L true (k : Int) = (k : Int) + 1 + (j : Int)) := by show _ = _; rw [HJ.out, HOF.out (HPS.out _ hq)]; omega
          clear HJ HON HOF HPS hq
          go_wp2_with fail
          refine hmk.mono ?_
          rintro e u ⟨rfl, hb1⟩
          have hB2 := hB.trans (hb1.mono hB.size)
          clear hmk hb1 hB
          go_wp2
          go_ret
          exact ⟨rt_int HF.out.symm, hB2⟩
      · have HF : Hid (nxQ ms L sk (k : Int) = -1) := by show _ = _; rw [HJ.out]; exact nxF_end (by omega)
        have g4 : ¬ (j : Int) < (n : Int) := by omega
        clear HJ
        go_wp2
        go_ret
        exact ⟨rt_int HF.out.symm, hB⟩

end Go.Proofs.YtchdoakoelfenaaGreat
