/-
  (*feats.source): number, signed, cond, feature; takeList of ints, of conds: the walks.
-/
import Derived.Test.YtaejlopkdkaphaaZE9
import Derived.Test.YtaejlopkdkaphaaZE8
import Derived.Test.YtaejlopkdkaphaaZE2
import Derived.Test.YtaejlopkdkaphaaZE10
import Derived.Test.YtaejlopkdkaphaaZE11
import Derived.Lib.MinMax
namespace Go.Proofs.Ytaejlopkdkaphaa
open Go.RowKit Go.Maps
set_option linter.unusedSimpArgs false
set_option linter.unusedVariables false

theorem Kp.newF {g b : Nat} {a w : World} (h : Kp g a w) (hb : a.heap.size ≤ b) (j : Nat) (z : Value) : Kp g a (w.setCell ⟨b, j, none⟩ z) := Keep.setCell h (p := ⟨b, j, none⟩) (fun e => Nat.not_lt.2 hb e.1) z
theorem Sc.ofF {t : TypeId} {w u : World} {g : Nat} {pa : Option Addr} {pc : Nat} {xs : List Nat} {p q : Nat} (h : Sc t w g pa pc xs p) (hk : Kp g w u) (hb : Bk t u g [.slice pa xs.length pc, .int .i64 (q : Int)]) : Sc t u g pa pc xs q :=
  ⟨hb, h.rb.keep' hk.size (fun b o hlt e hne => hk.block hlt (h.2.2 b o e hne)), h.2.2⟩
theorem Gw.kpF {α : Type} {E : El α} {t : TypeId} {base g : Nat} {w w' : World} {v : Value} {l : List α} (h : Gw E t base (fun k => base ≤ k) w v l) (hg : g < base) (hk : Kp g w w') : Gw E t base (fun k => base ≤ k) w' v l :=
  h.stay hk.size (fun k h1 _ h3 => ⟨h1, hk.block h3 (by omega)⟩) (fun k hv => hk.block (h.lo hv).2 (by have := (h.lo hv).1; omega))
theorem nuV_b {xs : List Nat} (h : Byt xs) (p : Nat) : 0 ≤ nuV (xs.drop p) ∧ nuV (xs.drop p) ≤ 65535 := by
  have := hd2_ltF (h.drop p)
  unfold nuV
  omega
theorem sxF_b {v : Nat} (h : v < 65536) : I64 (sx16 v) := by unfold sx16 I64; split <;> omega
theorem Gw.repF {α : Type} {E : El α} {t : TypeId} {base : Nat} {w : World} {v : Value} {l : List α} (h : Gw E t base (fun k => base ≤ k) w v l) (hl : l.length ≤ 100000) : ∃ a c, v = .slice a l.length c ∧ E.row.rep (fun k => base ≤ k) w [.slice a l.length c] l := by
  obtain ⟨a, c, e, hg, hb⟩ := h.slice
  exact ⟨a, c, e, a, c, rfl, fun b o e2 _ => (hb b o e2).1, hg, by omega⟩
theorem wrapi64F {z : Int} (h1 : -9223372036854775808 ≤ z) (h2 : z ≤ 9223372036854775807) : IntKind.i64.wrap z = z := by
  simp only [IntKind.wrap, IntKind.bits, IntKind.signed]
  simp
  omega

set_option maxHeartbeats 2000000 in
set_option maxRecDepth 100000 in
theorem numF_any (sb : Nat) (a : Option Addr) (cap : Nat) (xs : List Nat) (p : Nat) (w : World) (hS : Sc 81 w sb a cap xs p) (hp : p ≤ 1000000) :
    Calls Try.prog 69 #[.pointer (some ⟨sb, 0, none⟩)] w fun e w' => e = .returned (.int .i64 (nuV (xs.drop p))) ∧ Sc 81 w' sb a cap xs (p + 2) ∧ Kp sb w w' := by
  have hu := fun U (hr : Rb U a cap xs) => u16_any a cap xs (p : Int) U hr ⟨by omega, by omega⟩
  simp only [nmV_hd2] at hu
  have HKp : Hid (Kp sb w w) := Kp.refl sb w
  have HV : Hid (((hd2 (xs.drop p) : Nat) : Int) = nuV (xs.drop p)) := rfl
  rw [HV.out] at hu
  generalize nuV (xs.drop p) = vv at *
  generalize inB xs.length (p : Int) 2 = th0 at *
  go_enter Try.func69, Try.ntmps69
  go_upto_region 1 with fail
  obtain ⟨z0, z1, -⟩ := hS.bk.two
  refine wp_region_held_drew (S := fun w9 => w9.cell? ⟨sb, 0, none⟩ = some (.slice a xs.length cap) ∧ w9.cell? ⟨sb, 1, none⟩ = some (.int .i64 (p : Int))) (by kernel_rfl) ?_ (fun hHeld => ?_)
  · (try dsimp only)
    go_keep
  have hdr : Below w.heap.size w w.drew := Below.drew1
  have hKZ : Kp sb w w.drew := HKp.out.trans (Kp.of hdr)
  generalize w.drew = Z at hdr hHeld hKZ ⊢
  replace hS := hS.below hdr
  clear hdr z0 z1 HKp
  refine hT 0 hHeld ?_
  refine hT 1 hHeld ?_
  refine hT 2 hHeld ?_
  refine hT 3 hHeld ?_
  refine hT 4 hHeld ?_
  refine hT 5 hHeld ?_
  refine hT 6 hHeld ?_
  refine hT 7 hHeld ?_
  refine hCall (i := 8) rfl (by kernel_rfl) (by rfl) (fun K hK => ?_)
  go_simp
  refine (hu _ hS.rb).mono ?_
  rintro e u ⟨rfl, rfl⟩
  go_wp2_with fail
  refine hK.out _ _ ?_ (fun hHeld => ?_)
  · (try dsimp only)
    exact hHeld
  clear hK K
  try simp only [Act.put, List.setIfInBounds_toArray, List.set_cons_zero, List.set_cons_succ]
  refine hT 9 hHeld ?_
  refine hT 10 hHeld ?_
  refine hT 11 hHeld ?_
  refine hT 12 hHeld ?_
  refine hT 13 hHeld ?_
  refine wpAnyH_done (by kernel_rfl) ?_ _
  clear hHeld hu
  have hw2 : IntKind.i64.wrap ((p : Int) + 2) = ((p + 2 : Nat) : Int) := by rw [wrapi64F (by omega) (by omega)]; omega
  have HSN : Hid (Sc 81 (Z.setCell ⟨sb, 1, none⟩ (.int .i64 ((p : Int) + 2))) sb a cap xs (p + 2)) := by
    have h := hS.step (p + 2)
    rw [show ((p + 2 : Nat) : Int) = (p : Int) + 2 by omega] at h
    exact h
  have HKN : Hid (Kp sb w (Z.setCell ⟨sb, 1, none⟩ (.int .i64 ((p : Int) + 2)))) := hKZ.setCell 1 _
  obtain ⟨zc0, zc1, fc0, fc1⟩ := hS.bk.two
  clear hS hKZ
  go_wp2
  go_ret
  exact ⟨rfl, HSN.out, HKN.out⟩

set_option maxHeartbeats 2000000 in
set_option maxRecDepth 100000 in
theorem sgnF_any (sb : Nat) (a : Option Addr) (cap : Nat) (xs : List Nat) (p : Nat) (w : World) (hS : Sc 81 w sb a cap xs p) (hp : p ≤ 1000000) :
    Calls Try.prog 84 #[.pointer (some ⟨sb, 0, none⟩)] w fun e w' => e = .returned (.int .i64 (sx16 (hd2 (xs.drop p)))) ∧ Sc 81 w' sb a cap xs (p + 2) ∧ Kp sb w w' := by
  have hu := fun U (hr : Rb U a cap xs) => i16_any a cap xs (p : Int) U hr ⟨by omega, by omega⟩
  simp only [nmV_hd2] at hu
  have HKp : Hid (Kp sb w w) := Kp.refl sb w
  generalize sx16 (hd2 (xs.drop p)) = vv at *
  generalize inB xs.length (p : Int) 2 = th0 at *
  go_enter Try.func84, Try.ntmps84
  go_upto_region 1 with fail
  obtain ⟨z0, z1, -⟩ := hS.bk.two
  refine wp_region_held_drew (S := fun w9 => w9.cell? ⟨sb, 0, none⟩ = some (.slice a xs.length cap) ∧ w9.cell? ⟨sb, 1, none⟩ = some (.int .i64 (p : Int))) (by kernel_rfl) ?_ (fun hHeld => ?_)
  · (try dsimp only)
    go_keep
  have hdr : Below w.heap.size w w.drew := Below.drew1
  have hKZ : Kp sb w w.drew := HKp.out.trans (Kp.of hdr)
  generalize w.drew = Z at hdr hHeld hKZ ⊢
  replace hS := hS.below hdr
  clear hdr z0 z1 HKp
  refine hT 0 hHeld ?_
  refine hT 1 hHeld ?_
  refine hT 2 hHeld ?_
  refine hT 3 hHeld ?_
  refine hT 4 hHeld ?_
  refine hT 5 hHeld ?_
  refine hT 6 hHeld ?_
  refine hT 7 hHeld ?_
  refine hCall (i := 8) rfl (by kernel_rfl) (by rfl) (fun K hK => ?_)
  go_simp
  refine (hu _ hS.rb).mono ?_
  rintro e u ⟨rfl, rfl⟩
  go_wp2_with fail
  refine hK.out _ _ ?_ (fun hHeld => ?_)
  · (try dsimp only)
    exact hHeld
  clear hK K
  try simp only [Act.put, List.setIfInBounds_toArray, List.set_cons_zero, List.set_cons_succ]
  refine hT 9 hHeld ?_
  refine hT 10 hHeld ?_
  refine hT 11 hHeld ?_
  refine hT 12 hHeld ?_
  refine hT 13 hHeld ?_
  refine wpAnyH_done (by kernel_rfl) ?_ _
  clear hHeld hu
  have hw2 : IntKind.i64.wrap ((p : Int) + 2) = ((p + 2 : Nat) : Int) := by rw [wrapi64F (by omega) (by omega)]; omega
  have HSN : Hid (Sc 81 (Z.setCell ⟨sb, 1, none⟩ (.int .i64 ((p : Int) + 2))) sb a cap xs (p + 2)) := by
    have h := hS.step (p + 2)
    rw [show ((p + 2 : Nat) : Int) = (p : Int) + 2 by omega] at h
    exact h
  have HKN : Hid (Kp sb w (Z.setCell ⟨sb, 1, none⟩ (.int .i64 ((p : Int) + 2)))) := hKZ.setCell 1 _
  obtain ⟨zc0, zc1, fc0, fc1⟩ := hS.bk.two
  clear hS hKZ
  go_wp2
  go_ret
  exact ⟨rfl, HSN.out, HKN.out⟩

set_option maxHeartbeats 4000000 in
set_option maxRecDepth 100000 in
theorem takeIF_any (sb : Nat) (a : Option Addr) (cap : Nat) (xs : List Nat) (p : Nat) (w : World) (hS : Sc 81 w sb a cap xs p) (hp : p ≤ 20000) :
    Calls Try.prog 71 #[.pointer (some ⟨sb, 0, none⟩), .int .i64 10, .func (.func 69) #[.pointer (some ⟨sb, 0, none⟩)] #[]] w fun e w' => ∃ v, e = .returned v ∧ Gw El.int 3 w.heap.size (fun k => w.heap.size ≤ k) w' v (lsV nuV two_ 10 (xs.drop p)) ∧ Sc 81 w' sb a cap xs (p + lsU two_ 10 (xs.drop p)) ∧ Kp sb w w' := by
  have hsl := hS.bk.lt
  have HBL : Hid (∀ b o, a = some ⟨b, o, none⟩ → xs ≠ [] → b < w.heap.size) := fun b o e hne => by
    rcases hS.rb.2.2.2.2 with h0 | ⟨b', o', e', hb, _⟩
    · exact absurd h0 hne
    · rw [e] at e'
      cases e'
      exact hb
  have hnum := numF_any sb a cap xs p w hS (by omega)
  have HLV : Hid (lsV nuV two_ 10 (xs.drop p) = mnV nuV two_ (ctV 10 (xs.drop p)) (xs.drop (p + 2))) := by show _ = _; rw [lsV, List.drop_drop]
  have HLU : Hid (p + lsU two_ 10 (xs.drop p) = p + 2 + mnU two_ (ctV 10 (xs.drop p)) (xs.drop (p + 2))) := by show _ = _; rw [lsU, List.drop_drop]; omega
  have HMU : Hid (∀ n, mnU two_ n (xs.drop (p + 2)) ≤ 2 * n) := fun n => mnU_le (m := 2) (fun _ => Nat.le_refl _) n _
  obtain ⟨N, hN⟩ : ∃ N, ctV 10 (xs.drop p) = N := ⟨_, rfl⟩
  have hNv : min (nuV (xs.drop p)) 11 = (N : Int) := by
    rw [← hN, ctV, nuV]
    omega
  have hN11 : N ≤ 11 := by rw [← hN]; unfold ctV; omega
  rw [hN] at HLV HLU
  generalize nuV (xs.drop p) = c0 at *
  obtain ⟨g, hg⟩ : ∃ n, w.heap.size = n := ⟨_, rfl⟩
  rw [hg] at hsl ⊢
  clear hN
  go_enter Try.func71, Try.ntmps71
  go_wp2_with fail
  refine hnum.mono ?_
  rintro e u1 ⟨rfl, hS1, hK1⟩
  have hgs : g ≤ u1.heap.size := by rw [← hg]; exact hK1.size
  have hG0 : Gw El.int 3 g (fun k => g ≤ k) u1 (.slice none 0 0) (mnV nuV two_ 0 (xs.drop (p + 2))) := Gw.nil _ _ _ _ _
  have hS0 : Sc 81 u1 sb a cap xs (p + 2 + mnU two_ 0 (xs.drop (p + 2))) := hS1
  clear hnum hS hS1
  go_wp2
  go_loopw [7, 13] (fun v i wr => ∃ (k : Nat), k ≤ N ∧ i = .int .i64 (k : Int) ∧ Gw El.int 3 g (fun k => g ≤ k) wr v (mnV nuV two_ k (xs.drop (p + 2))) ∧ Sc 81 wr sb a cap xs (p + 2 + mnU two_ k (xs.drop (p + 2))) ∧ Kp sb w wr ∧ g ≤ wr.heap.size) (fun _ i _ => N - (intOf i).toNat)
  case atStart => exact ⟨0, Nat.zero_le _, rfl, hG0, hS0, hK1, hgs⟩
  case round =>
    clear hG0 hS0 hK1 hgs
    obtain ⟨k, hk, rfl, hGw, hSc, hK, hgs⟩ := hrel
    obtain ⟨a7, c7, e7, -, -⟩ := hGw.slice
    subst e7
    rw [mnV_len] at hGw ⊢
    by_cases hkn : k < N
    rotate_left
    · obtain rfl : k = N := by omega
      have g4 : ¬ (k : Int) < (k : Int) := by omega
      rw [← HLV.out] at hGw
      rw [← HLU.out] at hSc
      have HG : Hid (_) := hGw
      have HS : Hid (_) := hSc
      clear hGw hSc
      go_wp2
      go_ret
      exact ⟨_, rfl, HG.out, HS.out, hK⟩
    have g2 : (k : Int) < (N : Int) := by omega
    have hpk : p + 2 + mnU two_ k (xs.drop (p + 2)) ≤ 40000 := by
      have h1 := HMU.out k
      have h2 : 2 * k ≤ 2 * 11 := Nat.mul_le_mul_left _ (by omega)
      omega
    obtain ⟨hs1, hs2⟩ := mnV_succ (f := nuV) (u := two_) k (xs.drop (p + 2))
    rw [List.drop_drop] at hs1 hs2
    have HS1 : Hid (_) := hs1
    have HS2 : Hid (p + 2 + mnU two_ (k + 1) (xs.drop (p + 2)) = p + 2 + mnU two_ k (xs.drop (p + 2)) + two_ (xs.drop (p + 2 + mnU two_ k (xs.drop (p + 2))))) := by show _ = _; rw [hs2]; omega
    have HLM : Hid ((mnV nuV two_ k (xs.drop (p + 2))).length = k) := mnV_len _ _
    have HOW : Hid (∀ q, (Value.slice a7 k c7).ownBlock = some q → g ≤ q ∧ q < wr.heap.size) := fun q e => hGw.lo e
    clear hs1 hs2
    obtain ⟨q, hq⟩ : ∃ q, p + 2 + mnU two_ k (xs.drop (p + 2)) = q := ⟨_, rfl⟩
    rw [hq] at hSc hpk HS1 HS2
    obtain ⟨M, hM⟩ : ∃ M, mnV nuV two_ k (xs.drop (p + 2)) = M := ⟨_, rfl⟩
    rw [hM] at hGw HS1 HLM
    have hHS : Hid (Sc 81 wr sb a cap xs q) := hSc
    clear hq hM
    have hvb := nuV_b hSc.rb.lim q
    have hst := numF_any sb a cap xs q wr hSc (by omega)
    go_wp2_with fail
    refine hst.mono ?_
    rintro e u4 ⟨rfl, hS4, hk4⟩
    have hS4 : Sc 81 u4 sb a cap xs (q + two_ (xs.drop q)) := hS4
    have hrep : El.int.rep (fun k => wr.heap.size ≤ k) u4 [.int .i64 (nuV (xs.drop q))] (nuV (xs.drop q)) := El.int_rep.2 ⟨rfl, by omega, by omega⟩
    clear hvb
    have hGw4 := hGw.kpF hsl hk4
    have hK4 := hK.trans hk4
    have hs4 := hk4.size
    rw [← HS2.out] at hS4
    generalize nuV (xs.drop q) = x at *
    obtain ⟨V9, hV9, Y9, hb9⟩ : ∃ W, W = u4.alloc (.cells #[.int .i64 x] 3) ∧ Bk 3 W u4.heap.size [.int .i64 x] ∧ Below u4.heap.size u4 W := ⟨_, rfl, Bk.new _ _ _, bl1 _⟩
    have hrep2 := El.int.stay hrep hb9.size (S' := fun q => g ≤ q ∧ (Value.slice a7 k c7).ownBlock ≠ some q) (fun q hq hl => ⟨⟨by omega, fun e => by have := (HOW.out q e).2; omega⟩, hb9.block q hl⟩)
    have hone := Gr.one (E := El.int) hrep2 Y9.lt (fun j hj => Y9.cell j hj)
    have hGb := hGw4.below hb9
    have hs9 := hb9.size
    have hbs : g ≤ V9.heap.size := by omega
    have hll : M.length + 1 ≤ 1000000 := by have := HLM.out; omega
    have hSb := hS4.below hb9
    have hKb := hK4.trans (Kp.of hb9)
    have HRB : Hid (∀ b o, a = some ⟨b, o, none⟩ → xs ≠ [] → b < g) := fun b o e hne => by rw [← hg]; exact HBL.out b o e hne
    clear hst hrep hrep2 hGw hGw4 hK hk4 hSc hS4 hK4
    go_wp2_with (at_builtin; rw [← hV9]; refine wpList_append_el (E := El.int) 26 3 Try.underlying26 info_i64F rfl (by decide) (by decide) rfl _ _ rfl g (fun k => g ≤ k) _ M rfl hGb (some ⟨u4.heap.size, 0, none⟩) 1 1 [x] rfl rfl hone hll hbs ?_)
    intro v9 w9 hT9 hgrow _
    try rw [← hV9] at hgrow
    rw [← HS1.out] at hT9
    have hS9 := hSb.grown hgrow (fun e => by have := (HOW.out sb e).1; omega) (fun b o e hne e2 => by have h1 := HRB.out b o e hne; have h2 := (HOW.out b e2).1; omega)
    have hK9 := hKb.grown hgrow (fun q hq => by have := (HOW.out q hq).1; omega)
    have hs10 : g ≤ w9.heap.size := Nat.le_trans hbs hgrow.size
    clear hgrow hGb hone hbs hll hV9 Y9 hb9 hSb hKb hs9
    go_wp2
    go_roundw
    case rel => exact ⟨k + 1, by omega, by go_num, hT9, hS9, hK9, hs10⟩
    case measure => simp [intOf]; omega

set_option maxHeartbeats 4000000 in
set_option maxRecDepth 100000 in
theorem condR_any (sb : Nat) (a : Option Addr) (cap : Nat) (xs : List Nat) (p : Nat) (w : World) (hS : Sc 81 w sb a cap xs p) (hp : p ≤ 100000) :
    Calls Try.prog 73 #[.pointer (some ⟨sb, 0, none⟩)] w fun e w' => e = .returned (.agg #[.int .i64 (cnV (xs.drop p)).ax, .int .i64 (cnV (xs.drop p)).ls, .int .i64 (cnV (xs.drop p)).ms]) ∧ Sc 81 w' sb a cap xs (p + 6) ∧ Kp sb w w' := by
  obtain ⟨W, hW, XR, hbW⟩ : ∃ W, W = w.alloc (.cells #[.int .i64 0, .int .i64 0, .int .i64 0] 46) ∧ Bk 46 W w.heap.size [.int .i64 0, .int .i64 0, .int .i64 0] ∧ Below w.heap.size w W := ⟨_, rfl, Bk.new _ _ _, bl1 _⟩
  have hsl := hS.bk.lt
  have HS0 : Hid (Sc 81 w sb a cap xs p) := hS
  have hKp : Kp sb w W := Kp.of hbW
  have hSW := hS.below hbW
  obtain ⟨gr, hgr⟩ : ∃ n, w.heap.size = n := ⟨_, rfl⟩
  have HGR : Hid (w.heap.size = gr) := hgr
  rw [hgr] at XR hsl
  have HE : Hid (cnV (xs.drop p) = ⟨nuV (xs.drop p), sx16 (hd2 (xs.drop (p + 2))), sx16 (hd2 (xs.drop (p + 4)))⟩) := by show _ = _; rw [cnV, List.drop_drop, List.drop_drop]
  rw [HE.out]
  dsimp only
  clear HE
  have h1 := numF_any sb a cap xs p W hSW (by omega)
  have h2 := fun v (h : Sc 81 v sb a cap xs (p + 2)) => sgnF_any sb a cap xs (p + 2) v h (by omega)
  have h3 := fun v (h : Sc 81 v sb a cap xs (p + 4)) => sgnF_any sb a cap xs (p + 4) v h (by omega)
  generalize nuV (xs.drop p) = x1 at *
  generalize sx16 (hd2 (xs.drop (p + 2))) = x2 at *
  generalize sx16 (hd2 (xs.drop (p + 4))) = x3 at *
  clear hS hbW
  go_enter Try.func73, Try.ntmps73
  go_upto_region 1 with fail
  rw [← hW]
  try rw [hgr]
  clear hW hgr
  go_wp2_with fail
  refine h1.mono ?_
  rintro e v1 ⟨rfl, hS1, hk1⟩
  replace XR := XR.kp hk1 (by omega)
  replace hKp := hKp.trans hk1
  clear h1 hk1 hSW
  go_wp2_with fail
  refine (h2 _ hS1).mono ?_
  rintro e v2 ⟨rfl, hS2, hk2⟩
  replace XR := XR.kp hk2 (by omega)
  replace hKp := hKp.trans hk2
  have hS2 : Sc 81 v2 sb a cap xs (p + 4) := hS2
  clear h2 hk2 hS1
  go_wp2_with fail
  refine (h3 _ hS2).mono ?_
  rintro e v3 ⟨rfl, hS3, hk3⟩
  replace XR := XR.kp hk3 (by omega)
  replace hKp := hKp.trans hk3
  clear h3 hk3 hS2
  have HXR : Hid (Bk 46 (((v3.setCell ⟨gr, 0, none⟩ (.int .i64 x1)).setCell ⟨gr, 1, none⟩ (.int .i64 x2)).setCell ⟨gr, 2, none⟩ (.int .i64 x3)) gr [.int .i64 x1, .int .i64 x2, .int .i64 x3]) := ((XR.set 0 _).set 1 _).set 2 _
  have HKF : Hid (Kp sb w (((v3.setCell ⟨gr, 0, none⟩ (.int .i64 x1)).setCell ⟨gr, 1, none⟩ (.int .i64 x2)).setCell ⟨gr, 2, none⟩ (.int .i64 x3))) := ((hKp.newF (by have := HGR.out; omega) 0 _).newF (by have := HGR.out; omega) 1 _).newF (by have := HGR.out; omega) 2 _
  have HBF : Hid (Bk 81 (((v3.setCell ⟨gr, 0, none⟩ (.int .i64 x1)).setCell ⟨gr, 1, none⟩ (.int .i64 x2)).setCell ⟨gr, 2, none⟩ (.int .i64 x3)) sb [.slice a xs.length cap, .int .i64 ((p + 6 : Nat) : Int)]) := ((hS3.bk.other 0 _ (by omega)).other 1 _ (by omega)).other 2 _ (by omega)
  obtain ⟨y0, y1, y2, f0, f1, f2⟩ := XR.three
  clear hKp hS3 XR
  go_wp2
  refine bodyPost_ret (v := .agg #[.int .i64 x1, .int .i64 x2, .int .i64 x3]) (by obtain ⟨r0, r1, r2, -⟩ := HXR.out.three; simp [results, Try.results73, go_sem, r0, r1, r2]) rfl ⟨rfl, HS0.out.ofF HKF.out HBF.out, HKF.out⟩

set_option maxHeartbeats 4000000 in
set_option maxRecDepth 100000 in
theorem takeCF_any (sb : Nat) (a : Option Addr) (cap : Nat) (xs : List Nat) (p : Nat) (w : World) (hS : Sc 81 w sb a cap xs p) (hp : p ≤ 20000) :
    Calls Try.prog 72 #[.pointer (some ⟨sb, 0, none⟩), .int .i64 4, .func (.func 73) #[.pointer (some ⟨sb, 0, none⟩)] #[]] w fun e w' => ∃ v, e = .returned v ∧ Gw CnE 46 w.heap.size (fun k => w.heap.size ≤ k) w' v (lsV cnV six_ 4 (xs.drop p)) ∧ Sc 81 w' sb a cap xs (p + lsU six_ 4 (xs.drop p)) ∧ Kp sb w w' := by
  have hsl := hS.bk.lt
  have HBL : Hid (∀ b o, a = some ⟨b, o, none⟩ → xs ≠ [] → b < w.heap.size) := fun b o e hne => by
    rcases hS.rb.2.2.2.2 with h0 | ⟨b', o', e', hb, _⟩
    · exact absurd h0 hne
    · rw [e] at e'
      cases e'
      exact hb
  have hnum := numF_any sb a cap xs p w hS (by omega)
  have HLV : Hid (lsV cnV six_ 4 (xs.drop p) = mnV cnV six_ (ctV 4 (xs.drop p)) (xs.drop (p + 2))) := by show _ = _; rw [lsV, List.drop_drop]
  have HLU : Hid (p + lsU six_ 4 (xs.drop p) = p + 2 + mnU six_ (ctV 4 (xs.drop p)) (xs.drop (p + 2))) := by show _ = _; rw [lsU, List.drop_drop]; omega
  have HMU : Hid (∀ n, mnU six_ n (xs.drop (p + 2)) ≤ 6 * n) := fun n => mnU_le (m := 6) (fun _ => Nat.le_refl _) n _
  obtain ⟨N, hN⟩ : ∃ N, ctV 4 (xs.drop p) = N := ⟨_, rfl⟩
  have hNv : min (nuV (xs.drop p)) 5 = (N : Int) := by
    rw [← hN, ctV, nuV]
    omega
  have hN11 : N ≤ 5 := by rw [← hN]; unfold ctV; omega
  rw [hN] at HLV HLU
  generalize nuV (xs.drop p) = c0 at *
  obtain ⟨g, hg⟩ : ∃ n, w.heap.size = n := ⟨_, rfl⟩
  rw [hg] at hsl ⊢
  clear hN
  go_enter Try.func72, Try.ntmps72
  go_wp2_with fail
  refine hnum.mono ?_
  rintro e u1 ⟨rfl, hS1, hK1⟩
  have hgs : g ≤ u1.heap.size := by rw [← hg]; exact hK1.size
  have hG0 : Gw CnE 46 g (fun k => g ≤ k) u1 (.slice none 0 0) (mnV cnV six_ 0 (xs.drop (p + 2))) := Gw.nil _ _ _ _ _
  have hS0 : Sc 81 u1 sb a cap xs (p + 2 + mnU six_ 0 (xs.drop (p + 2))) := hS1
  clear hnum hS hS1
  go_wp2
  go_loopw [7, 13] (fun v i wr => ∃ (k : Nat), k ≤ N ∧ i = .int .i64 (k : Int) ∧ Gw CnE 46 g (fun k => g ≤ k) wr v (mnV cnV six_ k (xs.drop (p + 2))) ∧ Sc 81 wr sb a cap xs (p + 2 + mnU six_ k (xs.drop (p + 2))) ∧ Kp sb w wr ∧ g ≤ wr.heap.size) (fun _ i _ => N - (intOf i).toNat)
  case atStart => exact ⟨0, Nat.zero_le _, rfl, hG0, hS0, hK1, hgs⟩
  case round =>
    clear hG0 hS0 hK1 hgs
    obtain ⟨k, hk, rfl, hGw, hSc, hK, hgs⟩ := hrel
    obtain ⟨a7, c7, e7, -, -⟩ := hGw.slice
    subst e7
    rw [mnV_len] at hGw ⊢
    by_cases hkn : k < N
    rotate_left
    · obtain rfl : k = N := by omega
      have g4 : ¬ (k : Int) < (k : Int) := by omega
      rw [← HLV.out] at hGw
      rw [← HLU.out] at hSc
      have HG : Hid (_) := hGw
      have HS : Hid (_) := hSc
      clear hGw hSc
      go_wp2
      go_ret
      exact ⟨_, rfl, HG.out, HS.out, hK⟩
    have g2 : (k : Int) < (N : Int) := by omega
    have hpk : p + 2 + mnU six_ k (xs.drop (p + 2)) ≤ 40000 := by
      have h1 := HMU.out k
      have h2 : 6 * k ≤ 6 * 5 := Nat.mul_le_mul_left _ (by omega)
      omega
    obtain ⟨hs1, hs2⟩ := mnV_succ (f := cnV) (u := six_) k (xs.drop (p + 2))
    rw [List.drop_drop] at hs1 hs2
    have HS1 : Hid (_) := hs1
    have HS2 : Hid (p + 2 + mnU six_ (k + 1) (xs.drop (p + 2)) = p + 2 + mnU six_ k (xs.drop (p + 2)) + six_ (xs.drop (p + 2 + mnU six_ k (xs.drop (p + 2))))) := by show _ = _; rw [hs2]; omega
    have HLM : Hid ((mnV cnV six_ k (xs.drop (p + 2))).length = k) := mnV_len _ _
    have HOW : Hid (∀ q, (Value.slice a7 k c7).ownBlock = some q → g ≤ q ∧ q < wr.heap.size) := fun q e => hGw.lo e
    clear hs1 hs2
    obtain ⟨q, hq⟩ : ∃ q, p + 2 + mnU six_ k (xs.drop (p + 2)) = q := ⟨_, rfl⟩
    rw [hq] at hSc hpk HS1 HS2
    obtain ⟨M, hM⟩ : ∃ M, mnV cnV six_ k (xs.drop (p + 2)) = M := ⟨_, rfl⟩
    rw [hM] at hGw HS1 HLM
    have hHS : Hid (Sc 81 wr sb a cap xs q) := hSc
    clear hq hM
    have hvb := nuV_b hSc.rb.lim q
    have hvb2 := sxF_b (hd2_ltF (hSc.rb.lim.drop (q + 2)))
    have hvb3 := sxF_b (hd2_ltF (hSc.rb.lim.drop (q + 4)))
    have hst := condR_any sb a cap xs q wr hSc (by omega)
    go_wp2_with fail
    refine hst.mono ?_
    rintro e u4 ⟨rfl, hS4, hk4⟩
    have hS4 : Sc 81 u4 sb a cap xs (q + six_ (xs.drop q)) := hS4
    have hrep : CnE.rep (fun k => wr.heap.size ≤ k) u4 [.int .i64 (cnV (xs.drop q)).ax, .int .i64 (cnV (xs.drop q)).ls, .int .i64 (cnV (xs.drop q)).ms] (cnV (xs.drop q)) := CnE_rep.2 ⟨rfl, ⟨by show _ ≤ nuV (xs.drop q); omega, by show nuV (xs.drop q) ≤ _; omega⟩, by show I64 (sx16 (hd2 ((xs.drop q).drop 2))); rw [List.drop_drop]; exact hvb2, by show I64 (sx16 (hd2 ((xs.drop q).drop 4))); rw [List.drop_drop]; exact hvb3⟩
    clear hvb hvb2 hvb3
    have hGw4 := hGw.kpF hsl hk4
    have hK4 := hK.trans hk4
    have hs4 := hk4.size
    rw [← HS2.out] at hS4
    generalize cnV (xs.drop q) = x at *
    obtain ⟨V9, hV9, Y9, hb9⟩ : ∃ W, W = u4.alloc (.cells #[.int .i64 x.ax, .int .i64 x.ls, .int .i64 x.ms] 46) ∧ Bk 46 W u4.heap.size [.int .i64 x.ax, .int .i64 x.ls, .int .i64 x.ms] ∧ Below u4.heap.size u4 W := ⟨_, rfl, Bk.new _ _ _, bl1 _⟩
    have hrep2 := CnE.stay hrep hb9.size (S' := fun q => g ≤ q ∧ (Value.slice a7 k c7).ownBlock ≠ some q) (fun q hq hl => ⟨⟨by omega, fun e => by have := (HOW.out q e).2; omega⟩, hb9.block q hl⟩)
    have hone := Gr.one (E := CnE) hrep2 Y9.lt (fun j hj => Y9.cell j hj)
    have hGb := hGw4.below hb9
    have hs9 := hb9.size
    have hbs : g ≤ V9.heap.size := by omega
    have hll : M.length + 1 ≤ 1000000 := by have := HLM.out; omega
    have hSb := hS4.below hb9
    have hKb := hK4.trans (Kp.of hb9)
    have HRB : Hid (∀ b o, a = some ⟨b, o, none⟩ → xs ≠ [] → b < g) := fun b o e hne => by rw [← hg]; exact HBL.out b o e hne
    clear hst hrep hrep2 hGw hGw4 hK hk4 hSc hS4 hK4
    go_wp2_with (at_builtin; rw [← hV9]; refine wpList_append_el (E := CnE) 43 46 Try.underlying43 info_cnF rfl (by decide) (by decide) rfl _ _ rfl g (fun k => g ≤ k) _ M rfl hGb (some ⟨u4.heap.size, 0, none⟩) 1 1 [x] rfl rfl hone hll hbs ?_)
    intro v9 w9 hT9 hgrow _
    try rw [← hV9] at hgrow
    rw [← HS1.out] at hT9
    have hS9 := hSb.grown hgrow (fun e => by have := (HOW.out sb e).1; omega) (fun b o e hne e2 => by have h1 := HRB.out b o e hne; have h2 := (HOW.out b e2).1; omega)
    have hK9 := hKb.grown hgrow (fun q hq => by have := (HOW.out q hq).1; omega)
    have hs10 : g ≤ w9.heap.size := Nat.le_trans hbs hgrow.size
    clear hgrow hGb hone hbs hll hV9 Y9 hb9 hSb hKb hs9
    go_wp2
    go_roundw
    case rel => exact ⟨k + 1, by omega, by go_num, hT9, hS9, hK9, hs10⟩
    case measure => simp [intOf]; omega

end Go.Proofs.Ytaejlopkdkaphaa
