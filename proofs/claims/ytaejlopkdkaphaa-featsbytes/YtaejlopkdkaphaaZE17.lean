/-
  (*feats.source): feature, swap; takeList of these; feats.Read: the walks.
  foundryref04.Same of any two: the walk.
-/
import Derived.Test.YtaejlopkdkaphaaZE16
import Derived.OwnWalk
import Derived.Test.YtaejlopkdkaphaaZE2
namespace Go.Proofs.Ytaejlopkdkaphaa
open Go.RowKit Go.Maps
set_option linter.unusedSimpArgs false
set_option linter.unusedVariables false

set_option maxHeartbeats 4000000 in
set_option maxRecDepth 100000 in
theorem featR_any (sb : Nat) (a : Option Addr) (cap : Nat) (xs : List Nat) (p : Nat) (w : World) (hS : Sc 81 w sb a cap xs p) (hp : p ≤ 10000) (hxl : xs.length ≤ 1000000000) :
    Calls Try.prog 46 #[.pointer (some ⟨sb, 0, none⟩)] w fun e w' => ∃ ya yc, e = .returned (.agg #[.string (ftV (xs.drop p)).tg, .slice ya (ftV (xs.drop p)).lk.length yc]) ∧ FtE.rep (fun k => w.heap.size ≤ k) w' [.string (ftV (xs.drop p)).tg, .slice ya (ftV (xs.drop p)).lk.length yc] (ftV (xs.drop p)) ∧ Sc 81 w' sb a cap xs (p + ftU (xs.drop p)) ∧ Kp sb w w' := by
  obtain ⟨W, hW, XR, hbW⟩ : ∃ W, W = w.alloc (.cells #[.string ⟨#[]⟩, .slice none 0 0] 49) ∧ Bk 49 W w.heap.size [.string ⟨#[]⟩, .slice none 0 0] ∧ Below w.heap.size w W := ⟨_, rfl, Bk.new _ _ _, bl1 _⟩
  have hsl := hS.bk.lt
  have HS0 : Hid (Sc 81 w sb a cap xs p) := hS
  have hKp : Kp sb w W := Kp.of hbW
  have hSW := hS.below hbW
  obtain ⟨gr, hgr⟩ : ∃ n, w.heap.size = n := ⟨_, rfl⟩
  have HGR : Hid (w.heap.size = gr) := hgr
  rw [hgr] at XR hsl
  have HE1 : Hid (ftV (xs.drop p) = ⟨tgV xs (p : Int), nlV (xs.drop (p + 4))⟩) := by show _ = _; rw [ftV, List.drop_drop, (tgV_drop xs p).1]
  have HE2 : Hid (p + ftU (xs.drop p) = p + 4 + lsU two_ 10 (xs.drop (p + 4))) := by show _ = _; rw [ftU, nlU, List.drop_drop]; omega
  have HTS : Hid ((tgV xs (p : Int)).size ≤ maxLen) := by
    show _ ≤ _
    unfold tgV
    split
    · rw [size_str8]
      have : (cutV xs (p : Int) 4).length ≤ xs.length := by
        unfold cutV
        split
        · rw [List.length_take, List.length_drop]; omega
        · simp
      unfold maxLen
      omega
    · exact Nat.zero_le _
  rw [HE1.out]
  dsimp only
  have hnl : (lsV nuV two_ 10 (xs.drop (p + 4))).length ≤ 100000 := by rw [lsV_len]; unfold ctV; omega
  have hq := fun V (h : Sc 81 V sb a cap xs (p + 4)) => takeIF_any sb a cap xs (p + 4) V h (by omega)
  have HNL : Hid (nlV (xs.drop (p + 4)) = lsV nuV two_ 10 (xs.drop (p + 4))) := rfl
  rw [HNL.out]
  clear HNL HE1
  generalize lsV nuV two_ 10 (xs.drop (p + 4)) = lk at *
  have hu := fun U (hr : Rb U a cap xs) => tag_any a cap xs (p : Int) U hr ⟨by omega, by omega⟩ hxl
  generalize tgV xs (p : Int) = tg at *
  generalize tgB xs (p : Int) = th0 at *
  clear hS hbW
  go_enter Try.func46, Try.ntmps46
  go_upto_region 1 with fail
  rw [← hW]
  try rw [hgr]
  clear hW hgr
  obtain ⟨z0, z1, -⟩ := hSW.bk.two
  refine wp_region_held_drew (S := fun w9 => w9.cell? ⟨sb, 0, none⟩ = some (.slice a xs.length cap) ∧ w9.cell? ⟨sb, 1, none⟩ = some (.int .i64 (p : Int))) (by kernel_rfl) ?_ (fun hHeld => ?_)
  · (try dsimp only)
    go_keep
  have hdr : Below W.heap.size W W.drew := Below.drew1
  generalize W.drew = Z at hdr hHeld ⊢
  replace hSW := hSW.below hdr
  replace XR := XR.below hdr
  replace hKp := hKp.trans (Kp.of hdr)
  clear hdr z0 z1
  refine hT 0 hHeld ?_
  refine hT 1 hHeld ?_
  refine hT 2 hHeld ?_
  refine hT 3 hHeld ?_
  refine hT 4 hHeld ?_
  refine hT 5 hHeld ?_
  refine hT 6 hHeld ?_
  refine hT 7 hHeld ?_
  refine hCall (i := 8) rfl (by kernel_rfl) (by rfl) (fun K hK => ?_)
  go_simp
  refine (hu _ hSW.rb).mono ?_
  rintro e Z2 ⟨rfl, hb2⟩
  replace hSW := hSW.below hb2
  replace XR := XR.below hb2
  replace hKp := hKp.trans (Kp.of hb2)
  obtain ⟨z0, z1, -⟩ := hSW.bk.two
  go_wp2_with fail
  refine hK.out _ _ ?_ (fun hHeld => ?_)
  · (try dsimp only)
    exact ⟨z0, z1⟩
  clear hK K z0 z1 hb2
  try simp only [Act.put, List.setIfInBounds_toArray, List.set_cons_zero, List.set_cons_succ]
  refine hT 9 hHeld ?_
  refine hT 10 hHeld ?_
  refine hT 11 hHeld ?_
  refine hT 12 hHeld ?_
  refine hT 13 hHeld ?_
  refine wpAnyH_done (by kernel_rfl) ?_ _
  clear hHeld hu
  have hw2 : IntKind.i64.wrap ((p : Int) + 4) = ((p + 4 : Nat) : Int) := by rw [wrapi64F (by omega) (by omega)]; omega
  obtain ⟨zc0, zc1, fc0, fc1⟩ := hSW.bk.two
  obtain ⟨V, hV, hSV, hKV, XV⟩ : ∃ V, V = Z2.setCell ⟨sb, 1, none⟩ (.int .i64 ((p : Int) + 4)) ∧ Sc 81 V sb a cap xs (p + 4) ∧ Kp sb w V ∧ Bk 49 V gr [.string ⟨#[]⟩, .slice none 0 0] := ⟨_, rfl, by
    have h := hSW.step (p + 4)
    rw [show ((p + 4 : Nat) : Int) = (p : Int) + 4 by omega] at h
    exact h, hKp.setCell 1 _, XR.other 1 _ (by omega)⟩
  clear hSW XR hKp
  go_upto_region 3 with fail
  rw [← hV]
  clear hV zc0 zc1 fc0 fc1 hw2
  have HVS : Hid (w.heap.size ≤ V.heap.size) := hKV.size
  have HVG : Hid (gr < V.heap.size) := XV.lt
  go_wp2_with fail
  refine (hq _ hSV).mono ?_
  rintro e v3 ⟨v, rfl, hG, hS3, hk3⟩
  replace XV := XV.kp hk3 (by omega)
  replace hKV := hKV.trans hk3
  rw [← HE2.out] at hS3
  obtain ⟨ya, yc, rfl, hrow⟩ := hG.repF hnl
  have HXR : Hid (Bk 49 ((v3.setCell ⟨gr, 0, none⟩ (.string tg)).setCell ⟨gr, 1, none⟩ (.slice ya lk.length yc)) gr [.string tg, .slice ya lk.length yc]) := (XV.set 0 _).set 1 _
  have HKF : Hid (Kp sb w ((v3.setCell ⟨gr, 0, none⟩ (.string tg)).setCell ⟨gr, 1, none⟩ (.slice ya lk.length yc))) := (hKV.newF (by have := HGR.out; omega) 0 _).newF (by have := HGR.out; omega) 1 _
  have HBF : Hid (Bk 81 ((v3.setCell ⟨gr, 0, none⟩ (.string tg)).setCell ⟨gr, 1, none⟩ (.slice ya lk.length yc)) sb [.slice a xs.length cap, .int .i64 ((p + ftU (xs.drop p) : Nat) : Int)]) := (hS3.bk.other 0 _ (by omega)).other 1 _ (by omega)
  have HRO : Hid (El.int.row.rep (fun k => w.heap.size ≤ k) ((v3.setCell ⟨gr, 0, none⟩ (.string tg)).setCell ⟨gr, 1, none⟩ (.slice ya lk.length yc)) [.slice ya lk.length yc] lk) := El.int.row.stay hrow (by simp [World.setCell]) (fun k hk hlt => ⟨Nat.le_trans HVS.out hk, by
    have hne : k ≠ gr := by have := hk; have := XV.lt; have h9 := HVG.out; omega
    rw [Below.heap_setCell _ _ _ _ (fun e => hne e), Below.heap_setCell _ _ _ _ (fun e => hne e)]⟩)
  obtain ⟨y0, y1, f0, f1⟩ := XV.two
  clear hKV hS3 XV hG hrow hq hSV hk3
  go_wp2
  refine bodyPost_ret (v := .agg #[.string tg, .slice ya lk.length yc]) (by obtain ⟨r0, r1, -⟩ := HXR.out.two; simp [results, Try.results46, go_sem, r0, r1]) rfl ⟨ya, yc, rfl, FtE_rep.2 ⟨ya, yc, rfl, HTS.out, HRO.out⟩, HS0.out.ofF HKF.out HBF.out, HKF.out⟩

set_option maxHeartbeats 4000000 in
set_option maxRecDepth 100000 in
theorem takeFF_any (sb : Nat) (a : Option Addr) (cap : Nat) (xs : List Nat) (p : Nat) (w : World) (hS : Sc 81 w sb a cap xs p) (hp : p ≤ 1000) (hxl : xs.length ≤ 1000000000) :
    Calls Try.prog 45 #[.pointer (some ⟨sb, 0, none⟩), .int .i64 10, .func (.func 46) #[.pointer (some ⟨sb, 0, none⟩)] #[]] w fun e w' => ∃ v, e = .returned v ∧ Gw FtE 49 w.heap.size (fun k => w.heap.size ≤ k) w' v (lsV ftV ftU 10 (xs.drop p)) ∧ Sc 81 w' sb a cap xs (p + lsU ftU 10 (xs.drop p)) ∧ Kp sb w w' := by
  have hsl := hS.bk.lt
  have HBL : Hid (∀ b o, a = some ⟨b, o, none⟩ → xs ≠ [] → b < w.heap.size) := fun b o e hne => by
    rcases hS.rb.2.2.2.2 with h0 | ⟨b', o', e', hb, _⟩
    · exact absurd h0 hne
    · rw [e] at e'
      cases e'
      exact hb
  have hnum := numF_any sb a cap xs p w hS (by omega)
  have HLV : Hid (lsV ftV ftU 10 (xs.drop p) = mnV ftV ftU (ctV 10 (xs.drop p)) (xs.drop (p + 2))) := by show _ = _; rw [lsV, List.drop_drop]
  have HLU : Hid (p + lsU ftU 10 (xs.drop p) = p + 2 + mnU ftU (ctV 10 (xs.drop p)) (xs.drop (p + 2))) := by show _ = _; rw [lsU, List.drop_drop]; omega
  have HMU : Hid (∀ n, mnU ftU n (xs.drop (p + 2)) ≤ 28 * n) := fun n => mnU_le (m := 28) ftU_le n _
  obtain ⟨N, hN⟩ : ∃ N, ctV 10 (xs.drop p) = N := ⟨_, rfl⟩
  have hNv : min (nuV (xs.drop p)) 11 = (N : Int) := by
    rw [← hN, ctV, nuV]
    omega
  have hN11 : N ≤ 11 := by rw [← hN]; unfold ctV; omega
  rw [hN] at HLV HLU
  generalize nuV (xs.drop p) = c0 at *
  obtain ⟨g, hg⟩ : ∃ n, w.heap.size = n := ⟨_, rfl⟩
  rw [hg] at hsl ⊢
  clear hN
  go_enter Try.func45, Try.ntmps45
  go_wp2_with fail
  refine hnum.mono ?_
  rintro e u1 ⟨rfl, hS1, hK1⟩
  have hgs : g ≤ u1.heap.size := by rw [← hg]; exact hK1.size
  have hG0 : Gw FtE 49 g (fun k => g ≤ k) u1 (.slice none 0 0) (mnV ftV ftU 0 (xs.drop (p + 2))) := Gw.nil _ _ _ _ _
  have hS0 : Sc 81 u1 sb a cap xs (p + 2 + mnU ftU 0 (xs.drop (p + 2))) := hS1
  clear hnum hS hS1
  go_wp2
  go_loopw [7, 13] (fun v i wr => ∃ (k : Nat), k ≤ N ∧ i = .int .i64 (k : Int) ∧ Gw FtE 49 g (fun k => g ≤ k) wr v (mnV ftV ftU k (xs.drop (p + 2))) ∧ Sc 81 wr sb a cap xs (p + 2 + mnU ftU k (xs.drop (p + 2))) ∧ Kp sb w wr ∧ g ≤ wr.heap.size) (fun _ i _ => N - (intOf i).toNat)
  case atStart => exact ⟨0, Nat.zero_le _, rfl, hG0, hS0, hK1, hgs⟩
  case round =>
    clear hG0 hS0 hK1 hgs
    obtain ⟨k, hk, rfl, hGw, hSc, hK, hgs⟩ := hrel
    obtain ⟨a7, c7, e7, -, -⟩ := hGw.slice
    subst e7
    rw [mnV_len] at hGw ⊢
    by_cases hkn : k < N
    rotate_left
    · obtain rfl : k = N := by omega
      have g4 : ¬ (k : Int) < (k : Int) := by omega
      rw [← HLV.out] at hGw
      rw [← HLU.out] at hSc
      have HG : Hid (_) := hGw
      have HS : Hid (_) := hSc
      clear hGw hSc
      go_wp2
      go_ret
      exact ⟨_, rfl, HG.out, HS.out, hK⟩
    have g2 : (k : Int) < (N : Int) := by omega
    have hpk : p + 2 + mnU ftU k (xs.drop (p + 2)) ≤ 10000 := by
      have h1 := HMU.out k
      have h2 : 28 * k ≤ 28 * 11 := Nat.mul_le_mul_left _ (by omega)
      omega
    obtain ⟨hs1, hs2⟩ := mnV_succ (f := ftV) (u := ftU) k (xs.drop (p + 2))
    rw [List.drop_drop] at hs1 hs2
    have HS1 : Hid (_) := hs1
    have HS2 : Hid (p + 2 + mnU ftU (k + 1) (xs.drop (p + 2)) = p + 2 + mnU ftU k (xs.drop (p + 2)) + ftU (xs.drop (p + 2 + mnU ftU k (xs.drop (p + 2))))) := by show _ = _; rw [hs2]; omega
    have HLM : Hid ((mnV ftV ftU k (xs.drop (p + 2))).length = k) := mnV_len _ _
    have HOW : Hid (∀ q, (Value.slice a7 k c7).ownBlock = some q → g ≤ q ∧ q < wr.heap.size) := fun q e => hGw.lo e
    clear hs1 hs2
    obtain ⟨q, hq⟩ : ∃ q, p + 2 + mnU ftU k (xs.drop (p + 2)) = q := ⟨_, rfl⟩
    rw [hq] at hSc hpk HS1 HS2
    obtain ⟨M, hM⟩ : ∃ M, mnV ftV ftU k (xs.drop (p + 2)) = M := ⟨_, rfl⟩
    rw [hM] at hGw HS1 HLM
    have hHS : Hid (Sc 81 wr sb a cap xs q) := hSc
    clear hq hM
    have hst := featR_any sb a cap xs q wr hSc (by omega) hxl
    go_wp2_with fail
    refine hst.mono ?_
    rintro e u4 ⟨ya, yc, rfl, hrep, hS4, hk4⟩
    have hGw4 := hGw.kpF hsl hk4
    have hK4 := hK.trans hk4
    have hs4 := hk4.size
    rw [← HS2.out] at hS4
    generalize ftV (xs.drop q) = x at *
    obtain ⟨V9, hV9, Y9, hb9⟩ : ∃ W, W = u4.alloc (.cells #[.string x.tg, .slice ya x.lk.length yc] 49) ∧ Bk 49 W u4.heap.size [.string x.tg, .slice ya x.lk.length yc] ∧ Below u4.heap.size u4 W := ⟨_, rfl, Bk.new _ _ _, bl1 _⟩
    have hrep2 := FtE.stay hrep hb9.size (S' := fun q => g ≤ q ∧ (Value.slice a7 k c7).ownBlock ≠ some q) (fun q hq hl => ⟨⟨by omega, fun e => by have := (HOW.out q e).2; omega⟩, hb9.block q hl⟩)
    have hone := Gr.one (E := FtE) hrep2 Y9.lt (fun j hj => Y9.cell j hj)
    have hGb := hGw4.below hb9
    have hs9 := hb9.size
    have hbs : g ≤ V9.heap.size := by omega
    have hll : M.length + 1 ≤ 1000000 := by have := HLM.out; omega
    have hSb := hS4.below hb9
    have hKb := hK4.trans (Kp.of hb9)
    have HRB : Hid (∀ b o, a = some ⟨b, o, none⟩ → xs ≠ [] → b < g) := fun b o e hne => by rw [← hg]; exact HBL.out b o e hne
    clear hst hrep hrep2 hGw hGw4 hK hk4 hSc hS4 hK4
    go_wp2_with (at_builtin; rw [← hV9]; refine wpList_append_el (E := FtE) 22 49 Try.underlying22 info_ftF rfl (by decide) (by decide) rfl _ _ rfl g (fun k => g ≤ k) _ M rfl hGb (some ⟨u4.heap.size, 0, none⟩) 1 1 [x] rfl rfl hone hll hbs ?_)
    intro v9 w9 hT9 hgrow _
    try rw [← hV9] at hgrow
    rw [← HS1.out] at hT9
    have hS9 := hSb.grown hgrow (fun e => by have := (HOW.out sb e).1; omega) (fun b o e hne e2 => by have h1 := HRB.out b o e hne; have h2 := (HOW.out b e2).1; omega)
    have hK9 := hKb.grown hgrow (fun q hq => by have := (HOW.out q hq).1; omega)
    have hs10 : g ≤ w9.heap.size := Nat.le_trans hbs hgrow.size
    clear hgrow hGb hone hbs hll hV9 Y9 hb9 hSb hKb hs9
    go_wp2
    go_roundw
    case rel => exact ⟨k + 1, by omega, by go_num, hT9, hS9, hK9, hs10⟩
    case measure => simp [intOf]; omega

set_option maxHeartbeats 4000000 in
set_option maxRecDepth 100000 in
theorem swapR_any (sb : Nat) (a : Option Addr) (cap : Nat) (xs : List Nat) (p : Nat) (w : World) (hS : Sc 81 w sb a cap xs p) (hp : p ≤ 10000) :
    Calls Try.prog 48 #[.pointer (some ⟨sb, 0, none⟩)] w fun e w' => ∃ xa xc ya yc, e = .returned (.agg #[.slice xa (swV (xs.drop p)).cn.length xc, .int .i64 (swV (xs.drop p)).ft, .slice ya (swV (xs.drop p)).lk.length yc]) ∧ SwE.rep (fun k => w.heap.size ≤ k) w' [.slice xa (swV (xs.drop p)).cn.length xc, .int .i64 (swV (xs.drop p)).ft, .slice ya (swV (xs.drop p)).lk.length yc] (swV (xs.drop p)) ∧ Sc 81 w' sb a cap xs (p + swU (xs.drop p)) ∧ Kp sb w w' := by
  obtain ⟨W, hW, XR, hbW⟩ : ∃ W, W = w.alloc (.cells #[.slice none 0 0, .int .i64 0, .slice none 0 0] 53) ∧ Bk 53 W w.heap.size [.slice none 0 0, .int .i64 0, .slice none 0 0] ∧ Below w.heap.size w W := ⟨_, rfl, Bk.new _ _ _, bl1 _⟩
  have hsl := hS.bk.lt
  have HS0 : Hid (Sc 81 w sb a cap xs p) := hS
  have hKp : Kp sb w W := Kp.of hbW
  have hSW := hS.below hbW
  obtain ⟨gr, hgr⟩ : ∃ n, w.heap.size = n := ⟨_, rfl⟩
  have HGR : Hid (w.heap.size = gr) := hgr
  rw [hgr] at XR hsl
  have hcu := csU_le (xs.drop p)
  obtain ⟨q, hq⟩ : ∃ q, p + csU (xs.drop p) = q := ⟨_, rfl⟩
  have HQ : Hid (p + lsU six_ 4 (xs.drop p) = q) := hq
  have HE1 : Hid (swV (xs.drop p) = ⟨lsV cnV six_ 4 (xs.drop p), nuV (xs.drop q), lsV nuV two_ 10 (xs.drop (q + 2))⟩) := by
    show _ = _
    rw [swV, csV, nlV, List.drop_drop, List.drop_drop, ← Nat.add_assoc, hq]
  have HE2 : Hid (p + swU (xs.drop p) = q + 2 + lsU two_ 10 (xs.drop (q + 2))) := by
    show _ = _
    rw [swU, nlU, List.drop_drop, show p + (csU (xs.drop p) + 2) = q + 2 by omega]
    omega
  have hvb := nuV_b hS.rb.lim q
  rw [HE1.out]
  dsimp only
  have hq1 := takeCF_any sb a cap xs p W hSW (by omega)
  have HWG : Hid (gr < W.heap.size ∧ w.heap.size ≤ W.heap.size) := ⟨XR.lt, hbW.size⟩
  have hq10 : q ≤ 10100 := by omega
  have h2 := fun v (h : Sc 81 v sb a cap xs q) => numF_any sb a cap xs q v h (by omega)
  have h3 := fun v (h : Sc 81 v sb a cap xs (q + 2)) => takeIF_any sb a cap xs (q + 2) v h (by omega)
  have hcl : (lsV cnV six_ 4 (xs.drop p)).length ≤ 100000 := by rw [lsV_len]; unfold ctV; omega
  have hnl : (lsV nuV two_ 10 (xs.drop (q + 2))).length ≤ 100000 := by rw [lsV_len]; unfold ctV; omega
  clear hS hbW HE1 hq hcu
  generalize lsV cnV six_ 4 (xs.drop p) = cn at *
  generalize nuV (xs.drop q) = ft at *
  generalize lsV nuV two_ 10 (xs.drop (q + 2)) = lk at *
  go_enter Try.func48, Try.ntmps48
  go_upto_region 1 with fail
  rw [← hW]
  try rw [hgr]
  clear hW hgr
  go_wp2_with fail
  refine hq1.mono ?_
  rintro e v1 ⟨v, rfl, hG, hS1, hk1⟩
  replace XR := XR.kp hk1 (by omega)
  replace hKp := hKp.trans hk1
  rw [HQ.out] at hS1
  obtain ⟨xa, xc, rfl, hr1⟩ := hG.repF hcl
  have HV1 : Hid (W.heap.size ≤ v1.heap.size) := hk1.size
  clear hq1 hk1 hSW hG
  go_wp2_with fail
  refine (h2 _ hS1).mono ?_
  rintro e v2 ⟨rfl, hS2, hk2⟩
  replace XR := XR.kp hk2 (by omega)
  replace hKp := hKp.trans hk2
  replace hr1 := CnE.row.stay hr1 hk2.size (S' := fun k => W.heap.size ≤ k) (fun k hk hlt => ⟨hk, hk2.block hlt (by have := HWG.out.1; omega)⟩)
  have HV2 : Hid (v1.heap.size ≤ v2.heap.size) := hk2.size
  clear h2 hk2 hS1
  go_wp2_with fail
  refine (h3 _ hS2).mono ?_
  rintro e v3 ⟨v, rfl, hG, hS3, hk3⟩
  replace XR := XR.kp hk3 (by omega)
  replace hKp := hKp.trans hk3
  replace hr1 := CnE.row.stay hr1 hk3.size (S' := fun k => W.heap.size ≤ k) (fun k hk hlt => ⟨hk, hk3.block hlt (by have := HWG.out.1; omega)⟩)
  rw [← HE2.out] at hS3
  obtain ⟨ya, yc, rfl, hr2⟩ := hG.repF hnl
  have HXR : Hid (Bk 53 (((v3.setCell ⟨gr, 0, none⟩ (.slice xa cn.length xc)).setCell ⟨gr, 1, none⟩ (.int .i64 ft)).setCell ⟨gr, 2, none⟩ (.slice ya lk.length yc)) gr [.slice xa cn.length xc, .int .i64 ft, .slice ya lk.length yc]) := ((XR.set 0 _).set 1 _).set 2 _
  have HKF : Hid (Kp sb w (((v3.setCell ⟨gr, 0, none⟩ (.slice xa cn.length xc)).setCell ⟨gr, 1, none⟩ (.int .i64 ft)).setCell ⟨gr, 2, none⟩ (.slice ya lk.length yc))) := ((hKp.newF (by have := HGR.out; omega) 0 _).newF (by have := HGR.out; omega) 1 _).newF (by have := HGR.out; omega) 2 _
  have HBF : Hid (Bk 81 (((v3.setCell ⟨gr, 0, none⟩ (.slice xa cn.length xc)).setCell ⟨gr, 1, none⟩ (.int .i64 ft)).setCell ⟨gr, 2, none⟩ (.slice ya lk.length yc)) sb [.slice a xs.length cap, .int .i64 ((p + swU (xs.drop p) : Nat) : Int)]) := ((hS3.bk.other 0 _ (by omega)).other 1 _ (by omega)).other 2 _ (by omega)
  have hoth : ∀ k, k ≠ gr → (((v3.setCell ⟨gr, 0, none⟩ (.slice xa cn.length xc)).setCell ⟨gr, 1, none⟩ (.int .i64 ft)).setCell ⟨gr, 2, none⟩ (.slice ya lk.length yc)).heap[k]? = v3.heap[k]? := fun k hne => by
    rw [Below.heap_setCell _ _ _ _ (fun e => hne e), Below.heap_setCell _ _ _ _ (fun e => hne e), Below.heap_setCell _ _ _ _ (fun e => hne e)]
  have HR1 : Hid (CnE.row.rep (fun k => w.heap.size ≤ k) (((v3.setCell ⟨gr, 0, none⟩ (.slice xa cn.length xc)).setCell ⟨gr, 1, none⟩ (.int .i64 ft)).setCell ⟨gr, 2, none⟩ (.slice ya lk.length yc)) [.slice xa cn.length xc] cn) := CnE.row.stay hr1 (by simp [World.setCell]) (fun k hk hlt => ⟨by have := HWG.out.2; omega, hoth k (by have := HWG.out.1; omega)⟩)
  have HR2 : Hid (El.int.row.rep (fun k => w.heap.size ≤ k) (((v3.setCell ⟨gr, 0, none⟩ (.slice xa cn.length xc)).setCell ⟨gr, 1, none⟩ (.int .i64 ft)).setCell ⟨gr, 2, none⟩ (.slice ya lk.length yc)) [.slice ya lk.length yc] lk) := El.int.row.stay hr2 (by simp [World.setCell]) (fun k hk hlt => ⟨by have := HWG.out.2; have := HV1.out; have := HV2.out; omega, hoth k (by have := HWG.out.1; have := HV1.out; have := HV2.out; omega)⟩)
  have HFB : Hid (I64 ft) := ⟨by omega, by omega⟩
  obtain ⟨y0, y1, y2, f0, f1, f2⟩ := XR.three
  clear hKp hS3 XR hG hr1 hr2 h3 hS2 hk3 hoth
  go_wp2
  refine bodyPost_ret (v := .agg #[.slice xa cn.length xc, .int .i64 ft, .slice ya lk.length yc]) (by obtain ⟨r0, r1, r2, -⟩ := HXR.out.three; simp [results, Try.results48, go_sem, r0, r1, r2]) rfl ⟨xa, xc, ya, yc, rfl, SwE_rep.2 ⟨xa, xc, ya, yc, rfl, HR1.out, HFB.out, HR2.out⟩, HS0.out.ofF HKF.out HBF.out, HKF.out⟩

set_option maxHeartbeats 4000000 in
set_option maxRecDepth 100000 in
theorem takeSF_any (sb : Nat) (a : Option Addr) (cap : Nat) (xs : List Nat) (p : Nat) (w : World) (hS : Sc 81 w sb a cap xs p) (hp : p ≤ 1000) (hxl : xs.length ≤ 1000000000) :
    Calls Try.prog 47 #[.pointer (some ⟨sb, 0, none⟩), .int .i64 6, .func (.func 48) #[.pointer (some ⟨sb, 0, none⟩)] #[]] w fun e w' => ∃ v, e = .returned v ∧ Gw SwE 53 w.heap.size (fun k => w.heap.size ≤ k) w' v (lsV swV swU 6 (xs.drop p)) ∧ Sc 81 w' sb a cap xs (p + lsU swU 6 (xs.drop p)) ∧ Kp sb w w' := by
  have hsl := hS.bk.lt
  have HBL : Hid (∀ b o, a = some ⟨b, o, none⟩ → xs ≠ [] → b < w.heap.size) := fun b o e hne => by
    rcases hS.rb.2.2.2.2 with h0 | ⟨b', o', e', hb, _⟩
    · exact absurd h0 hne
    · rw [e] at e'
      cases e'
      exact hb
  have hnum := numF_any sb a cap xs p w hS (by omega)
  have HLV : Hid (lsV swV swU 6 (xs.drop p) = mnV swV swU (ctV 6 (xs.drop p)) (xs.drop (p + 2))) := by show _ = _; rw [lsV, List.drop_drop]
  have HLU : Hid (p + lsU swU 6 (xs.drop p) = p + 2 + mnU swU (ctV 6 (xs.drop p)) (xs.drop (p + 2))) := by show _ = _; rw [lsU, List.drop_drop]; omega
  have HMU : Hid (∀ n, mnU swU n (xs.drop (p + 2)) ≤ 58 * n) := fun n => mnU_le (m := 58) swU_le n _
  obtain ⟨N, hN⟩ : ∃ N, ctV 6 (xs.drop p) = N := ⟨_, rfl⟩
  have hNv : min (nuV (xs.drop p)) 7 = (N : Int) := by
    rw [← hN, ctV, nuV]
    omega
  have hN11 : N ≤ 7 := by rw [← hN]; unfold ctV; omega
  rw [hN] at HLV HLU
  generalize nuV (xs.drop p) = c0 at *
  obtain ⟨g, hg⟩ : ∃ n, w.heap.size = n := ⟨_, rfl⟩
  rw [hg] at hsl ⊢
  clear hN
  go_enter Try.func47, Try.ntmps47
  go_wp2_with fail
  refine hnum.mono ?_
  rintro e u1 ⟨rfl, hS1, hK1⟩
  have hgs : g ≤ u1.heap.size := by rw [← hg]; exact hK1.size
  have hG0 : Gw SwE 53 g (fun k => g ≤ k) u1 (.slice none 0 0) (mnV swV swU 0 (xs.drop (p + 2))) := Gw.nil _ _ _ _ _
  have hS0 : Sc 81 u1 sb a cap xs (p + 2 + mnU swU 0 (xs.drop (p + 2))) := hS1
  clear hnum hS hS1
  go_wp2
  go_loopw [7, 13] (fun v i wr => ∃ (k : Nat), k ≤ N ∧ i = .int .i64 (k : Int) ∧ Gw SwE 53 g (fun k => g ≤ k) wr v (mnV swV swU k (xs.drop (p + 2))) ∧ Sc 81 wr sb a cap xs (p + 2 + mnU swU k (xs.drop (p + 2))) ∧ Kp sb w wr ∧ g ≤ wr.heap.size) (fun _ i _ => N - (intOf i).toNat)
  case atStart => exact ⟨0, Nat.zero_le _, rfl, hG0, hS0, hK1, hgs⟩
  case round =>
    clear hG0 hS0 hK1 hgs
    obtain ⟨k, hk, rfl, hGw, hSc, hK, hgs⟩ := hrel
    obtain ⟨a7, c7, e7, -, -⟩ := hGw.slice
    subst e7
    rw [mnV_len] at hGw ⊢
    by_cases hkn : k < N
    rotate_left
    · obtain rfl : k = N := by omega
      have g4 : ¬ (k : Int) < (k : Int) := by omega
      rw [← HLV.out] at hGw
      rw [← HLU.out] at hSc
      have HG : Hid (_) := hGw
      have HS : Hid (_) := hSc
      clear hGw hSc
      go_wp2
      go_ret
      exact ⟨_, rfl, HG.out, HS.out, hK⟩
    have g2 : (k : Int) < (N : Int) := by omega
    have hpk : p + 2 + mnU swU k (xs.drop (p + 2)) ≤ 10000 := by
      have h1 := HMU.out k
      have h2 : 58 * k ≤ 58 * 7 := Nat.mul_le_mul_left _ (by omega)
      omega
    obtain ⟨hs1, hs2⟩ := mnV_succ (f := swV) (u := swU) k (xs.drop (p + 2))
    rw [List.drop_drop] at hs1 hs2
    have HS1 : Hid (_) := hs1
    have HS2 : Hid (p + 2 + mnU swU (k + 1) (xs.drop (p + 2)) = p + 2 + mnU swU k (xs.drop (p + 2)) + swU (xs.drop (p + 2 + mnU swU k (xs.drop (p + 2))))) := by show _ = _; rw [hs2]; omega
    have HLM : Hid ((mnV swV swU k (xs.drop (p + 2))).length = k) := mnV_len _ _
    have HOW : Hid (∀ q, (Value.slice a7 k c7).ownBlock = some q → g ≤ q ∧ q < wr.heap.size) := fun q e => hGw.lo e
    clear hs1 hs2
    obtain ⟨q, hq⟩ : ∃ q, p + 2 + mnU swU k (xs.drop (p + 2)) = q := ⟨_, rfl⟩
    rw [hq] at hSc hpk HS1 HS2
    obtain ⟨M, hM⟩ : ∃ M, mnV swV swU k (xs.drop (p + 2)) = M := ⟨_, rfl⟩
    rw [hM] at hGw HS1 HLM
    have hHS : Hid (Sc 81 wr sb a cap xs q) := hSc
    clear hq hM
    have hst := swapR_any sb a cap xs q wr hSc (by omega)
    go_wp2_with fail
    refine hst.mono ?_
    rintro e u4 ⟨xa, xc, ya, yc, rfl, hrep, hS4, hk4⟩
    have hGw4 := hGw.kpF hsl hk4
    have hK4 := hK.trans hk4
    have hs4 := hk4.size
    rw [← HS2.out] at hS4
    generalize swV (xs.drop q) = x at *
    obtain ⟨V9, hV9, Y9, hb9⟩ : ∃ W, W = u4.alloc (.cells #[.slice xa x.cn.length xc, .int .i64 x.ft, .slice ya x.lk.length yc] 53) ∧ Bk 53 W u4.heap.size [.slice xa x.cn.length xc, .int .i64 x.ft, .slice ya x.lk.length yc] ∧ Below u4.heap.size u4 W := ⟨_, rfl, Bk.new _ _ _, bl1 _⟩
    have hrep2 := SwE.stay hrep hb9.size (S' := fun q => g ≤ q ∧ (Value.slice a7 k c7).ownBlock ≠ some q) (fun q hq hl => ⟨⟨by omega, fun e => by have := (HOW.out q e).2; omega⟩, hb9.block q hl⟩)
    have hone := Gr.one (E := SwE) hrep2 Y9.lt (fun j hj => Y9.cell j hj)
    have hGb := hGw4.below hb9
    have hs9 := hb9.size
    have hbs : g ≤ V9.heap.size := by omega
    have hll : M.length + 1 ≤ 1000000 := by have := HLM.out; omega
    have hSb := hS4.below hb9
    have hKb := hK4.trans (Kp.of hb9)
    have HRB : Hid (∀ b o, a = some ⟨b, o, none⟩ → xs ≠ [] → b < g) := fun b o e hne => by rw [← hg]; exact HBL.out b o e hne
    clear hst hrep hrep2 hGw hGw4 hK hk4 hSc hS4 hK4
    go_wp2_with (at_builtin; rw [← hV9]; refine wpList_append_el (E := SwE) 23 53 Try.underlying23 info_swF rfl (by decide) (by decide) rfl _ _ rfl g (fun k => g ≤ k) _ M rfl hGb (some ⟨u4.heap.size, 0, none⟩) 1 1 [x] rfl rfl hone hll hbs ?_)
    intro v9 w9 hT9 hgrow _
    try rw [← hV9] at hgrow
    rw [← HS1.out] at hT9
    have hS9 := hSb.grown hgrow (fun e => by have := (HOW.out sb e).1; omega) (fun b o e hne e2 => by have h1 := HRB.out b o e hne; have h2 := (HOW.out b e2).1; omega)
    have hK9 := hKb.grown hgrow (fun q hq => by have := (HOW.out q hq).1; omega)
    have hs10 : g ≤ w9.heap.size := Nat.le_trans hbs hgrow.size
    clear hgrow hGb hone hbs hll hV9 Y9 hb9 hSb hKb hs9
    go_wp2
    go_roundw
    case rel => exact ⟨k + 1, by omega, by go_num, hT9, hS9, hK9, hs10⟩
    case measure => simp [intOf]; omega

set_option maxHeartbeats 4000000 in
set_option maxRecDepth 100000 in
theorem creadF_any (a : Option Addr) (cap : Nat) (xs : List Nat) (n ax : Int) (w : World) (hx : Rb w a cap xs) (hxl : xs.length ≤ 1000000000) :
    Calls Try.prog 17 #[.slice a xs.length cap, .int .i64 n, .int .i64 ax] w fun e w' => ∃ a1 c1 a2 c2, e = .returned (.tuple #[.slice a1 (rdFL xs n ax).length c1, .slice a2 (rdFS xs n ax).length c2, .int .i64 (rdFE xs n ax)]) ∧ FtE.row.rep (fun k => w.heap.size ≤ k) w' [.slice a1 (rdFL xs n ax).length c1] (rdFL xs n ax) ∧ SwE.row.rep (fun k => w.heap.size ≤ k) w' [.slice a2 (rdFS xs n ax).length c2] (rdFS xs n ax) ∧ Below w.heap.size w w' := by
  have kx := hx.le
  have kx2 := hx.cap
  unfold maxLen at kx2
  have HNO : Hid (¬ (usV22 xs = xs.length ∧ foFt (ofV xs) (osV xs) n ax = true ∧ n ≤ 65536 ∧ ax ≤ 65536) → rdFE xs n ax = 2 ∧ rdFL xs n ax = [] ∧ rdFS xs n ax = []) := rdF22_no
  have HNF : Hid (∀ U, FtE.row.rep (fun k => w.heap.size ≤ k) U [.slice none 0 0] []) := fun U => ⟨none, 0, rfl, (fun b o e => by cases e), Gr.nil _ _ _ _ _ (Nat.zero_le _) (fun _ => rfl), by simp⟩
  have HNS : Hid (∀ U, SwE.row.rep (fun k => w.heap.size ≤ k) U [.slice none 0 0] []) := fun U => ⟨none, 0, rfl, (fun b o e => by cases e), Gr.nil _ _ _ _ _ (Nat.zero_le _) (fun _ => rfl), by simp⟩
  by_cases hbig : 65536 < n
  · have HN : Hid (_) := HNO.out (fun h => by omega)
    have g1 : decide (65536 < n) = true := decide_eq_true hbig
    clear HNO
    go_enter Try.func17, Try.ntmps17
    go_wp2
    go_ret3
    exact ⟨none, 0, none, 0, by rw [HN.out.1, HN.out.2.1, HN.out.2.2]; rfl, by rw [HN.out.2.1]; exact HNF.out _, by rw [HN.out.2.2]; exact HNS.out _, Below.refl _ _⟩
  have g1 : decide (65536 < n) = false := decide_eq_false hbig
  by_cases hbig2 : 65536 < ax
  · have HN : Hid (_) := HNO.out (fun h => by omega)
    have g2 : decide (65536 < ax) = true := decide_eq_true hbig2
    clear HNO
    go_enter Try.func17, Try.ntmps17
    go_wp2
    go_ret3
    exact ⟨none, 0, none, 0, by rw [HN.out.1, HN.out.2.1, HN.out.2.2]; rfl, by rw [HN.out.2.1]; exact HNF.out _, by rw [HN.out.2.2]; exact HNS.out _, Below.refl _ _⟩
  have g2 : decide (65536 < ax) = false := decide_eq_false hbig2
  have HYS : Hid (usV22 xs = xs.length → foFt (ofV xs) (osV xs) n ax = true → rdFE xs n ax = 0 ∧ rdFL xs n ax = ofV xs ∧ rdFS xs n ax = osV xs) := fun h1 h2 => rdF22_yes ⟨h1, h2, by omega, by omega⟩
  obtain ⟨W, hW, X2, hbW⟩ : ∃ W, W = w.alloc (.cells #[.slice a xs.length cap, .int .i64 0] 81) ∧ Bk 81 W w.heap.size [.slice a xs.length cap, .int .i64 0] ∧ Below w.heap.size w W := ⟨_, rfl, Bk.new _ _ _, bl1 _⟩
  have hSc : Sc 81 W w.heap.size a cap xs 0 := ⟨X2, hx.below hbW, fun b o e hne => by
    rcases hx.2.2.2.2 with h0 | ⟨b', o', e', hb, _⟩
    · exact absurd h0 hne
    · rw [e] at e'
      cases e'
      omega⟩
  obtain ⟨sb, hsb⟩ : ∃ k, w.heap.size = k := ⟨_, rfl⟩
  have HSB : Hid (w.heap.size = sb) := hsb
  have HBW : Hid (Below w.heap.size w W) := hbW
  rw [hsb] at hSc
  have HWS : Hid (sb < W.heap.size) := hSc.bk.lt
  have hq1 := takeFF_any sb a cap xs 0 W hSc (by omega) hxl
  rw [List.drop_zero, Nat.zero_add] at hq1
  have hfl := flU_le xs
  have hsl := slU_le (xs.drop (flU xs))
  have HFL : Hid (ofV xs = lsV ftV ftU 10 xs) := rfl
  have HFU : Hid (flU xs = lsU ftU 10 xs) := rfl
  have HSL : Hid (osV xs = lsV swV swU 6 (xs.drop (flU xs))) := rfl
  have HSU : Hid (usV22 xs = flU xs + lsU swU 6 (xs.drop (flU xs))) := rfl
  have HL1 : Hid ((lsV ftV ftU 10 xs).length ≤ 100000) := by show _ ≤ _; rw [lsV_len]; unfold ctV; omega
  have HL2 : Hid ((lsV swV swU 6 (xs.drop (flU xs))).length ≤ 100000) := by show _ ≤ _; rw [lsV_len]; unfold ctV; omega
  rw [← HFL.out] at hq1 HL1
  rw [← HFU.out] at hq1
  rw [← HSL.out] at HL2
  clear hSc hbW X2
  go_enter Try.func17, Try.ntmps17
  go_upto_region 4 with fail
  try rw [hsb]
  rw [← hW]
  clear hW hsb
  go_wp2_with fail
  refine hq1.mono ?_
  rintro e v1 ⟨v, rfl, hG, hS1, hk1⟩
  obtain ⟨a1, c1, rfl, hr1⟩ := hG.repF HL1.out
  have hq2 := takeSF_any sb a cap xs (flU xs) v1 hS1 (by omega) hxl
  rw [← HSL.out, ← HSU.out] at hq2
  have HV1 : Hid (W.heap.size ≤ v1.heap.size) := hk1.size
  clear hq1 hG hS1
  go_wp2_with fail
  refine hq2.mono ?_
  rintro e v2 ⟨v, rfl, hG, hS2, hk2⟩
  obtain ⟨a2, c2, rfl, hr2⟩ := hG.repF HL2.out
  replace hr1 := FtE.row.stay hr1 hk2.size (S' := fun k => W.heap.size ≤ k) (fun k hk hlt => ⟨hk, hk2.block hlt (by have := HWS.out; omega)⟩)
  have hKK := hk1.trans hk2
  have hBw : Below w.heap.size w v2 := HBW.out.trans (hKK.below HBW.out.size (by have := HSB.out; omega))
  have hus : usV22 xs ≤ 718 := by have := HSU.out; have h3 : slU (xs.drop (flU xs)) = lsU swU 6 (xs.drop (flU xs)) := rfl; omega
  have hgf := cfoF_any _ a1 c1 (ofV xs) a2 c2 (osV xs) n ax v2 (rowF_rep hr1).1 ((rowF_rep hr2).1.wide (fun k h _ => Nat.le_trans HV1.out h))
  have HR1 : Hid (FtE.row.rep (fun k => w.heap.size ≤ k) v2 [.slice a1 (ofV xs).length c1] (ofV xs)) := FtE.row.stay hr1 (Nat.le_refl _) (fun k hk _ => ⟨by have := HWS.out; have := HSB.out; omega, rfl⟩)
  have HR2 : Hid (SwE.row.rep (fun k => w.heap.size ≤ k) v2 [.slice a2 (osV xs).length c2] (osV xs)) := SwE.row.stay hr2 (Nat.le_refl _) (fun k hk _ => ⟨by have := HWS.out; have := HSB.out; have := HV1.out; omega, rfl⟩)
  obtain ⟨z0, z1, -⟩ := hS2.bk.two
  clear hq2 hG hS2 hk1 hk2 hr1 hr2 hKK HFL HFU HSL HSU hfl hsl
  generalize ofV xs = fl at *
  generalize osV xs = sl at *
  generalize usV22 xs = ud at *
  by_cases hlen : ud = xs.length
  rotate_left
  · have g5 : ((ud : Int) != (xs.length : Int)) = true := bne_iff_ne.2 (by omega)
    have HN : Hid (_) := HNO.out (fun h => hlen h.1)
    clear hgf hlen HYS HNO
    go_wp2
    go_ret3
    exact ⟨none, 0, none, 0, by rw [HN.out.1, HN.out.2.1, HN.out.2.2]; rfl, by rw [HN.out.2.1]; exact HNF.out _, by rw [HN.out.2.2]; exact HNS.out _, hBw⟩
  have g5 : ((ud : Int) != (xs.length : Int)) = false := by rw [hlen]; simp
  cases hfo : foFt fl sl n ax with
  | false =>
    rw [hfo] at hgf
    have HN : Hid (_) := HNO.out (fun h => by rw [hfo] at h; cases h.2.1)
    clear hfo HYS HNO hlen
    go_wp2_with fail
    refine hgf.mono ?_
    rintro e u3 ⟨rfl, hb3⟩
    have HFIN : Hid (_) := hBw.trans (hb3.mono hBw.size)
    clear hgf hb3
    go_wp2
    go_ret3
    exact ⟨none, 0, none, 0, by rw [HN.out.1, HN.out.2.1, HN.out.2.2]; rfl, by rw [HN.out.2.1]; exact HNF.out _, by rw [HN.out.2.2]; exact HNS.out _, HFIN.out⟩
  | true =>
    rw [hfo] at hgf
    have HY : Hid (_) := HYS.out hlen hfo
    clear hfo HYS HNO hlen
    go_wp2_with fail
    refine hgf.mono ?_
    rintro e u3 ⟨rfl, hb3⟩
    have HFIN : Hid (_) := hBw.trans (hb3.mono hBw.size)
    have HG1 : Hid (_) := FtE.row.stay HR1.out hb3.size (S' := fun k => w.heap.size ≤ k) (fun k hk hlt => ⟨hk, hb3.block k hlt⟩)
    have HG2 : Hid (_) := SwE.row.stay HR2.out hb3.size (S' := fun k => w.heap.size ≤ k) (fun k hk hlt => ⟨hk, hb3.block k hlt⟩)
    clear hgf hb3
    go_wp2
    go_ret3
    exact ⟨a1, c1, a2, c2, by rw [HY.out.1, HY.out.2.1, HY.out.2.2]; rfl, by rw [HY.out.2.1]; exact HG1.out, by rw [HY.out.2.2]; exact HG2.out, HFIN.out⟩

end Go.Proofs.Ytaejlopkdkaphaa

namespace Go.Proofs.Ytaejlopkdkaphaa
open Go.RowKit Go.Maps
set_option linter.unusedSimpArgs false
set_option linter.unusedVariables false

theorem list_diff {xs ys : List Nat} (hl : xs.length = ys.length) (h : ∀ k, k < xs.length → xs.getD k 0 = ys.getD k 0) : xs = ys := by
  apply List.ext_getElem hl
  intro i h1 h2
  have := h i h1
  simpa [List.getD, h1, h2] using this

set_option maxHeartbeats 1000000 in
set_option maxRecDepth 100000 in
theorem same8g_any (a b : Option Addr) (ca cb : Nat) (xs ys : List Nat) (w : World) (ha : Rb w a ca xs) (hb : Rb w b cb ys) :
    Calls Try.prog 19 #[.slice a xs.length ca, .slice b ys.length cb] w fun e w' => e = .returned (.bool (decide (xs = ys))) ∧ Below w.heap.size w w' := by
  by_cases hl : xs.length = ys.length
  rotate_left
  · have hne : ((xs.length : Int) != (ys.length : Int)) = true := by simp; omega
    have hd : decide (xs = ys) = false := decide_eq_false (fun e => hl (by rw [e]))
    rw [hd]
    go_enter Try.func19, Try.ntmps19
    go_wp2
    go_ret
    exact ⟨rfl, Below.refl _ _⟩
  have k1 := ha.le
  have k2 := ha.cap
  unfold maxLen at k2
  have fa := ha.fm
  have fb := hb.fm
  clear ha hb
  have HL : Hid (xs.length = ys.length) := hl
  have hne : ((xs.length : Int) != (ys.length : Int)) = false := by simp; omega
  obtain ⟨ly, hly⟩ : ∃ ly, ys.length = ly := ⟨_, rfl⟩
  rw [hly] at hl hne ⊢
  have HLY : Hid (ys.length = ly) := hly
  subst hl
  clear hly
  have HD : Hid (∀ B : Bool, decide (xs = ys) = B → decide (xs = ys) = B) := fun _ h => h
  generalize hD : decide (xs = ys) = D at *
  have HDD : Hid (decide (xs = ys) = D) := hD
  clear hD HD
  go_enter Try.func19, Try.ntmps19
  go_wp2
  go_loopw [5] (fun i wr => ∃ k : Nat, k ≤ xs.length ∧ i = .int .i64 k ∧ (∀ j, j < k → xs.getD j 0 = ys.getD j 0) ∧ Below w.heap.size w wr) (fun i _ => xs.length - (intOf i).toNat)
  case atStart => exact ⟨0, Nat.zero_le _, rfl, fun j hj => by omega, Below.refl _ _⟩
  case round =>
    obtain ⟨k, hk, rfl, hall, hnx⟩ := hrel
    have HALL : Hid (∀ j, j < k → xs.getD j 0 = ys.getD j 0) := hall
    clear hall
    by_cases hkn : k < xs.length
    · obtain ⟨b1, o1, rfl, _, c1⟩ := fa.at hnx k hkn
      obtain ⟨b2, o2, rfl, _, c2⟩ := fb.at hnx k (by rw [HLY.out]; exact hkn)
      obtain ⟨x, hx⟩ : ∃ x, xs.getD k 0 = x := ⟨_, rfl⟩
      obtain ⟨y, hy⟩ : ∃ y, ys.getD k 0 = y := ⟨_, rfl⟩
      rw [hx] at c1
      rw [hy] at c2
      have HX : Hid (xs.getD k 0 = x) := hx
      have HY : Hid (ys.getD k 0 = y) := hy
      clear hx hy
      have i1 : (0 : Int) ≤ (k : Int) := by omega
      have i2 : (k : Int) < (xs.length : Int) := by omega
      by_cases hxy : x = y
      · subst hxy
        have hxx : ((x : Int) != (x : Int)) = false := by simp
        go_wp2_with fail
        go_quiet (fail)
        go_wp2
        go_roundw
        case rel =>
          refine ⟨k + 1, by omega, by go_num, fun j hj => ?_, below_drewN hnx _⟩
          rcases Nat.lt_or_ge j k with h1 | h1
          · exact HALL.out j h1
          · rw [show j = k by omega, HX.out, HY.out]
        case measure => simp [intOf]; omega
      · have hxx : ((x : Int) != (y : Int)) = true := by simp; omega
        have hDf : D = false := by
          rw [← HDD.out]
          refine decide_eq_false (fun e => ?_)
          have h1 := HX.out
          rw [e, HY.out] at h1
          exact hxy h1.symm
        clear hxy
        go_wp2_with fail
        go_quiet (fail)
        go_wp2
        go_ret
        exact ⟨rt_bool (by rw [hDf]), below_drewN hnx _⟩
    · obtain rfl : k = xs.length := by omega
      have hDt : D = true := by
        rw [← HDD.out]
        exact decide_eq_true (list_diff (by rw [HLY.out]) HALL.out)
      go_wp2
      go_ret
      exact ⟨rt_bool (by rw [hDt]), hnx⟩

end Go.Proofs.Ytaejlopkdkaphaa
