/-
  foundryref12.Box: the walk.
  foundryref06.SameInts: the walk.
  What a law is told of a slice of bytes, or of int32, that came in.
  What a law is told of things that came in, one for all (Opens).
  What a law is told of an outline that came in.
-/
import Derived.Test.YtokcdkckomoajaaZ12
import Derived.Test.YtokcdkckomoajaaZ13
import Derived.Test.YtokcdkckomoajaaZ11
import Derived.Test.YtokcdkckomoajaaZ8
import Derived.Test.YtokcdkckomoajaaZ7
import Derived.BigQuiet
import Derived.Deep.QuietTactic
import Derived.WalkSmall
import Derived.Outline
import Derived.Test.YtokcdkckomoajaaZ1
import Derived.ProofKit
import Derived.Test.YtokcdkckomoajaaZ6
import Derived.Deep.Strs
import Derived.OpenShut
import Derived.SizedLaws
import Derived.Lib.SmallJoins
namespace Go.Proofs.Ytokcdkckomoajaa
open Go.RowKit Go.Maps
set_option linter.unusedSimpArgs false
set_option linter.unusedVariables false

theorem Bk.new2 (t : TypeId) (w : World) (o o' : Obj) (cs : List Value) : Bk t (((w.alloc o).alloc o').alloc (.cells cs.toArray t)) (w.heap.size + 2) cs := by
  have := Bk.new t ((w.alloc o).alloc o') cs
  rw [show ((w.alloc o).alloc o').heap.size = w.heap.size + 2 by simp] at this
  exact this

set_option maxHeartbeats 2000000 in
set_option maxRecDepth 100000 in
theorem sbox_any (S : Nat → Prop) (a : Option Addr) (ca : Nat) (vb : Value) (cs : List (List Pn)) (w : World) (h : Gr PnE.row S w a ca cs) (hl : cs.flatten.length ≤ 100000) (hv : vb.cells = #[vb]) :
    Calls Try.prog 25 #[.agg #[.slice a cs.length ca, vb]] w fun e w' => e = .returned (.tuple #[.agg (bxV (bxO cs.flatten)).toArray, .bool (decide (0 < cs.flatten.length))]) ∧ Below w.heap.size w w' := by
  obtain ⟨W, hW, X1, X2, X3, hbW⟩ : ∃ W, W = ((w.alloc (.cells #[.slice a cs.length ca, vb] 25)).alloc (.cells #[.int .i64 0, .int .i64 0, .int .i64 0, .int .i64 0] 44)).alloc (.cells #[.int .i64 0, .int .i64 0, .int .i64 0, .int .i64 0] 44) ∧ Bk 25 W w.heap.size [.slice a cs.length ca, vb] ∧ Bk 44 W (w.heap.size + 1) [.int .i64 0, .int .i64 0, .int .i64 0, .int .i64 0] ∧ Bk 44 W (w.heap.size + 2) [.int .i64 0, .int .i64 0, .int .i64 0, .int .i64 0] ∧ Below w.heap.size w W := ⟨_, rfl, ((Bk.new _ _ _).below (bl1 _)).below (bl1 _), (Bk.new1 _ _ _ _).below (bl1 _), Bk.new2 _ _ _ _ _, (bl2 _ _).alloc (bl2 _ _).size _⟩
  have hpt := spointsO_any S a ca vb cs W (h.below hbW) hl hv
  obtain ⟨x0, x1, _⟩ := X1.two
  have hWs : w.heap.size + 2 < W.heap.size := X3.lt
  clear h
  generalize cs.flatten = L at *
  go_enter Try.func25, Try.ntmps25
  go_wp2_with fail
  rw [← hW]
  clear hW
  refine hpt.mono ?_
  rintro e u1 ⟨a1, c1, rfl, hg, hblk, hb1⟩
  replace hbW : Below w.heap.size w u1 := hbW.trans (hb1.mono hbW.size)
  replace X2 := X2.below hb1
  replace X3 := X3.below hb1
  clear hpt hb1 x0 x1 X1
  have HG : Hid (Gr PnE (fun _ => True) u1 a1 c1 L) := hg
  have HX2 : Hid (Bk 44 u1 (w.heap.size + 1) [.int .i64 0, .int .i64 0, .int .i64 0, .int .i64 0]) := X2
  have HX3 : Hid (Bk 44 u1 (w.heap.size + 2) [.int .i64 0, .int .i64 0, .int .i64 0, .int .i64 0]) := X3
  have HBW : Hid (Below w.heap.size w u1) := hbW
  have HBL : Hid (∀ b o, a1 = some ⟨b, o, none⟩ → W.heap.size ≤ b ∧ b < u1.heap.size) := hblk
  clear hg X2 X3 hbW hblk
  obtain ⟨g4, hg4⟩ : ∃ g4, w.heap.size + 2 = g4 := ⟨_, rfl⟩
  have hg4l : w.heap.size ≤ g4 := by omega
  have hg4m : w.heap.size + 1 ≠ g4 := by omega
  have hg4W : g4 < W.heap.size := by omega
  go_wp2
  rw [hg4] at HX3
  clear hg4 hWs
  go_loopw [6] (fun i wr => ∃ k : Nat, k ≤ L.length ∧ i = .int .i64 k ∧ Bk 44 wr g4 (bxV (bxO (L.take k))) ∧ Kp g4 u1 wr) (fun i _ => L.length - (intOf i).toNat)
  case atStart => exact ⟨0, Nat.zero_le _, rfl, HX3.out, Kp.refl _ _⟩
  case round =>
    clear HX3
    obtain ⟨k, hk, rfl, hY, hK⟩ := hrel
    by_cases hkn : k < L.length
    · obtain ⟨b, off, eb, hb, ⟨v0, v1⟩, _, _, _⟩ := HG.out.pn (Below.refl _ _) k hkn
      subst eb
      have hbb := (HBL.out b off rfl).1
      have hbg : b ≠ g4 := by omega
      have HQ : Hid (∀ wx, Kp g4 u1 wx → wx.cell? ⟨b, off + k * 3, none⟩ = some (.int .i64 (L.getD k Pn.none).x) ∧ wx.cell? ⟨b, off + k * 3 + 1, none⟩ = some (.int .i64 (L.getD k Pn.none).y)) := fun wx hKx => by
        obtain ⟨b', off', e', _, _, c0, c1, _⟩ := (HG.out.keptP hKx (fun b o e _ => by cases e; exact ⟨hb, hbg⟩)).pn (Below.refl _ _) k hkn
        cases e'
        exact ⟨c0, c1⟩
      by_cases hk0 : k = 0
      · subst hk0
        have HS : Hid (bxO (L.take (0 + 1)) = ((L.getD 0 Pn.none).x, (L.getD 0 Pn.none).y, (L.getD 0 Pn.none).x, (L.getD 0 Pn.none).y)) := by show _ = _; rw [take_snoc (d := Pn.none) hkn]; rfl
        simp only [Nat.zero_mul, Nat.add_zero] at HQ
        have hY : Bk 44 wr g4 [.int .i64 0, .int .i64 0, .int .i64 0, .int .i64 0] := hY
        generalize L.getD 0 Pn.none = p at *
        obtain ⟨x5, y5, on5⟩ := p
        dsimp only at v0 v1 HQ HS
        have i2 : (0 : Int) < (L.length : Int) := by omega
        obtain ⟨c0, c1⟩ := HQ.out _ hK
        obtain ⟨r0, r1, r2, r3, f0, f1, f2, f3⟩ := hY.four
        go_upto_region 6 with fail
        refine wp_region_held_drew (S := fun w9 => w9.cell? ⟨b, off, none⟩ = some (.int .i64 x5) ∧ w9.cell? ⟨g4, 0, none⟩ = some (.int .i64 0)) (by kernel_rfl) ?_ (fun hHeld => ?_)
        · (try dsimp only)
          go_keep
        have hdr : Below wr.heap.size wr wr.drew := Below.drew1
        generalize wr.drew = d0 at hdr hHeld ⊢
        replace hY := hY.below hdr
        replace hK := hK.trans (Kp.of hdr)
        clear hdr c0 c1 r0 r1 r2 r3 f0 f1 f2 f3
        refine hT 0 hHeld ?_
        refine hT 1 hHeld ?_
        refine hT 2 hHeld ?_
        refine hN 3 hHeld ?_
        refine hN 4 hHeld ?_
        refine hN 5 hHeld ?_
        refine hN 6 hHeld ?_
        refine hN 7 hHeld ?_
        refine hN 8 hHeld ?_
        refine hN 9 hHeld ?_
        refine hN 10 hHeld ?_
        refine hT 11 hHeld ?_
        refine wpAnyH_done (by kernel_rfl) ?_ _
        clear hHeld
        obtain ⟨c0, c1⟩ := HQ.out _ hK
        obtain ⟨r0, r1, r2, r3, f0, f1, f2, f3⟩ := hY.four
        go_upto_if 26 with fail
        go_cut [] from 9 to 86 (fun wx => Bk 44 wx g4 [.int .i64 x5, .int .i64 0, .int .i64 0, .int .i64 0] ∧ Kp g4 u1 wx)
        case first =>
          go_wp2_with fail
          go_meet
          exact ⟨hY.set 0 (.int .i64 x5), hK.setCell _ _⟩
        case rest =>
        clear hY hK c0 c1 r0 r1 r2 r3 f0 f1 f2 f3
        obtain ⟨hY, hK⟩ := hcut
        obtain ⟨z0, rfl⟩ : ∃ z, z = wc := ⟨_, rfl⟩
        obtain ⟨c0, c1⟩ := HQ.out _ hK
        obtain ⟨r0, r1, r2, r3, f0, f1, f2, f3⟩ := hY.four
        go_upto_region 8 with fail
        refine wp_region_held_drew (S := fun w9 => w9.cell? ⟨b, off + 1, none⟩ = some (.int .i64 y5) ∧ w9.cell? ⟨g4, 1, none⟩ = some (.int .i64 0)) (by kernel_rfl) ?_ (fun hHeld => ?_)
        · (try dsimp only)
          go_keep
        have hdr : Below z0.heap.size z0 z0.drew := Below.drew1
        generalize z0.drew = d1 at hdr hHeld ⊢
        replace hY := hY.below hdr
        replace hK := hK.trans (Kp.of hdr)
        clear hdr c0 c1 r0 r1 r2 r3 f0 f1 f2 f3
        refine hT 0 hHeld ?_
        refine hT 1 hHeld ?_
        refine hT 2 hHeld ?_
        refine hN 3 hHeld ?_
        refine hN 4 hHeld ?_
        refine hN 5 hHeld ?_
        refine hN 6 hHeld ?_
        refine hN 7 hHeld ?_
        refine hN 8 hHeld ?_
        refine hN 9 hHeld ?_
        refine hN 10 hHeld ?_
        refine hT 11 hHeld ?_
        refine wpAnyH_done (by kernel_rfl) ?_ _
        clear hHeld
        obtain ⟨c0, c1⟩ := HQ.out _ hK
        obtain ⟨r0, r1, r2, r3, f0, f1, f2, f3⟩ := hY.four
        go_upto_if 44 with fail
        go_cut [] from 9 to 86 (fun wx => Bk 44 wx g4 [.int .i64 x5, .int .i64 y5, .int .i64 0, .int .i64 0] ∧ Kp g4 u1 wx)
        case first =>
          go_wp2_with fail
          go_meet
          exact ⟨hY.set 1 (.int .i64 y5), hK.setCell _ _⟩
        case rest =>
        clear hY hK c0 c1 r0 r1 r2 r3 f0 f1 f2 f3
        obtain ⟨hY, hK⟩ := hcut
        obtain ⟨z1, rfl⟩ : ∃ z, z = wc := ⟨_, rfl⟩
        obtain ⟨c0, c1⟩ := HQ.out _ hK
        obtain ⟨r0, r1, r2, r3, f0, f1, f2, f3⟩ := hY.four
        go_upto_region 10 with fail
        refine wp_region_held_drew (S := fun w9 => w9.cell? ⟨b, off, none⟩ = some (.int .i64 x5) ∧ w9.cell? ⟨g4, 2, none⟩ = some (.int .i64 0)) (by kernel_rfl) ?_ (fun hHeld => ?_)
        · (try dsimp only)
          go_keep
        have hdr : Below z1.heap.size z1 z1.drew := Below.drew1
        generalize z1.drew = d2 at hdr hHeld ⊢
        replace hY := hY.below hdr
        replace hK := hK.trans (Kp.of hdr)
        clear hdr c0 c1 r0 r1 r2 r3 f0 f1 f2 f3
        refine hT 0 hHeld ?_
        refine hT 1 hHeld ?_
        refine hT 2 hHeld ?_
        refine hN 3 hHeld ?_
        refine hN 4 hHeld ?_
        refine hN 5 hHeld ?_
        refine hN 6 hHeld ?_
        refine hN 7 hHeld ?_
        refine hN 8 hHeld ?_
        refine hN 9 hHeld ?_
        refine hN 10 hHeld ?_
        refine hT 11 hHeld ?_
        refine wpAnyH_done (by kernel_rfl) ?_ _
        clear hHeld
        obtain ⟨c0, c1⟩ := HQ.out _ hK
        obtain ⟨r0, r1, r2, r3, f0, f1, f2, f3⟩ := hY.four
        go_upto_if 62 with fail
        go_cut [] from 9 to 86 (fun wx => Bk 44 wx g4 [.int .i64 x5, .int .i64 y5, .int .i64 x5, .int .i64 0] ∧ Kp g4 u1 wx)
        case first =>
          go_wp2_with fail
          go_meet
          exact ⟨hY.set 2 (.int .i64 x5), hK.setCell _ _⟩
        case rest =>
        clear hY hK c0 c1 r0 r1 r2 r3 f0 f1 f2 f3
        obtain ⟨hY, hK⟩ := hcut
        obtain ⟨z2, rfl⟩ : ∃ z, z = wc := ⟨_, rfl⟩
        obtain ⟨c0, c1⟩ := HQ.out _ hK
        obtain ⟨r0, r1, r2, r3, f0, f1, f2, f3⟩ := hY.four
        go_upto_region 12 with fail
        refine wp_region_held_drew (S := fun w9 => w9.cell? ⟨b, off + 1, none⟩ = some (.int .i64 y5) ∧ w9.cell? ⟨g4, 3, none⟩ = some (.int .i64 0)) (by kernel_rfl) ?_ (fun hHeld => ?_)
        · (try dsimp only)
          go_keep
        have hdr : Below z2.heap.size z2 z2.drew := Below.drew1
        generalize z2.drew = d3 at hdr hHeld ⊢
        replace hY := hY.below hdr
        replace hK := hK.trans (Kp.of hdr)
        clear hdr c0 c1 r0 r1 r2 r3 f0 f1 f2 f3
        refine hT 0 hHeld ?_
        refine hT 1 hHeld ?_
        refine hT 2 hHeld ?_
        refine hN 3 hHeld ?_
        refine hN 4 hHeld ?_
        refine hN 5 hHeld ?_
        refine hN 6 hHeld ?_
        refine hN 7 hHeld ?_
        refine hN 8 hHeld ?_
        refine hN 9 hHeld ?_
        refine hN 10 hHeld ?_
        refine hT 11 hHeld ?_
        refine wpAnyH_done (by kernel_rfl) ?_ _
        clear hHeld
        obtain ⟨c0, c1⟩ := HQ.out _ hK
        obtain ⟨r0, r1, r2, r3, f0, f1, f2, f3⟩ := hY.four
        go_wp2
        go_roundw
        case rel =>
          refine ⟨0 + 1, ?_, by go_num, ?_, hK.setCell _ _⟩
          · omega
          · rw [HS.out, bxV_eq]
            exact hY.set 3 (.int .i64 y5)
        case measure => simp [intOf]; omega
      · obtain ⟨k, rfl⟩ : ∃ j, k = j + 1 := ⟨k - 1, by omega⟩
        have HS : Hid (_) := bxO_take (l := L) (k := k) hkn rfl
        generalize L.getD (k + 1) Pn.none = p at *
        obtain ⟨x5, y5, on5⟩ := p
        dsimp only at v0 v1 HQ
        generalize bxO (L.take (k + 1)) = B at *
        obtain ⟨m0, m1, m2, m3⟩ := B
        rw [bxV_eq] at hY
        dsimp only at hY
        unfold bxS at HS
        dsimp only at HS
        clear hk0
        obtain ⟨k, rfl⟩ : ∃ j, j = k + 1 := ⟨_, rfl⟩
        obtain ⟨j, hj⟩ : ∃ j, k + 1 = j := ⟨_, rfl⟩
        have hj0 : 1 ≤ j := by omega
        rw [hj] at HQ HS hkn ⊢
        clear hj hk
        have hb0 : ((j : Int) == 0) = false := by simp; omega
        have hb1 : ¬ (j : Int) = 0 := by omega
        have i1 : (0 : Int) ≤ (j : Int) := by omega
        have i2 : (j : Int) < (L.length : Int) := by omega
        obtain ⟨c0, c1⟩ := HQ.out _ hK
        obtain ⟨r0, r1, r2, r3, f0, f1, f2, f3⟩ := hY.four
        go_upto_region 6 with fail
        refine wp_region_held_drew (S := fun w9 => w9.cell? ⟨b, off + j * 3, none⟩ = some (.int .i64 x5) ∧ w9.cell? ⟨g4, 0, none⟩ = some (.int .i64 m0)) (by kernel_rfl) ?_ (fun hHeld => ?_)
        · (try dsimp only)
          go_keep
        have hdr : Below wr.heap.size wr wr.drew := Below.drew1
        generalize wr.drew = d0 at hdr hHeld ⊢
        replace hY := hY.below hdr
        replace hK := hK.trans (Kp.of hdr)
        clear hdr c0 c1 r0 r1 r2 r3 f0 f1 f2 f3
        refine hT 0 hHeld ?_
        refine hT 1 hHeld ?_
        refine hT 2 hHeld ?_
        refine hT 3 hHeld ?_
        refine hT 4 hHeld ?_
        refine hT 5 hHeld ?_
        refine hT 6 hHeld ?_
        refine hT 7 hHeld ?_
        refine hT 8 hHeld ?_
        refine hT 9 hHeld ?_
        refine hT 10 hHeld ?_
        refine hT 11 hHeld ?_
        refine wpAnyH_done (by kernel_rfl) ?_ _
        clear hHeld
        obtain ⟨c0, c1⟩ := HQ.out _ hK
        obtain ⟨r0, r1, r2, r3, f0, f1, f2, f3⟩ := hY.four
        go_upto_if 26 with fail
        go_cut [] from 9 to 86 (fun wx => Bk 44 wx g4 [.int .i64 (min m0 x5), .int .i64 m1, .int .i64 m2, .int .i64 m3] ∧ Kp g4 u1 wx)
        case first =>
          by_cases hx : x5 < m0
          · go_wp2_with fail
            go_meet
            rw [show min m0 x5 = x5 by omega]
            exact ⟨hY.set 0 (.int .i64 x5), hK.setCell _ _⟩
          · go_wp2_with fail
            go_meet
            rw [show min m0 x5 = m0 by omega]
            exact ⟨hY, hK⟩
        case rest =>
        clear hY hK c0 c1 r0 r1 r2 r3 f0 f1 f2 f3
        obtain ⟨hY, hK⟩ := hcut
        obtain ⟨z0, rfl⟩ : ∃ z, z = wc := ⟨_, rfl⟩
        obtain ⟨c0, c1⟩ := HQ.out _ hK
        obtain ⟨r0, r1, r2, r3, f0, f1, f2, f3⟩ := hY.four
        go_upto_region 8 with fail
        refine wp_region_held_drew (S := fun w9 => w9.cell? ⟨b, off + j * 3 + 1, none⟩ = some (.int .i64 y5) ∧ w9.cell? ⟨g4, 1, none⟩ = some (.int .i64 m1)) (by kernel_rfl) ?_ (fun hHeld => ?_)
        · (try dsimp only)
          go_keep
        have hdr : Below z0.heap.size z0 z0.drew := Below.drew1
        generalize z0.drew = d1 at hdr hHeld ⊢
        replace hY := hY.below hdr
        replace hK := hK.trans (Kp.of hdr)
        clear hdr c0 c1 r0 r1 r2 r3 f0 f1 f2 f3
        refine hT 0 hHeld ?_
        refine hT 1 hHeld ?_
        refine hT 2 hHeld ?_
        refine hT 3 hHeld ?_
        refine hT 4 hHeld ?_
        refine hT 5 hHeld ?_
        refine hT 6 hHeld ?_
        refine hT 7 hHeld ?_
        refine hT 8 hHeld ?_
        refine hT 9 hHeld ?_
        refine hT 10 hHeld ?_
        refine hT 11 hHeld ?_
        refine wpAnyH_done (by kernel_rfl) ?_ _
        clear hHeld
        obtain ⟨c0, c1⟩ := HQ.out _ hK
        obtain ⟨r0, r1, r2, r3, f0, f1, f2, f3⟩ := hY.four
        go_upto_if 44 with fail
        go_cut [] from 9 to 86 (fun wx => Bk 44 wx g4 [.int .i64 (min m0 x5), .int .i64 (min m1 y5), .int .i64 m2, .int .i64 m3] ∧ Kp g4 u1 wx)
        case first =>
          by_cases hx : y5 < m1
          · go_wp2_with fail
            go_meet
            rw [show min m1 y5 = y5 by omega]
            exact ⟨hY.set 1 (.int .i64 y5), hK.setCell _ _⟩
          · go_wp2_with fail
            go_meet
            rw [show min m1 y5 = m1 by omega]
            exact ⟨hY, hK⟩
        case rest =>
        clear hY hK c0 c1 r0 r1 r2 r3 f0 f1 f2 f3
        obtain ⟨hY, hK⟩ := hcut
        obtain ⟨z1, rfl⟩ : ∃ z, z = wc := ⟨_, rfl⟩
        obtain ⟨c0, c1⟩ := HQ.out _ hK
        obtain ⟨r0, r1, r2, r3, f0, f1, f2, f3⟩ := hY.four
        go_upto_region 10 with fail
        refine wp_region_held_drew (S := fun w9 => w9.cell? ⟨b, off + j * 3, none⟩ = some (.int .i64 x5) ∧ w9.cell? ⟨g4, 2, none⟩ = some (.int .i64 m2)) (by kernel_rfl) ?_ (fun hHeld => ?_)
        · (try dsimp only)
          go_keep
        have hdr : Below z1.heap.size z1 z1.drew := Below.drew1
        generalize z1.drew = d2 at hdr hHeld ⊢
        replace hY := hY.below hdr
        replace hK := hK.trans (Kp.of hdr)
        clear hdr c0 c1 r0 r1 r2 r3 f0 f1 f2 f3
        refine hT 0 hHeld ?_
        refine hT 1 hHeld ?_
        refine hT 2 hHeld ?_
        refine hT 3 hHeld ?_
        refine hT 4 hHeld ?_
        refine hT 5 hHeld ?_
        refine hT 6 hHeld ?_
        refine hT 7 hHeld ?_
        refine hT 8 hHeld ?_
        refine hT 9 hHeld ?_
        refine hT 10 hHeld ?_
        refine hT 11 hHeld ?_
        refine wpAnyH_done (by kernel_rfl) ?_ _
        clear hHeld
        obtain ⟨c0, c1⟩ := HQ.out _ hK
        obtain ⟨r0, r1, r2, r3, f0, f1, f2, f3⟩ := hY.four
        go_upto_if 62 with fail
        go_cut [] from 9 to 86 (fun wx => Bk 44 wx g4 [.int .i64 (min m0 x5), .int .i64 (min m1 y5), .int .i64 (max m2 x5), .int .i64 m3] ∧ Kp g4 u1 wx)
        case first =>
          by_cases hx : m2 < x5
          · go_wp2_with fail
            go_meet
            rw [show max m2 x5 = x5 by omega]
            exact ⟨hY.set 2 (.int .i64 x5), hK.setCell _ _⟩
          · go_wp2_with fail
            go_meet
            rw [show max m2 x5 = m2 by omega]
            exact ⟨hY, hK⟩
        case rest =>
        clear hY hK c0 c1 r0 r1 r2 r3 f0 f1 f2 f3
        obtain ⟨hY, hK⟩ := hcut
        obtain ⟨z2, rfl⟩ : ∃ z, z = wc := ⟨_, rfl⟩
        obtain ⟨c0, c1⟩ := HQ.out _ hK
        obtain ⟨r0, r1, r2, r3, f0, f1, f2, f3⟩ := hY.four
        go_upto_region 12 with fail
        refine wp_region_held_drew (S := fun w9 => w9.cell? ⟨b, off + j * 3 + 1, none⟩ = some (.int .i64 y5) ∧ w9.cell? ⟨g4, 3, none⟩ = some (.int .i64 m3)) (by kernel_rfl) ?_ (fun hHeld => ?_)
        · (try dsimp only)
          go_keep
        have hdr : Below z2.heap.size z2 z2.drew := Below.drew1
        generalize z2.drew = d3 at hdr hHeld ⊢
        replace hY := hY.below hdr
        replace hK := hK.trans (Kp.of hdr)
        clear hdr c0 c1 r0 r1 r2 r3 f0 f1 f2 f3
        refine hT 0 hHeld ?_
        refine hT 1 hHeld ?_
        refine hT 2 hHeld ?_
        refine hT 3 hHeld ?_
        refine hT 4 hHeld ?_
        refine hT 5 hHeld ?_
        refine hT 6 hHeld ?_
        refine hT 7 hHeld ?_
        refine hT 8 hHeld ?_
        refine hT 9 hHeld ?_
        refine hT 10 hHeld ?_
        refine hT 11 hHeld ?_
        refine wpAnyH_done (by kernel_rfl) ?_ _
        clear hHeld
        obtain ⟨c0, c1⟩ := HQ.out _ hK
        obtain ⟨r0, r1, r2, r3, f0, f1, f2, f3⟩ := hY.four
        by_cases hx : m3 < y5
        · rw [show max m3 y5 = y5 by omega] at HS
          go_wp2
          go_roundw
          case rel =>
            refine ⟨j + 1, ?_, by go_num, ?_, hK.setCell _ _⟩
            · omega
            · rw [HS.out, bxV_eq]
              exact hY.set 3 (.int .i64 y5)
          case measure => simp [intOf]; omega
        · rw [show max m3 y5 = m3 by omega] at HS
          go_wp2
          go_roundw
          case rel =>
            refine ⟨j + 1, ?_, by go_num, ?_, hK⟩
            · omega
            · rw [HS.out, bxV_eq]
              exact hY
          case measure => simp [intOf]; omega
    · obtain rfl : k = L.length := by omega
      rw [List.take_length] at hY
      have X2 := HX2.out.kp hK hg4m
      have hbW : Below w.heap.size w wr := HBW.out.trans (hK.below HBW.out.size hg4l)
      obtain ⟨⟨m0, m1, m2, m3⟩, hm⟩ : ∃ B, bxO L = B := ⟨_, rfl⟩
      have HBX : Hid (bxO L = (m0, m1, m2, m3)) := hm
      rw [hm, bxV_eq] at hY
      dsimp only at hY
      clear hm
      obtain ⟨s0, s1, s2, s3, _⟩ := hY.four
      obtain ⟨z0, z1, z2, z3, f0, f1, f2, f3⟩ := X2.four
      have j2 : ¬ (L.length : Int) < (L.length : Int) := by omega
      obtain ⟨U, hU⟩ : ∃ U, U = ((((wr.setCell ⟨w.heap.size + 1, 0, none⟩ (.int .i64 m0)).setCell ⟨w.heap.size + 1, 1, none⟩ (.int .i64 m1)).setCell ⟨w.heap.size + 1, 2, none⟩ (.int .i64 m2)).setCell ⟨w.heap.size + 1, 3, none⟩ (.int .i64 m3)) := ⟨_, rfl⟩
      have A := X2.set4 (.int .i64 m0) (.int .i64 m1) (.int .i64 m2) (.int .i64 m3)
      have hbU := below_set4 hbW (g := w.heap.size + 1) (Nat.le_succ _) (.int .i64 m0) (.int .i64 m1) (.int .i64 m2) (.int .i64 m3)
      rw [← hU] at A hbU
      go_wp2
      rw [← hU]
      clear hU
      (try simp only [Exit.inBlock, Exit.then])
      refine bodyPost_ret (v := .tuple #[.agg #[.int .i64 m0, .int .i64 m1, .int .i64 m2, .int .i64 m3], .bool (decide (0 < L.length))]) (by obtain ⟨r0, r1, r2, r3, _⟩ := A.four; simp [results, Try.results25, go_sem, r0, r1, r2, r3]) rfl ⟨by rw [HBX.out]; rfl, hbU⟩

end Go.Proofs.Ytokcdkckomoajaa

namespace Go.Proofs.Ytokcdkckomoajaa
open Go.RowKit Go.Maps
set_option linter.unusedSimpArgs false
set_option linter.unusedVariables false

set_option maxHeartbeats 1000000 in
set_option maxRecDepth 100000 in
theorem ssameI_any (a b : Option Addr) (ca cb : Nat) (zs : List Int) (w : World) (ha : Ri w a ca zs) (hb : Ri w b cb zs) :
    Calls Try.prog 21 #[.slice a zs.length ca, .slice b zs.length cb] w fun e w' => e = .returned (.bool true) ∧ Below w.heap.size w w' := by
  have k1 := ha.2.1
  have k2 := ha.2.2.1
  unfold maxLen at k2
  have hne : ((zs.length : Int) != (zs.length : Int)) = false := by simp
  have HA : Hid (Ri w a ca zs) := ha
  have HB : Hid (Ri w b cb zs) := hb
  clear ha hb
  go_enter Try.func21, Try.ntmps21
  go_wp2
  go_loopw [5] (fun i wr => ∃ k : Nat, k ≤ zs.length ∧ i = .int .i64 k ∧ Below w.heap.size w wr) (fun i _ => zs.length - (intOf i).toNat)
  case atStart => exact ⟨0, Nat.zero_le _, rfl, Below.refl _ _⟩
  case round =>
    obtain ⟨k, hk, rfl, hnx⟩ := hrel
    by_cases hkn : k < zs.length
    · obtain ⟨b1, o1, rfl, _, c1⟩ := HA.out.at hnx k hkn
      obtain ⟨b2, o2, rfl, _, c2⟩ := HB.out.at hnx k hkn
      obtain ⟨x, hx⟩ : ∃ x, zs.getD k 0 = x := ⟨_, rfl⟩
      rw [hx] at c1 c2
      have hxx : ((x : Int) != (x : Int)) = false := by simp
      clear hx
      have i1 : (0 : Int) ≤ (k : Int) := by omega
      have i2 : (k : Int) < (zs.length : Int) := by omega
      go_wp2_with fail
      go_quiet (fail)
      go_wp2
      go_roundw
      case rel => exact ⟨k + 1, by omega, by go_num, below_drewN hnx _⟩
      case measure => simp [intOf]; omega
    · go_wp2
      go_ret
      exact ⟨rfl, hnx⟩

end Go.Proofs.Ytokcdkckomoajaa

namespace Go.Proofs.Ytokcdkckomoajaa
open Go.RowKit
set_option linter.unusedSimpArgs false
set_option linter.unusedVariables false

/-- A slice of integers that came in: it is nil; or it leads to a row of 'cap' cells, the numbers 'zs' (the first 'len' are its elements), each fitting its kind. -/
def IsRowK (k : IntKind) (w : World) (a : Option Addr) (len cap : Nat) (zs : List Int) : Prop :=
  (a = none ∧ len = 0 ∧ cap = 0 ∧ zs = []) ∨
  ∃ x, a = some x ∧ len ≤ cap ∧ cap ≤ maxLen ∧ zs.length = cap ∧ (∀ i, i < zs.length → w.cell? (x.add i) = some (.int k (zs.getD i 0))) ∧ ∀ n ∈ zs, (Lit.int k n).wf = true

theorem wfo_u8_bounds {n : Int} (h : (Lit.int .u8 n).wf = true) : 0 ≤ n ∧ n < 256 := by
  simp [Lit.wf, IntKind.min, IntKind.max, IntKind.bits, IntKind.signed] at h
  omega
theorem wfo_i32_bounds {n : Int} (h : (Lit.int .i32 n).wf = true) : -2147483648 ≤ n ∧ n ≤ 2147483647 := by
  simp [Lit.wf, IntKind.min, IntKind.max, IntKind.bits, IntKind.signed] at h
  omega
theorem wfo_i64_bounds {n : Int} (h : (Lit.int .i64 n).wf = true) : -9223372036854775808 ≤ n ∧ n ≤ 9223372036854775807 := by
  simp [Lit.wf, IntKind.min, IntKind.max, IntKind.bits, IntKind.signed] at h
  omega

theorem IsRowK.cells {k : IntKind} {w : World} {a : Option Addr} {len cap : Nat} {zs : List Int} (h : IsRowK k w a len cap zs) :
    ∃ ys : List Int, len = ys.length ∧ (∀ y ∈ ys, (Lit.int k y).wf = true) ∧ ys.length ≤ cap ∧ cap ≤ maxLen ∧ (a = none → cap = 0) ∧
      (ys = [] ∨ ∃ b off, a = some ⟨b, off, none⟩ ∧ b < w.heap.size ∧ ∀ i, i < ys.length → w.cell? ⟨b, off + i, none⟩ = some (.int k (ys.getD i 0))) := by
  rcases h with ⟨rfl, rfl, rfl, rfl⟩ | ⟨x, rfl, h1, h2, h3, hc, hw⟩
  · exact ⟨[], rfl, (fun y hy => by cases hy), Nat.le_refl _, Nat.zero_le _, fun _ => rfl, .inl rfl⟩
  · refine ⟨zs.take len, by simp; omega, fun y hy => hw y (List.mem_of_mem_take hy), by simp; omega, h2, (by simp), ?_⟩
    by_cases h0 : len = 0
    · exact .inl (by simp [h0])
    · obtain ⟨b, off, spot⟩ := x
      have c0 := hc 0 (by omega)
      have hspot : spot = none := by simpa [Addr.add] using World.cell?_spot c0
      subst hspot
      refine .inr ⟨b, off, rfl, ?_, fun i hi => ?_⟩
      · have := World.block_lt_of_cell? w _ c0
        simpa [Addr.add] using this
      · simp at hi
        have hadd : (⟨b, off, none⟩ : Addr).add i = ⟨b, off + i, none⟩ := by unfold Addr.add; split <;> simp_all
        have hci := hc i (by omega)
        rw [hadd] at hci
        rw [hci]
        simp [List.getD, show i < len by omega]

theorem IsRowK.rb {w : World} {a : Option Addr} {len cap : Nat} {zs : List Int} (h : IsRowK .u8 w a len cap zs) : ∃ xs : List Nat, len = xs.length ∧ Rb w a cap xs := by
  obtain ⟨ys, h1, h2, h3, h4, h5, h6⟩ := h.cells
  have hb : ∀ y ∈ ys, 0 ≤ y ∧ y < 256 := fun y hy => wfo_u8_bounds (h2 y hy)
  refine ⟨ys.map Int.toNat, by simp [h1], ?_, by simpa using h3, h4, h5, ?_⟩
  · intro x hx
    obtain ⟨y, hy, rfl⟩ := List.mem_map.1 hx
    have := hb y hy
    omega
  · rcases h6 with rfl | ⟨b, off, e, hlt, hc⟩
    · exact .inl rfl
    · refine .inr ⟨b, off, e, hlt, fun i hi => ?_⟩
      simp at hi
      rw [hc i hi]
      have h0 : ys.getD i 0 = ys[i] := by simp [List.getD, hi]
      have hy := hb ys[i] (List.getElem_mem hi)
      rw [h0]
      simp [List.getD, hi]
      omega

end Go.Proofs.Ytokcdkckomoajaa

namespace Go.Proofs.Ytokcdkckomoajaa
open Go.RowKit
open Go.ChangeShapes Go.WideShapes Go.Joins Go.Deep
set_option linter.unusedSimpArgs false
set_option linter.unusedVariables false

/-- What came in as data of a type lies as such a thing. -/
def Opens {α : Type} (E : El α) (t : TypeId) : Prop :=
  Try.prog.cellsOf t = E.sz ∧ ∀ (H : Type) (enc : TypeId × Value → H) (W : World) (held : Bool) (fuel : Nat) (cs : List Value) (x : DataW H × List MemPlace),
    DataW.trod enc Try.prog W 0 (fun _ => true) held fuel t cs = some x → (∀ n ∈ x.1.weights Try.prog t, n ≤ reachBytes) → ∃ y : α, E.rep (fun k => k < W.heap.size) W cs y
theorem Opens.num {t : TypeId} {k : IntKind} {lo hi : Int} (ht : Try.prog.underlying t = some (.int k)) (hc : Try.prog.cellsOf t = 1) (hb : ∀ z, (Lit.int k z).wf = true → lo ≤ z ∧ z ≤ hi) : Opens (El.num k lo hi) t :=
  ⟨hc, fun H enc W held fuel cs x h hz => by
    obtain ⟨z, e, _, hw⟩ := DataW.trod_int ht h
    exact ⟨z, e, hb z hw⟩⟩
theorem Opens.int {t : TypeId} (ht : Try.prog.underlying t = some (.int .i64)) (hc : Try.prog.cellsOf t = 1) : Opens El.int t := Opens.num ht hc (fun z hw => wfo_i64_bounds hw)
theorem Opens.bool {t : TypeId} (ht : Try.prog.underlying t = some .bool) (hc : Try.prog.cellsOf t = 1) : Opens El.bool t :=
  ⟨hc, fun H enc W held fuel cs x h hz => by
    obtain ⟨z, e, _⟩ := DataW.trod_bool ht h
    exact ⟨z, e⟩⟩
theorem Opens.str {t : TypeId} (ht : Try.prog.underlying t = some .string) (hc : Try.prog.cellsOf t = 1) : Opens El.str t :=
  ⟨hc, fun H enc W held fuel cs x h hz => by
    obtain ⟨z, e, _, hw⟩ := DataW.trod_string ht h
    exact ⟨z, e, hw⟩⟩
theorem Opens.via {α β : Type} {E : El α} {t : TypeId} (h : Opens E t) {f : β → α} {d : β} (hf : ∀ x, ∃ y, f y = x) : Opens (E.via f d) t :=
  ⟨h.1, fun H enc W held fuel cs x h1 hz => by
    obtain ⟨z, hz⟩ := h.2 H enc W held fuel cs x h1 hz
    obtain ⟨y, rfl⟩ := hf z
    exact ⟨y, hz⟩⟩
theorem list_of_ltG {α : Type} {d : α} {p : Nat → α → Prop} : ∀ n, (∀ i, i < n → ∃ o, p i o) → ∃ os : List α, os.length = n ∧ ∀ i, i < n → p i (os.getD i d) := by
  intro n
  induction n with
  | zero => exact fun _ => ⟨[], rfl, fun i hi => by omega⟩
  | succ n ih =>
    intro h
    obtain ⟨os, hl, ho⟩ := ih (fun i hi => h i (by omega))
    obtain ⟨o, h1⟩ := h n (by omega)
    refine ⟨os ++ [o], by simp [hl], fun i hi => ?_⟩
    by_cases hi' : i < n
    · have e : (os ++ [o]).getD i d = os.getD i d := by simp [List.getD, List.getElem?_append_left (show i < os.length by omega)]
      rw [e]
      exact ho i hi'
    · have e : i = n := by omega
      subst e
      have e : (os ++ [o]).getD i d = o := by simp [List.getD, ← hl]
      rw [e]
      exact h1
theorem weights_all {H : Type} {P : Program} {e : TypeId} {d : DataW H} : ∀ {l : List (DataW H)}, d ∈ l → ∀ {n : Nat}, n ∈ d.weights P e → n ∈ DataW.weightsAll P e l
  | c :: l, h, n, hn => by
    rw [DataW.weightsAll, List.mem_append]
    rcases List.mem_cons.1 h with h | h
    · exact .inl (by rw [← h]; exact hn)
    · exact .inr (weights_all h hn)
theorem Opens.row {α : Type} {E : El α} {t e : TypeId} (h : Opens E e) (ht : Try.prog.underlying t = some (.slice e)) (hc : Try.prog.cellsOf t = 1) (hsz : 0 < E.sz) (hby : 1 ≤ Try.prog.bytesOf e) : Opens E.row t :=
  ⟨hc, fun H enc W held fuel cs x hf hz => by
    rcases open_slice ht hf with ⟨hcs, _⟩ | ⟨ad, len, cap, m, n, D, Pl, hcs, _, hl, hm, hmm, hx, hel⟩
    · exact ⟨[], none, 0, hcs, (fun b o e1 => by cases e1), Gr.nil _ _ _ _ _ (Nat.zero_le _) (fun _ => rfl), Nat.zero_le _⟩
    · have hle : len ≤ m := by rw [hmm]; split <;> omega
      subst hx
      have hzm : ∀ i, i < len → ∀ k ∈ (D i).weights Try.prog e, k ≤ reachBytes := by
        intro i hi k hk
        refine hz k ?_
        simp only [DataW.weights, ht, List.mem_cons, List.mem_append]
        exact .inr (.inl (weights_all (List.mem_map.2 ⟨i, List.mem_range.2 hi, rfl⟩) hk))
      have hzl : len ≤ 140737488351232 := by
        have h1 := hz ((((List.range len).map D).length + ((List.range (m - len)).map fun j => D (len + j)).length) * Try.prog.bytesOf e) (by simp only [DataW.weights, ht]; exact List.mem_cons_self)
        rw [List.length_map, List.length_map, List.length_range, List.length_range] at h1
        have h2 : (len + (m - len)) * 1 ≤ (len + (m - len)) * Try.prog.bytesOf e := Nat.mul_le_mul_left _ hby
        have h3 : reachBytes = 140737488351232 := rfl
        omega
      have hone : ∀ i, i < len → ∃ o : α, ∃ vs, E.rep (fun k => k < W.heap.size) W vs o ∧ ∀ j, j < E.sz → W.cell? ((ad.add (i * E.sz)).add j) = vs[j]? := by
        intro i hi
        obtain ⟨cs', hc', ht'⟩ := hel i (by omega)
        rw [h.1] at hc'
        obtain ⟨hlen, _, hcell⟩ := World.cells?_some hc'
        obtain ⟨o, ho⟩ := h.2 H enc W held n cs' _ ht' (hzm i hi)
        refine ⟨o, cs', ho, fun j hj => ?_⟩
        have := hcell j (by omega)
        rw [this, List.getElem?_eq_getElem (by omega)]
      obtain ⟨os, hol, ho⟩ := list_of_ltG (d := E.dfl) len hone
      have key : ∀ i, i < len → ∃ b off vs, ad = ⟨b, off, none⟩ ∧ b < W.heap.size ∧ E.rep (fun k => k < W.heap.size) W vs (os.getD i E.dfl) ∧ ∀ j, j < E.sz → W.cell? ⟨b, off + i * E.sz + j, none⟩ = vs[j]? := by
        intro i hi
        obtain ⟨vs, h1, h2⟩ := ho i hi
        obtain ⟨b, off, spot⟩ := ad
        have h0 := h2 0 hsz
        have hv : 0 < vs.length := by rw [E.len h1]; exact hsz
        rw [List.getElem?_eq_getElem hv] at h0
        have hspot : spot = none := by
          obtain ⟨vs', h1', h2'⟩ := ho 0 (by omega)
          have h0' := h2' 0 hsz
          rw [List.getElem?_eq_getElem (by rw [E.len h1']; exact hsz)] at h0'
          have := World.cell?_spot h0'
          simpa [Addr.add] using this
        subst hspot
        have hadd : ∀ i, (⟨b, off, none⟩ : Addr).add i = ⟨b, off + i, none⟩ := by intro i; unfold Addr.add; split <;> simp_all
        have hadd2 : ∀ i j, ((⟨b, off, none⟩ : Addr).add i).add j = ⟨b, off + i + j, none⟩ := by intro i j; rw [hadd]; unfold Addr.add; split <;> simp_all
        have hlt := World.block_lt_of_cell? W _ h0
        rw [hadd2] at hlt
        exact ⟨b, off, vs, rfl, hlt, h1, fun j hj => by rw [← hadd2]; exact h2 j hj⟩
      refine ⟨os, some ad, cap, by rw [hcs, hol], fun b o e1 hne => ?_, ⟨by omega, hm, (fun e => by cases e), fun i hi => ?_⟩, by rw [hol]; exact hzl⟩
      · obtain ⟨b', off', _, e2, hb', _⟩ := key 0 (by have := List.length_pos_iff.2 hne; omega)
        rw [e2] at e1
        cases e1
        exact hb'
      · obtain ⟨b, off, vs, e2, hb, h1, h2⟩ := key i (by omega)
        exact ⟨b, off, vs, by rw [e2], hb, h1, h2⟩⟩
/-- Fields, one behind the other. -/
def OpensF {α : Type} (E : El α) (fs : List Field) (off : Nat) : Prop :=
  ∀ (H : Type) (enc : TypeId × Value → H) (W : World) (held : Bool) (n : Nat) (cs : List Value), (∀ f ∈ fs, ∃ y, DataW.trod enc Try.prog W 0 (fun _ => true) held n f.type ((cs.drop f.offset).take (Try.prog.cellsOf f.type)) = some y ∧ ∀ k ∈ y.1.weights Try.prog f.type, k ≤ reachBytes) →
    ∃ x : α, E.rep (fun k => k < W.heap.size) W ((cs.drop off).take E.sz) x
theorem OpensF.last {α : Type} {E : El α} {f : Field} {off : Nat} (h : Opens E f.type) (ho : f.offset = off) : OpensF E [f] off := by
  intro H enc W held n cs hy
  obtain ⟨y, hy, hz⟩ := hy f (by simp)
  rw [h.1, ho] at hy
  exact h.2 H enc W held n _ y hy hz
theorem OpensF.more {α β : Type} {E : El α} {F : El β} {f : Field} {fs : List Field} {off : Nat} (h : Opens E f.type) (ho : f.offset = off) (hs : OpensF F fs (off + E.sz)) : OpensF (E.cat F) (f :: fs) off := by
  intro H enc W held n cs hy
  obtain ⟨y, hy0, hz0⟩ := hy f (by simp)
  rw [h.1, ho] at hy0
  obtain ⟨x, hx⟩ := h.2 H enc W held n _ y hy0 hz0
  obtain ⟨z, hz⟩ := hs H enc W held n cs (fun g hg => hy g (by simp [hg]))
  refine ⟨(x, z), (cs.drop off).take E.sz, (cs.drop (off + E.sz)).take F.sz, ?_, hx, hz⟩
  show (cs.drop off).take (E.sz + F.sz) = _
  rw [List.take_add, List.drop_drop]
theorem Opens.struct {α : Type} {E : El α} {t : TypeId} {fs : Array Field} (ht : Try.prog.underlying t = some (.struct fs)) (hc : Try.prog.cellsOf t = E.sz) (h : OpensF E fs.toList 0) : Opens E t :=
  ⟨hc, fun H enc W held fuel cs x hf hz => by
    obtain ⟨xs, n, _, hx, hl, hlen, hff⟩ := DataW.trod_struct ht hf
    subst hx
    obtain ⟨y, hy⟩ := h H enc W held n cs (fun f hf' => by
      obtain ⟨i, hi, e⟩ := List.getElem_of_mem hf'
      have := hff i f (by rw [← e]; simp)
      have hix : i < xs.length := by simpa [hlen] using hi
      rw [this]
      refine ⟨xs[i]'hix, by rw [List.getElem?_eq_getElem], fun k hk => hz k ?_⟩
      simp only [DataW.weights, ht]
      refine DataW.weights_mem_each (j := i) (t := f.type) (d := (xs[i]'hix).1) ?_ ?_ k hk
      · rw [List.getElem?_map, List.getElem?_eq_getElem hi, e]
        rfl
      · rw [List.getElem?_map, List.getElem?_eq_getElem hix]
        rfl)
    rw [List.drop_zero, List.take_of_length_le (by rw [hl, hc]; exact Nat.le_refl _)] at hy
    exact ⟨y, hy⟩⟩
/-- A struct by value. -/
theorem Opens.agg {α : Type} {E : El α} {t : TypeId} (h : Opens E t) {fs : Array Field} (ht : Try.prog.underlying t = some (.struct fs)) {H : Type} {enc : TypeId × Value → H} {W : World} {held : Bool} {r : Reach} {b0 : Nat} {v : Value} {d : DataW H} {p : List MemPlace}
    (hv : Value.okWide Try.prog W r b0 t v) (hd : DataW.Trod enc Try.prog W 0 (fun _ => true) held t v d p) (hz : ∀ n ∈ d.weights Try.prog t, n ≤ reachBytes) : ∃ (cs : Array Value) (y : α), v = .agg cs ∧ E.rep (fun k => k < W.heap.size) W cs.toList y := by
  obtain ⟨cs, rfl, hsz⟩ := okWide_struct ht hv
  obtain ⟨fuel, hf⟩ := hd
  obtain ⟨y, hy⟩ := h.2 H enc W held fuel _ _ hf hz
  exact ⟨cs, y, rfl, by simpa [Value.cells] using hy⟩
/-- Anything of one cell. -/
theorem Opens.cell {α : Type} {E : El α} {t : TypeId} (h : Opens E t) {H : Type} {enc : TypeId × Value → H} {W : World} {held : Bool} {v : Value} {d : DataW H} {p : List MemPlace}
    (hd : DataW.Trod enc Try.prog W 0 (fun _ => true) held t v d p) (hz : ∀ n ∈ d.weights Try.prog t, n ≤ reachBytes) (hone : v.cells = #[v]) : ∃ y : α, E.rep (fun k => k < W.heap.size) W [v] y := by
  obtain ⟨fuel, hf⟩ := hd
  obtain ⟨y, hy⟩ := h.2 H enc W held fuel _ _ hf hz
  exact ⟨y, by simpa [hone] using hy⟩

end Go.Proofs.Ytokcdkckomoajaa

namespace Go.Proofs.Ytokcdkckomoajaa
open Go.RowKit
open Go.ChangeShapes Go.WideShapes Go.Joins Go.Deep
set_option linter.unusedSimpArgs false
set_option linter.unusedVariables false

theorem opens_int : Opens El.int 3 := Opens.int Try.underlying3 (by kernel_rfl)
theorem opens_bool : Opens El.bool 4 := Opens.bool Try.underlying4 (by kernel_rfl)
theorem opens_pn : Opens PnE 43 :=
  (Opens.struct (E := El.int.cat (El.int.cat El.bool)) Try.underlying43 (by kernel_rfl) (OpensF.more opens_int rfl (OpensF.more opens_int rfl (OpensF.last opens_bool rfl)))).via (fun x => ⟨⟨x.1, x.2.1, x.2.2⟩, rfl⟩)
theorem opens_pa : Opens PaE 69 :=
  (Opens.struct (E := El.int.cat (El.int.cat El.int)) Try.underlying69 (by kernel_rfl) (OpensF.more opens_int rfl (OpensF.more opens_int rfl (OpensF.last opens_int rfl)))).via (fun x => ⟨⟨x.1, x.2.1, x.2.2⟩, rfl⟩)
theorem opens_pns : Opens PnE.row 37 := Opens.row opens_pn Try.underlying37 (by kernel_rfl) (by decide) (of_decide_eq_true (by kernel_rfl))
theorem opens_pnss : Opens PnE.row.row 22 := Opens.row opens_pns Try.underlying22 (by kernel_rfl) Nat.one_pos (of_decide_eq_true (by kernel_rfl))
theorem opens_pas : Opens PaE.row 23 := Opens.row opens_pa Try.underlying23 (by kernel_rfl) (by decide) (of_decide_eq_true (by kernel_rfl))
theorem opens_outline : Opens (PnE.row.row.cat PaE.row) 25 :=
  Opens.struct Try.underlying25 (by kernel_rfl) (OpensF.more opens_pnss rfl (OpensF.last opens_pas rfl))
/-- An outline by value. -/
theorem open_outline {H : Type} {enc : TypeId × Value → H} {W : World} {held : Bool} {r : Reach} {b0 : Nat} {v : Value} {d : DataW H} {p : List MemPlace}
    (hv : Value.okWide Try.prog W r b0 25 v) (hd : DataW.Trod enc Try.prog W 0 (fun _ => true) held 25 v d p) (hz : ∀ n ∈ d.weights Try.prog 25, n ≤ reachBytes) :
    ∃ a ca b cb, ∃ o : Ol, v = .agg #[.slice a o.cs.length ca, .slice b o.ps.length cb] ∧ Gr PnE.row (fun k => k < W.heap.size) W a ca o.cs ∧ Gr PaE (fun k => k < W.heap.size) W b cb o.ps := by
  obtain ⟨cs, ⟨l, m⟩, rfl, us, ts, e, ⟨a, ca, h1, _, h2, _⟩, b, cb, h3, _, h4, _⟩ := opens_outline.agg Try.underlying25 hv hd hz
  subst h1 h3
  refine ⟨a, ca, b, cb, ⟨l, m⟩, ?_, h2, h4⟩
  congr 1
  apply Array.ext'
  exact e
theorem array2' {α : Type} {cs : Array α} (h : cs.size = 2) : ∃ x y, cs = #[x, y] := by
  rcases cs with ⟨l⟩
  rcases l with _ | ⟨x, _ | ⟨y, _ | ⟨z, l⟩⟩⟩
  · simp at h
  · simp at h
  · exact ⟨x, y, rfl⟩
  · simp at h
set_option maxRecDepth 100000 in
/-- Two int8, by value. -/
theorem open_by {H : Type} {enc : TypeId × Value → H} {W : World} {held : Bool} {r : Reach} {b0 : Nat} {v : Value} {d : DataW H} {p : List MemPlace}
    (hv : Value.okWide Try.prog W r b0 51 v) (h : DataW.Trod enc Try.prog W 0 (fun _ => true) held 51 v d p) :
    ∃ x y : Int, v = .agg #[.int .i8 x, .int .i8 y] ∧ (-128 ≤ x ∧ x < 128) ∧ (-128 ≤ y ∧ y < 128) := by
  have hC : Try.prog.cellsOf 51 = 2 := by kernel_rfl
  have hc : Try.prog.cellsOf 50 = 1 := by kernel_rfl
  simp only [Value.okWide, Try.underlying51] at hv
  obtain ⟨cs, rfl, hsz, _⟩ := hv
  obtain ⟨c0, c1, rfl⟩ := array2' (hsz.trans hC)
  obtain ⟨fuel, hf⟩ := h
  obtain ⟨zs, m, _, _, _, hl, ht⟩ := DataW.trod_array Try.underlying51 hf
  have h0 := ht 0 (by decide)
  have h1 := ht 1 (by decide)
  rw [hc] at h0 h1
  rw [List.getElem?_eq_getElem (by omega)] at h0 h1
  obtain ⟨x, e0, _, w0⟩ := DataW.trod_int Try.underlying50 h0
  obtain ⟨y, e1, _, w1⟩ := DataW.trod_int Try.underlying50 h1
  simp [Value.cells] at e0 e1
  subst e0 e1
  simp [Lit.wf, IntKind.min, IntKind.max, IntKind.bits, IntKind.signed] at w0 w1
  exact ⟨x, y, rfl, by omega, by omega⟩

end Go.Proofs.Ytokcdkckomoajaa
