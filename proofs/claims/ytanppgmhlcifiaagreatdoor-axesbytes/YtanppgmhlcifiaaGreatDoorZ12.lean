/-
  axes.settled: the walk.
  axes.Formed: the walk.
-/
import Derived.Test.YtanppgmhlcifiaaGreatDoorZ11
import Derived.Test.YtanppgmhlcifiaaGreatDoorZ4
namespace Go.Proofs.YtanppgmhlcifiaaGreatDoor
open Go.RowKit Go.Maps
set_option linter.unusedSimpArgs false
set_option linter.unusedVariables false

set_option maxHeartbeats 1000000 in
set_option maxRecDepth 100000 in
theorem settled_any (t : Ax) (w : World) :
    Calls Tryz.prog 74 #[.agg (axC t)] w fun e w' => e = .returned (.agg (axC (stA t))) ∧ Below w.heap.size w w' := by
  obtain ⟨tx, lo, us, hi⟩ := t
  unfold axC stA
  dsimp only
  have b1 := usV_bd lo
  have b2 := usV_bd us
  have b3 := usV_bd hi
  obtain ⟨x, hx⟩ : ∃ x, usV lo = x := ⟨_, rfl⟩
  obtain ⟨y, hy⟩ : ∃ x, usV us = x := ⟨_, rfl⟩
  obtain ⟨z, hz⟩ : ∃ x, usV hi = x := ⟨_, rfl⟩
  rw [hx, hy, hz]
  rw [hx] at b1
  rw [hy] at b2
  rw [hz] at b3
  have HX : Hid (usV lo = x ∧ usV us = y ∧ usV hi = z) := ⟨hx, hy, hz⟩
  clear hx hy hz
  go_enter Tryz.func74, Tryz.ntmps74
  go_wp2_with fail
  obtain ⟨W, hW, X1, X2, hbW⟩ : ∃ W, W = (w.alloc (.cells #[.string tx, .int .i64 lo, .int .i64 us, .int .i64 hi] 23)).alloc (.cells #[.string ⟨#[]⟩, .int .i64 0, .int .i64 0, .int .i64 0] 23) ∧ BxA W w.heap.size (.string tx) (.int .i64 lo) (.int .i64 us) (.int .i64 hi) ∧ BxA W (w.heap.size + 1) (.string ⟨#[]⟩) (.int .i64 0) (.int .i64 0) (.int .i64 0) ∧ Below w.heap.size w W := ⟨_, rfl, (BxA.new w _ _ _ _).below (bl1 _), BxA.new1 w _ _ _ _ _, bl2 _ _⟩
  rw [← hW]
  clear hW
  obtain ⟨p00, p01, p02, p03, _⟩ := X1.cells
  obtain ⟨p10, p11, p12, p13, _⟩ := X2.cells
  refine wp_region_held_drew (S := (fun u => u.cell? ⟨w.heap.size, 0, none⟩ = some (.string tx) ∧ u.cell? ⟨w.heap.size, 1, none⟩ = some (.int .i64 lo) ∧ u.cell? ⟨w.heap.size, 2, none⟩ = some (.int .i64 us) ∧ u.cell? ⟨w.heap.size, 3, none⟩ = some (.int .i64 hi) ∧ u.cell? ⟨(w.heap.size + 1), 0, none⟩ = some (.string ⟨#[]⟩) ∧ u.cell? ⟨(w.heap.size + 1), 1, none⟩ = some (.int .i64 0) ∧ u.cell? ⟨(w.heap.size + 1), 2, none⟩ = some (.int .i64 0) ∧ u.cell? ⟨(w.heap.size + 1), 3, none⟩ = some (.int .i64 0))) (by kernel_rfl) ?_ (fun hHeld => ?_)
  · (try dsimp only)
    go_keep
  have hdr : Below W.heap.size W W.drew := Below.drew1
  generalize W.drew = ud1 at hdr hHeld ⊢
  replace X1 := X1.below hdr
  replace X2 := X2.below hdr
  replace hbW : Below w.heap.size w ud1 := hbW.trans (hdr.mono hbW.size)
  clear hdr
  clear p00 p01 p02 p03 p10 p11 p12 p13
  obtain ⟨p00, p01, p02, p03, _⟩ := X1.cells
  obtain ⟨p10, p11, p12, p13, _⟩ := X2.cells
  refine hTake (i := 0) (v := ?v2) rfl (by kernel_rfl) (by kernel_rfl) (by kernel_rfl) (fun _ _ _ h => h) (Or.inl ⟨by rfl, ?y2⟩) hHeld ?r2
  case y2 =>
    intro w9 hSw
    (try dsimp only at hSw)
    go_simp
    try with_reducible rfl
  try simp only [Act.put, List.setIfInBounds_toArray, List.set_cons_zero, List.set_cons_succ]
  refine hTake (i := 1) (v := ?v3) rfl (by kernel_rfl) (by kernel_rfl) (by kernel_rfl) (fun _ _ _ h => h) (Or.inl ⟨by rfl, ?y3⟩) hHeld ?r3
  case y3 =>
    intro w9 hSw
    (try dsimp only at hSw)
    go_simp
    try with_reducible rfl
  try simp only [Act.put, List.setIfInBounds_toArray, List.set_cons_zero, List.set_cons_succ]
  refine hTake (i := 3) (v := ?v4) rfl (by kernel_rfl) (by kernel_rfl) (by kernel_rfl) (fun _ _ _ h => h) (Or.inl ⟨by rfl, ?y4⟩) hHeld ?r4
  case y4 =>
    intro w9 hSw
    (try dsimp only at hSw)
    go_simp
    try with_reducible rfl
  try simp only [Act.put, List.setIfInBounds_toArray, List.set_cons_zero, List.set_cons_succ]
  refine hTake (i := 4) (v := ?v5) rfl (by kernel_rfl) (by kernel_rfl) (by kernel_rfl) (fun _ _ _ h => h) (Or.inl ⟨by rfl, ?y5⟩) hHeld ?r5
  case y5 =>
    intro w9 hSw
    (try dsimp only at hSw)
    go_simp
    try with_reducible rfl
  try simp only [Act.put, List.setIfInBounds_toArray, List.set_cons_zero, List.set_cons_succ]
  refine hTake (i := 6) (v := ?v6) rfl (by kernel_rfl) (by kernel_rfl) (by kernel_rfl) (fun _ _ _ h => h) (Or.inl ⟨by rfl, ?y6⟩) hHeld ?r6
  case y6 =>
    intro w9 hSw
    (try dsimp only at hSw)
    go_simp
    try with_reducible rfl
  try simp only [Act.put, List.setIfInBounds_toArray, List.set_cons_zero, List.set_cons_succ]
  refine hTake (i := 7) (v := ?v7) rfl (by kernel_rfl) (by kernel_rfl) (by kernel_rfl) (fun _ _ _ h => h) (Or.inl ⟨by rfl, ?y7⟩) hHeld ?r7
  case y7 =>
    intro w9 hSw
    (try dsimp only at hSw)
    go_simp
    try with_reducible rfl
  try simp only [Act.put, List.setIfInBounds_toArray, List.set_cons_zero, List.set_cons_succ]
  refine hCall (i := 2) rfl (by kernel_rfl) (by rfl) (fun K hK => ?_)
  go_simp
  refine (cuserB_any lo _).mono ?_
  rintro e u1 ⟨rfl, hb1⟩
  replace X1 := X1.below hb1
  replace X2 := X2.below hb1
  replace hbW : Below w.heap.size w u1 := hbW.trans (hb1.mono hbW.size)
  clear hb1
  rw [HX.out.1]
  clear p00 p01 p02 p03 p10 p11 p12 p13
  obtain ⟨p00, p01, p02, p03, _⟩ := X1.cells
  obtain ⟨p10, p11, p12, p13, _⟩ := X2.cells
  go_wp2_with fail
  refine hK.out _ _ ?_ (fun hHeld => ?_)
  · (try dsimp only)
    exact ⟨p00, p01, p02, p03, p10, p11, p12, p13⟩
  clear hK K
  try simp only [Act.put, List.setIfInBounds_toArray, List.set_cons_zero, List.set_cons_succ]
  refine hCall (i := 5) rfl (by kernel_rfl) (by rfl) (fun K hK => ?_)
  go_simp
  refine (cuserB_any us _).mono ?_
  rintro e u2 ⟨rfl, hb2⟩
  replace X1 := X1.below hb2
  replace X2 := X2.below hb2
  replace hbW : Below w.heap.size w u2 := hbW.trans (hb2.mono hbW.size)
  clear hb2
  rw [HX.out.2.1]
  clear p00 p01 p02 p03 p10 p11 p12 p13
  obtain ⟨p00, p01, p02, p03, _⟩ := X1.cells
  obtain ⟨p10, p11, p12, p13, _⟩ := X2.cells
  go_wp2_with fail
  refine hK.out _ _ ?_ (fun hHeld => ?_)
  · (try dsimp only)
    exact ⟨p00, p01, p02, p03, p10, p11, p12, p13⟩
  clear hK K
  try simp only [Act.put, List.setIfInBounds_toArray, List.set_cons_zero, List.set_cons_succ]
  refine hCall (i := 8) rfl (by kernel_rfl) (by rfl) (fun K hK => ?_)
  go_simp
  refine (cuserB_any hi _).mono ?_
  rintro e u3 ⟨rfl, hb3⟩
  replace X1 := X1.below hb3
  replace X2 := X2.below hb3
  replace hbW : Below w.heap.size w u3 := hbW.trans (hb3.mono hbW.size)
  clear hb3
  rw [HX.out.2.2]
  clear p00 p01 p02 p03 p10 p11 p12 p13
  obtain ⟨p00, p01, p02, p03, _⟩ := X1.cells
  obtain ⟨p10, p11, p12, p13, _⟩ := X2.cells
  go_wp2_with fail
  refine hK.out _ _ ?_ (fun hHeld => ?_)
  · (try dsimp only)
    exact ⟨p00, p01, p02, p03, p10, p11, p12, p13⟩
  clear hK K
  try simp only [Act.put, List.setIfInBounds_toArray, List.set_cons_zero, List.set_cons_succ]
  refine hTake (i := 9) (v := ?v8) rfl (by kernel_rfl) (by kernel_rfl) (by kernel_rfl) (fun _ _ _ h => h) (Or.inl ⟨by rfl, ?y8⟩) hHeld ?r8
  case y8 =>
    intro w9 hSw
    (try dsimp only at hSw)
    go_simp
    try with_reducible rfl
  try simp only [Act.put, List.setIfInBounds_toArray, List.set_cons_zero, List.set_cons_succ]
  refine hTake (i := 10) (v := ?v9) rfl (by kernel_rfl) (by kernel_rfl) (by kernel_rfl) (fun _ _ _ h => h) (Or.inl ⟨by rfl, ?y9⟩) hHeld ?r9
  case y9 =>
    intro w9 hSw
    (try dsimp only at hSw)
    go_simp
    try with_reducible rfl
  try simp only [Act.put, List.setIfInBounds_toArray, List.set_cons_zero, List.set_cons_succ]
  refine hTake (i := 11) (v := ?v10) rfl (by kernel_rfl) (by kernel_rfl) (by kernel_rfl) (fun _ _ _ h => h) (Or.inl ⟨by rfl, ?y10⟩) hHeld ?r10
  case y10 =>
    intro w9 hSw
    (try dsimp only at hSw)
    go_simp
    try with_reducible rfl
  try simp only [Act.put, List.setIfInBounds_toArray, List.set_cons_zero, List.set_cons_succ]
  refine wpAnyH_done (by kernel_rfl) ?_ _
  clear p00 p01 p02 p03 p10 p11 p12 p13
  obtain ⟨p00, p01, p02, p03, f00, f01, f02, f03⟩ := X1.cells
  obtain ⟨p10, p11, p12, p13, f10, f11, f12, f13⟩ := X2.cells
  have hs := X2.lt
  go_wp2
  refine retA (v := .agg #[.string tx, .int .i64 (min x y), .int .i64 y, .int .i64 (max y z)]) X2 rfl (fun U hU => by obtain ⟨r1, r2, r3, r4, _⟩ := hU.cells; simp [results, Tryz.results74, go_sem, r1, r2, r3, r4]) (fun U hU => ⟨rfl, hU _ _ hbW (by omega)⟩)

end Go.Proofs.YtanppgmhlcifiaaGreatDoor

namespace Go.Proofs.YtanppgmhlcifiaaGreatDoor
open Go.RowKit Go.Maps
set_option linter.unusedSimpArgs false
set_option linter.unusedVariables false

theorem goodB_any (t : ByteArray) (w : World) (ht : t.size ≤ maxLen) :
    Calls Tryz.prog 72 #[.string t] w fun e w' => e = .returned (.bool (gd (sb t))) ∧ Below w.heap.size w w' :=
  (good_any t w ht).mono fun e w' h => ⟨h.1, h.2 ▸ Below.refl _ _⟩

set_option maxHeartbeats 2000000 in
set_option maxRecDepth 100000 in
theorem cformed_any (a : Option Addr) (cap : Nat) (l : List Ax) (w : World) (h : As w a cap l) :
    Calls Tryz.prog 38 #[.slice a l.length cap] w fun e w' => e = .returned (.bool (frA l)) ∧ Below w.heap.size w w' := by
  have k1 := h.1
  have k2 := h.2.1
  unfold maxLen at k2
  have HF : Hid (FrA l ↔ l.length ≤ 4 ∧ ∀ j, j < l.length → onA (l.getD j Ax.none) = true ∧ ∀ i, i < j → (l.getD i Ax.none).tx ≠ (l.getD j Ax.none).tx) := FrA.iff
  by_cases hn : 4 < l.length
  · have g : (4 : Int) < (l.length : Int) := by omega
    go_enter Tryz.func38, Tryz.ntmps38
    go_wp2
    go_ret
    exact ⟨rt_bool (frA_no (fun hf => by have := (HF.out.1 hf).1; omega)).symm, Below.refl _ _⟩
  have g : ¬ (4 : Int) < (l.length : Int) := by omega
  have HH : Hid (As w a cap l) := h
  go_enter Tryz.func38, Tryz.ntmps38
  go_wp2
  go_loopw [10] (fun i wr => ∃ k : Nat, k ≤ l.length ∧ i = .int .i64 k ∧ (∀ j, j < k → onA (l.getD j Ax.none) = true ∧ ∀ i, i < j → (l.getD i Ax.none).tx ≠ (l.getD j Ax.none).tx) ∧ Below w.heap.size w wr) (fun i _ => l.length - (intOf i).toNat)
  case atStart => exact ⟨0, Nat.zero_le _, rfl, (fun j hj => by omega), Below.refl _ _⟩
  case round =>
    obtain ⟨k, hk, rfl, hok, hB⟩ := hrel
    have HOK : Hid (∀ j, j < k → onA (l.getD j Ax.none) = true ∧ ∀ i, i < j → (l.getD i Ax.none).tx ≠ (l.getD j Ax.none).tx) := hok
    clear hok
    by_cases hkn : k < l.length
    · obtain ⟨b, off, ea, hb, d1, d2, d3, d4⟩ := h.at hB k hkn
      subst ea
      have htz := (h.w hkn).1
      have hfs := fiA_self hkn
      obtain ⟨s, hs⟩ : ∃ s, l.getD k Ax.none = s := ⟨_, rfl⟩
      have HS : Hid (l.getD k Ax.none = s) := hs
      rw [hs] at d1 d2 d3 d4 htz hfs
      have HFS : Hid (_) := hfs
      clear hs hfs h
      have hon := onA_st s
      obtain ⟨q, hq⟩ : ∃ q, eqA s (stA s) = q := ⟨_, rfl⟩
      rw [hq] at hon
      have HON : Hid (onA s = (gd (sb s.tx) && q)) := hon
      clear hon
      have hst := fun W => settled_any s W
      have HNO : Hid (onA s = false → frA l = false) := by
        show onA s = false → _
        intro h1
        exact frA_no (fun hf => by
          have := ((HF.out.1 hf).2 k hkn).1
          rw [HS.out, h1] at this
          cases this)
      obtain ⟨tx, lo, us, hi⟩ := s
      simp only [stA, axC] at hst
      have hq1 : (lo = min (usV lo) (usV us) ∧ us = usV us ∧ hi = max (usV us) (usV hi)) ↔ q = true := by rw [← hq, eqA_iff, stA, Ax.mk.injEq]; simp
      clear hq
      dsimp only at d1 d2 d3 d4 htz HFS HON
      obtain ⟨x, hx⟩ : ∃ x, min (usV lo) (usV us) = x := ⟨_, rfl⟩
      obtain ⟨y, hy⟩ : ∃ x, usV us = x := ⟨_, rfl⟩
      obtain ⟨z, hz⟩ : ∃ x, max (usV us) (usV hi) = x := ⟨_, rfl⟩
      simp only [hx, hz] at hst hq1
      simp only [hy] at hst hq1
      have HQ : Hid ((lo = x ∧ us = y ∧ hi = z) ↔ q = true) := hq1
      clear hx hy hz hq1
      cases hg : gd (sb tx) with
      | false =>
        have HFN : Hid (frA l = false) := HNO.out (by rw [HON.out, hg]; rfl)
        clear hst
        go_wp2_with fail
        obtain ⟨W, hW, X1, hbR⟩ : ∃ W, W = wr.alloc (.cells #[.string tx, .int .i64 lo, .int .i64 us, .int .i64 hi] 23) ∧ BxA W wr.heap.size (.string tx) (.int .i64 lo) (.int .i64 us) (.int .i64 hi) ∧ Below wr.heap.size wr W := ⟨_, rfl, BxA.new wr _ _ _ _, bl1 _⟩
        rw [← hW]
        clear hW
        have hbW : Below w.heap.size w W := hB.trans (hbR.mono hB.size)
        have hA := HH.out.below hbW
        clear hbR hB d1 d2 d3 d4
        obtain ⟨p00, p01, p02, p03, _⟩ := X1.cells
        refine wp_region_held_drew (S := (fun u => u.cell? ⟨wr.heap.size, 0, none⟩ = some (.string tx) ∧ u.cell? ⟨wr.heap.size, 1, none⟩ = some (.int .i64 lo) ∧ u.cell? ⟨wr.heap.size, 2, none⟩ = some (.int .i64 us) ∧ u.cell? ⟨wr.heap.size, 3, none⟩ = some (.int .i64 hi))) (by kernel_rfl) ?_ (fun hHeld => ?_)
        · (try dsimp only)
          go_keep
        have hdr : Below W.heap.size W W.drew := Below.drew1
        generalize W.drew = ud11 at hdr hHeld ⊢
        replace hA := hA.below hdr
        replace X1 := X1.below hdr
        replace hbW : Below w.heap.size w ud11 := hbW.trans (hdr.mono hbW.size)
        clear hdr
        clear p00 p01 p02 p03
        obtain ⟨p00, p01, p02, p03, _⟩ := X1.cells
        refine hTake (i := 0) (v := ?v12) rfl (by kernel_rfl) (by kernel_rfl) (by kernel_rfl) (fun _ _ _ h => h) (Or.inl ⟨by rfl, ?y12⟩) hHeld ?r12
        case y12 =>
          intro w9 hSw
          (try dsimp only at hSw)
          go_simp
          try with_reducible rfl
        try simp only [Act.put, List.setIfInBounds_toArray, List.set_cons_zero, List.set_cons_succ]
        refine hTake (i := 1) (v := ?v13) rfl (by kernel_rfl) (by kernel_rfl) (by kernel_rfl) (fun _ _ _ h => h) (Or.inl ⟨by rfl, ?y13⟩) hHeld ?r13
        case y13 =>
          intro w9 hSw
          (try dsimp only at hSw)
          go_simp
          try with_reducible rfl
        try simp only [Act.put, List.setIfInBounds_toArray, List.set_cons_zero, List.set_cons_succ]
        refine hCall (i := 2) rfl (by kernel_rfl) (by rfl) (fun K hK => ?_)
        go_simp
        refine (goodB_any tx _ htz).mono ?_
        rintro e u1 ⟨rfl, hb1⟩
        replace hA := hA.below hb1
        replace X1 := X1.below hb1
        replace hbW : Below w.heap.size w u1 := hbW.trans (hb1.mono hbW.size)
        clear hb1
        rw [hg]
        clear p00 p01 p02 p03
        obtain ⟨p00, p01, p02, p03, _⟩ := X1.cells
        go_wp2_with fail
        refine hK.out _ _ ?_ (fun hHeld => ?_)
        · (try dsimp only)
          exact ⟨p00, p01, p02, p03⟩
        clear hK K
        try simp only [Act.put, List.setIfInBounds_toArray, List.set_cons_zero, List.set_cons_succ]
        refine hTake (i := 3) (v := ?v14) rfl (by kernel_rfl) (by kernel_rfl) (by kernel_rfl) (fun _ _ _ h => h) (Or.inl ⟨by rfl, ?y14⟩) hHeld ?r14
        case y14 =>
          intro w9 hSw
          (try dsimp only at hSw)
          go_simp
          try with_reducible rfl
        try simp only [Act.put, List.setIfInBounds_toArray, List.set_cons_zero, List.set_cons_succ]
        refine hTake (i := 4) (v := ?v15) rfl (by kernel_rfl) (by kernel_rfl) (by kernel_rfl) (fun _ _ _ h => h) (Or.inl ⟨by rfl, ?y15⟩) hHeld ?r15
        case y15 =>
          intro w9 hSw
          (try dsimp only at hSw)
          go_simp
          try with_reducible rfl
        try simp only [Act.put, List.setIfInBounds_toArray, List.set_cons_zero, List.set_cons_succ]
        refine hTake (i := 5) (v := undef) rfl (by kernel_rfl) (by kernel_rfl) (by kernel_rfl) (fun _ _ _ h => h) (Or.inr ⟨by rfl, rfl⟩) hHeld ?_
        try simp only [Act.put, List.setIfInBounds_toArray, List.set_cons_zero, List.set_cons_succ]
        refine hTake (i := 6) (v := undef) rfl (by kernel_rfl) (by kernel_rfl) (by kernel_rfl) (fun _ _ _ h => h) (Or.inr ⟨by rfl, rfl⟩) hHeld ?_
        try simp only [Act.put, List.setIfInBounds_toArray, List.set_cons_zero, List.set_cons_succ]
        refine hTake (i := 7) (v := undef) rfl (by kernel_rfl) (by kernel_rfl) (by kernel_rfl) (fun _ _ _ h => h) (Or.inr ⟨by rfl, rfl⟩) hHeld ?_
        try simp only [Act.put, List.setIfInBounds_toArray, List.set_cons_zero, List.set_cons_succ]
        refine hTake (i := 8) (v := undef) rfl (by kernel_rfl) (by kernel_rfl) (by kernel_rfl) (fun _ _ _ h => h) (Or.inr ⟨by rfl, rfl⟩) hHeld ?_
        try simp only [Act.put, List.setIfInBounds_toArray, List.set_cons_zero, List.set_cons_succ]
        refine hTake (i := 9) (v := undef) rfl (by kernel_rfl) (by kernel_rfl) (by kernel_rfl) (fun _ _ _ h => h) (Or.inr ⟨by rfl, rfl⟩) hHeld ?_
        try simp only [Act.put, List.setIfInBounds_toArray, List.set_cons_zero, List.set_cons_succ]
        refine hTake (i := 10) (v := undef) rfl (by kernel_rfl) (by kernel_rfl) (by kernel_rfl) (fun _ _ _ h => h) (Or.inr ⟨by rfl, rfl⟩) hHeld ?_
        try simp only [Act.put, List.setIfInBounds_toArray, List.set_cons_zero, List.set_cons_succ]
        refine hTake (i := 11) (v := ?v16) rfl (by kernel_rfl) (by kernel_rfl) (by kernel_rfl) (fun _ _ _ h => h) (Or.inl ⟨by rfl, ?y16⟩) hHeld ?r16
        case y16 =>
          intro w9 hSw
          (try dsimp only at hSw)
          go_simp
          try with_reducible rfl
        try simp only [Act.put, List.setIfInBounds_toArray, List.set_cons_zero, List.set_cons_succ]
        refine hTake (i := 12) (v := ?v17) rfl (by kernel_rfl) (by kernel_rfl) (by kernel_rfl) (fun _ _ _ h => h) (Or.inl ⟨by rfl, ?y17⟩) hHeld ?r17
        case y17 =>
          intro w9 hSw
          (try dsimp only at hSw)
          go_simp
          try with_reducible rfl
        try simp only [Act.put, List.setIfInBounds_toArray, List.set_cons_zero, List.set_cons_succ]
        refine hTake (i := 13) (v := undef) rfl (by kernel_rfl) (by kernel_rfl) (by kernel_rfl) (fun _ _ _ h => h) (Or.inr ⟨by rfl, rfl⟩) hHeld ?_
        try simp only [Act.put, List.setIfInBounds_toArray, List.set_cons_zero, List.set_cons_succ]
        refine hTake (i := 14) (v := undef) rfl (by kernel_rfl) (by kernel_rfl) (by kernel_rfl) (fun _ _ _ h => h) (Or.inr ⟨by rfl, rfl⟩) hHeld ?_
        try simp only [Act.put, List.setIfInBounds_toArray, List.set_cons_zero, List.set_cons_succ]
        refine hTake (i := 15) (v := undef) rfl (by kernel_rfl) (by kernel_rfl) (by kernel_rfl) (fun _ _ _ h => h) (Or.inr ⟨by rfl, rfl⟩) hHeld ?_
        try simp only [Act.put, List.setIfInBounds_toArray, List.set_cons_zero, List.set_cons_succ]
        refine hTake (i := 16) (v := undef) rfl (by kernel_rfl) (by kernel_rfl) (by kernel_rfl) (fun _ _ _ h => h) (Or.inr ⟨by rfl, rfl⟩) hHeld ?_
        try simp only [Act.put, List.setIfInBounds_toArray, List.set_cons_zero, List.set_cons_succ]
        refine hTake (i := 17) (v := ?v18) rfl (by kernel_rfl) (by kernel_rfl) (by kernel_rfl) (fun _ _ _ h => h) (Or.inl ⟨by rfl, ?y18⟩) hHeld ?r18
        case y18 =>
          intro w9 hSw
          (try dsimp only at hSw)
          go_simp
          try with_reducible rfl
        try simp only [Act.put, List.setIfInBounds_toArray, List.set_cons_zero, List.set_cons_succ]
        refine wpAnyH_done (by kernel_rfl) ?_ _
        go_wp2
        go_ret
        exact ⟨rt_bool HFN.out.symm, hbW⟩
      | true =>
        by_cases hne : ∀ j, j < k → (l.getD j Ax.none).tx ≠ tx
        · have HFI : Hid (fiA l tx = (k : Int)) := HFS.out.1 hne
          have HNE : Hid (∀ j, j < k → (l.getD j Ax.none).tx ≠ tx) := hne
          have hkk : ((k : Int) != (k : Int)) = false := by simp
          clear hne
          go_wp2_with fail
          obtain ⟨W, hW, X1, hbR⟩ : ∃ W, W = wr.alloc (.cells #[.string tx, .int .i64 lo, .int .i64 us, .int .i64 hi] 23) ∧ BxA W wr.heap.size (.string tx) (.int .i64 lo) (.int .i64 us) (.int .i64 hi) ∧ Below wr.heap.size wr W := ⟨_, rfl, BxA.new wr _ _ _ _, bl1 _⟩
          rw [← hW]
          clear hW
          have hbW : Below w.heap.size w W := hB.trans (hbR.mono hB.size)
          have hA := HH.out.below hbW
          clear hbR hB d1 d2 d3 d4
          obtain ⟨p00, p01, p02, p03, _⟩ := X1.cells
          refine wp_region_held_drew (S := (fun u => u.cell? ⟨wr.heap.size, 0, none⟩ = some (.string tx) ∧ u.cell? ⟨wr.heap.size, 1, none⟩ = some (.int .i64 lo) ∧ u.cell? ⟨wr.heap.size, 2, none⟩ = some (.int .i64 us) ∧ u.cell? ⟨wr.heap.size, 3, none⟩ = some (.int .i64 hi))) (by kernel_rfl) ?_ (fun hHeld => ?_)
          · (try dsimp only)
            go_keep
          have hdr : Below W.heap.size W W.drew := Below.drew1
          generalize W.drew = ud19 at hdr hHeld ⊢
          replace hA := hA.below hdr
          replace X1 := X1.below hdr
          replace hbW : Below w.heap.size w ud19 := hbW.trans (hdr.mono hbW.size)
          clear hdr
          clear p00 p01 p02 p03
          obtain ⟨p00, p01, p02, p03, _⟩ := X1.cells
          refine hTake (i := 0) (v := ?v20) rfl (by kernel_rfl) (by kernel_rfl) (by kernel_rfl) (fun _ _ _ h => h) (Or.inl ⟨by rfl, ?y20⟩) hHeld ?r20
          case y20 =>
            intro w9 hSw
            (try dsimp only at hSw)
            go_simp
            try with_reducible rfl
          try simp only [Act.put, List.setIfInBounds_toArray, List.set_cons_zero, List.set_cons_succ]
          refine hTake (i := 1) (v := ?v21) rfl (by kernel_rfl) (by kernel_rfl) (by kernel_rfl) (fun _ _ _ h => h) (Or.inl ⟨by rfl, ?y21⟩) hHeld ?r21
          case y21 =>
            intro w9 hSw
            (try dsimp only at hSw)
            go_simp
            try with_reducible rfl
          try simp only [Act.put, List.setIfInBounds_toArray, List.set_cons_zero, List.set_cons_succ]
          refine hCall (i := 2) rfl (by kernel_rfl) (by rfl) (fun K hK => ?_)
          go_simp
          refine (goodB_any tx _ htz).mono ?_
          rintro e u1 ⟨rfl, hb1⟩
          replace hA := hA.below hb1
          replace X1 := X1.below hb1
          replace hbW : Below w.heap.size w u1 := hbW.trans (hb1.mono hbW.size)
          clear hb1
          rw [hg]
          clear p00 p01 p02 p03
          obtain ⟨p00, p01, p02, p03, _⟩ := X1.cells
          go_wp2_with fail
          refine hK.out _ _ ?_ (fun hHeld => ?_)
          · (try dsimp only)
            exact ⟨p00, p01, p02, p03⟩
          clear hK K
          try simp only [Act.put, List.setIfInBounds_toArray, List.set_cons_zero, List.set_cons_succ]
          refine hTake (i := 3) (v := ?v22) rfl (by kernel_rfl) (by kernel_rfl) (by kernel_rfl) (fun _ _ _ h => h) (Or.inl ⟨by rfl, ?y22⟩) hHeld ?r22
          case y22 =>
            intro w9 hSw
            (try dsimp only at hSw)
            go_simp
            try with_reducible rfl
          try simp only [Act.put, List.setIfInBounds_toArray, List.set_cons_zero, List.set_cons_succ]
          refine hTake (i := 4) (v := ?v23) rfl (by kernel_rfl) (by kernel_rfl) (by kernel_rfl) (fun _ _ _ h => h) (Or.inl ⟨by rfl, ?y23⟩) hHeld ?r23
          case y23 =>
            intro w9 hSw
            (try dsimp only at hSw)
            go_simp
            try with_reducible rfl
          try simp only [Act.put, List.setIfInBounds_toArray, List.set_cons_zero, List.set_cons_succ]
          refine hTake (i := 5) (v := ?v24) rfl (by kernel_rfl) (by kernel_rfl) (by kernel_rfl) (fun _ _ _ h => h) (Or.inl ⟨by rfl, ?y24⟩) hHeld ?r24
          case y24 =>
            intro w9 hSw
            (try dsimp only at hSw)
            go_simp
            try with_reducible rfl
          try simp only [Act.put, List.setIfInBounds_toArray, List.set_cons_zero, List.set_cons_succ]
          refine hTake (i := 6) (v := ?v25) rfl (by kernel_rfl) (by kernel_rfl) (by kernel_rfl) (fun _ _ _ h => h) (Or.inl ⟨by rfl, ?y25⟩) hHeld ?r25
          case y25 =>
            intro w9 hSw
            (try dsimp only at hSw)
            go_simp
            try with_reducible rfl
          try simp only [Act.put, List.setIfInBounds_toArray, List.set_cons_zero, List.set_cons_succ]
          refine hTake (i := 7) (v := ?v26) rfl (by kernel_rfl) (by kernel_rfl) (by kernel_rfl) (fun _ _ _ h => h) (Or.inl ⟨by rfl, ?y26⟩) hHeld ?r26
          case y26 =>
            intro w9 hSw
            (try dsimp only at hSw)
            go_simp
            try with_reducible rfl
          try simp only [Act.put, List.setIfInBounds_toArray, List.set_cons_zero, List.set_cons_succ]
          refine hTake (i := 9) (v := ?v27) rfl (by kernel_rfl) (by kernel_rfl) (by kernel_rfl) (fun _ _ _ h => h) (Or.inl ⟨by rfl, ?y27⟩) hHeld ?r27
          case y27 =>
            intro w9 hSw
            (try dsimp only at hSw)
            go_simp
            try with_reducible rfl
          try simp only [Act.put, List.setIfInBounds_toArray, List.set_cons_zero, List.set_cons_succ]
          refine hCall (i := 8) rfl (by kernel_rfl) (by rfl) (fun K hK => ?_)
          go_simp
          refine (cfind_any _ cap l tx _ hA).mono ?_
          rintro e u2 ⟨rfl, hb2⟩
          replace hA := hA.below hb2
          replace X1 := X1.below hb2
          replace hbW : Below w.heap.size w u2 := hbW.trans (hb2.mono hbW.size)
          clear hb2
          rw [HFI.out]
          clear p00 p01 p02 p03
          obtain ⟨p00, p01, p02, p03, _⟩ := X1.cells
          go_wp2_with fail
          refine hK.out _ _ ?_ (fun hHeld => ?_)
          · (try dsimp only)
            exact ⟨p00, p01, p02, p03⟩
          clear hK K
          try simp only [Act.put, List.setIfInBounds_toArray, List.set_cons_zero, List.set_cons_succ]
          refine hTake (i := 10) (v := ?v28) rfl (by kernel_rfl) (by kernel_rfl) (by kernel_rfl) (fun _ _ _ h => h) (Or.inl ⟨by rfl, ?y28⟩) hHeld ?r28
          case y28 =>
            intro w9 hSw
            (try dsimp only at hSw)
            go_simp
            try with_reducible rfl
          try simp only [Act.put, List.setIfInBounds_toArray, List.set_cons_zero, List.set_cons_succ]
          refine hTake (i := 11) (v := ?v29) rfl (by kernel_rfl) (by kernel_rfl) (by kernel_rfl) (fun _ _ _ h => h) (Or.inl ⟨by rfl, ?y29⟩) hHeld ?r29
          case y29 =>
            intro w9 hSw
            (try dsimp only at hSw)
            go_simp
            try with_reducible rfl
          try simp only [Act.put, List.setIfInBounds_toArray, List.set_cons_zero, List.set_cons_succ]
          refine hTake (i := 12) (v := ?v30) rfl (by kernel_rfl) (by kernel_rfl) (by kernel_rfl) (fun _ _ _ h => h) (Or.inl ⟨by rfl, ?y30⟩) hHeld ?r30
          case y30 =>
            intro w9 hSw
            (try dsimp only at hSw)
            go_simp
            try with_reducible rfl
          try simp only [Act.put, List.setIfInBounds_toArray, List.set_cons_zero, List.set_cons_succ]
          refine hTake (i := 13) (v := ?v31) rfl (by kernel_rfl) (by kernel_rfl) (by kernel_rfl) (fun _ _ _ h => h) (Or.inl ⟨by rfl, ?y31⟩) hHeld ?r31
          case y31 =>
            intro w9 hSw
            (try dsimp only at hSw)
            go_simp
            try with_reducible rfl
          try simp only [Act.put, List.setIfInBounds_toArray, List.set_cons_zero, List.set_cons_succ]
          refine hTake (i := 14) (v := ?v32) rfl (by kernel_rfl) (by kernel_rfl) (by kernel_rfl) (fun _ _ _ h => h) (Or.inl ⟨by rfl, ?y32⟩) hHeld ?r32
          case y32 =>
            intro w9 hSw
            (try dsimp only at hSw)
            go_simp
            try with_reducible rfl
          try simp only [Act.put, List.setIfInBounds_toArray, List.set_cons_zero, List.set_cons_succ]
          refine hCall (i := 15) rfl (by kernel_rfl) (by rfl) (fun K hK => ?_)
          go_simp
          refine (hst _).mono ?_
          rintro e u3 ⟨rfl, hb3⟩
          replace hA := hA.below hb3
          replace X1 := X1.below hb3
          replace hbW : Below w.heap.size w u3 := hbW.trans (hb3.mono hbW.size)
          clear hb3
          clear p00 p01 p02 p03
          obtain ⟨p00, p01, p02, p03, _⟩ := X1.cells
          go_wp2_with fail
          refine hK.out _ _ ?_ (fun hHeld => ?_)
          · (try dsimp only)
            exact ⟨p00, p01, p02, p03⟩
          clear hK K
          try simp only [Act.put, List.setIfInBounds_toArray, List.set_cons_zero, List.set_cons_succ]
          refine hTake (i := 16) (v := .bool (!q)) rfl (by kernel_rfl) (by kernel_rfl) (by kernel_rfl) (fun _ _ _ h => h) (Or.inl ⟨by rfl, ?y33⟩) hHeld ?r33
          case y33 =>
            intro w9 hSw
            (try dsimp only at hSw)
            go_simp
            have hqq := HQ.out
            cases q with
            | true =>
              obtain ⟨e1, e2, e3⟩ := hqq.2 rfl
              rw [if_pos e1, if_pos e2, if_pos e3]
              rfl
            | false =>
              have hno : ¬ (lo = x ∧ us = y ∧ hi = z) := fun hh => by cases hqq.1 hh
              repeat' split
              all_goals first | rfl | (exfalso; exact hno ⟨by assumption, by assumption, by assumption⟩)
          try simp only [Act.put, List.setIfInBounds_toArray, List.set_cons_zero, List.set_cons_succ]
          refine hTake (i := 17) (v := ?v34) rfl (by kernel_rfl) (by kernel_rfl) (by kernel_rfl) (fun _ _ _ h => h) (Or.inl ⟨by rfl, ?y34⟩) hHeld ?r34
          case y34 =>
            intro w9 hSw
            (try dsimp only at hSw)
            go_simp
            try with_reducible rfl
          try simp only [Act.put, List.setIfInBounds_toArray, List.set_cons_zero, List.set_cons_succ]
          refine wpAnyH_done (by kernel_rfl) ?_ _
          cases q with
          | true =>
            go_wp2
            go_roundw
            case rel =>
              refine ⟨k + 1, by omega, by go_num, fun j hj => ?_, hbW⟩
              rcases Nat.lt_or_ge j k with h1 | h1
              · exact HOK.out j h1
              · rw [show j = k by omega, HS.out]
                exact ⟨by rw [HON.out, hg]; rfl, HNE.out⟩
            case measure => simp [intOf]; omega
          | false =>
            have HFN : Hid (frA l = false) := HNO.out (by rw [HON.out, hg]; rfl)
            go_wp2
            go_ret
            exact ⟨rt_bool HFN.out.symm, hbW⟩
        · obtain ⟨z1, z2⟩ := HFS.out.2 hne
          have HFN : Hid (frA l = false) := frA_no (fun hf => by
            have := ((HF.out.1 hf).2 k hkn).2
            rw [HS.out] at this
            exact hne this)
          generalize hzz : fiA l tx = zz at *
          have HZ : Hid (fiA l tx = zz) := hzz
          have hkk : (zz != (k : Int)) = true := by simp; omega
          clear hne hzz hst
          go_wp2_with fail
          obtain ⟨W, hW, X1, hbR⟩ : ∃ W, W = wr.alloc (.cells #[.string tx, .int .i64 lo, .int .i64 us, .int .i64 hi] 23) ∧ BxA W wr.heap.size (.string tx) (.int .i64 lo) (.int .i64 us) (.int .i64 hi) ∧ Below wr.heap.size wr W := ⟨_, rfl, BxA.new wr _ _ _ _, bl1 _⟩
          rw [← hW]
          clear hW
          have hbW : Below w.heap.size w W := hB.trans (hbR.mono hB.size)
          have hA := HH.out.below hbW
          clear hbR hB d1 d2 d3 d4
          obtain ⟨p00, p01, p02, p03, _⟩ := X1.cells
          refine wp_region_held_drew (S := (fun u => u.cell? ⟨wr.heap.size, 0, none⟩ = some (.string tx) ∧ u.cell? ⟨wr.heap.size, 1, none⟩ = some (.int .i64 lo) ∧ u.cell? ⟨wr.heap.size, 2, none⟩ = some (.int .i64 us) ∧ u.cell? ⟨wr.heap.size, 3, none⟩ = some (.int .i64 hi))) (by kernel_rfl) ?_ (fun hHeld => ?_)
          · (try dsimp only)
            go_keep
          have hdr : Below W.heap.size W W.drew := Below.drew1
          generalize W.drew = ud35 at hdr hHeld ⊢
          replace hA := hA.below hdr
          replace X1 := X1.below hdr
          replace hbW : Below w.heap.size w ud35 := hbW.trans (hdr.mono hbW.size)
          clear hdr
          clear p00 p01 p02 p03
          obtain ⟨p00, p01, p02, p03, _⟩ := X1.cells
          refine hTake (i := 0) (v := ?v36) rfl (by kernel_rfl) (by kernel_rfl) (by kernel_rfl) (fun _ _ _ h => h) (Or.inl ⟨by rfl, ?y36⟩) hHeld ?r36
          case y36 =>
            intro w9 hSw
            (try dsimp only at hSw)
            go_simp
            try with_reducible rfl
          try simp only [Act.put, List.setIfInBounds_toArray, List.set_cons_zero, List.set_cons_succ]
          refine hTake (i := 1) (v := ?v37) rfl (by kernel_rfl) (by kernel_rfl) (by kernel_rfl) (fun _ _ _ h => h) (Or.inl ⟨by rfl, ?y37⟩) hHeld ?r37
          case y37 =>
            intro w9 hSw
            (try dsimp only at hSw)
            go_simp
            try with_reducible rfl
          try simp only [Act.put, List.setIfInBounds_toArray, List.set_cons_zero, List.set_cons_succ]
          refine hCall (i := 2) rfl (by kernel_rfl) (by rfl) (fun K hK => ?_)
          go_simp
          refine (goodB_any tx _ htz).mono ?_
          rintro e u1 ⟨rfl, hb1⟩
          replace hA := hA.below hb1
          replace X1 := X1.below hb1
          replace hbW : Below w.heap.size w u1 := hbW.trans (hb1.mono hbW.size)
          clear hb1
          rw [hg]
          clear p00 p01 p02 p03
          obtain ⟨p00, p01, p02, p03, _⟩ := X1.cells
          go_wp2_with fail
          refine hK.out _ _ ?_ (fun hHeld => ?_)
          · (try dsimp only)
            exact ⟨p00, p01, p02, p03⟩
          clear hK K
          try simp only [Act.put, List.setIfInBounds_toArray, List.set_cons_zero, List.set_cons_succ]
          refine hTake (i := 3) (v := ?v38) rfl (by kernel_rfl) (by kernel_rfl) (by kernel_rfl) (fun _ _ _ h => h) (Or.inl ⟨by rfl, ?y38⟩) hHeld ?r38
          case y38 =>
            intro w9 hSw
            (try dsimp only at hSw)
            go_simp
            try with_reducible rfl
          try simp only [Act.put, List.setIfInBounds_toArray, List.set_cons_zero, List.set_cons_succ]
          refine hTake (i := 4) (v := ?v39) rfl (by kernel_rfl) (by kernel_rfl) (by kernel_rfl) (fun _ _ _ h => h) (Or.inl ⟨by rfl, ?y39⟩) hHeld ?r39
          case y39 =>
            intro w9 hSw
            (try dsimp only at hSw)
            go_simp
            try with_reducible rfl
          try simp only [Act.put, List.setIfInBounds_toArray, List.set_cons_zero, List.set_cons_succ]
          refine hTake (i := 5) (v := ?v40) rfl (by kernel_rfl) (by kernel_rfl) (by kernel_rfl) (fun _ _ _ h => h) (Or.inl ⟨by rfl, ?y40⟩) hHeld ?r40
          case y40 =>
            intro w9 hSw
            (try dsimp only at hSw)
            go_simp
            try with_reducible rfl
          try simp only [Act.put, List.setIfInBounds_toArray, List.set_cons_zero, List.set_cons_succ]
          refine hTake (i := 6) (v := ?v41) rfl (by kernel_rfl) (by kernel_rfl) (by kernel_rfl) (fun _ _ _ h => h) (Or.inl ⟨by rfl, ?y41⟩) hHeld ?r41
          case y41 =>
            intro w9 hSw
            (try dsimp only at hSw)
            go_simp
            try with_reducible rfl
          try simp only [Act.put, List.setIfInBounds_toArray, List.set_cons_zero, List.set_cons_succ]
          refine hTake (i := 7) (v := ?v42) rfl (by kernel_rfl) (by kernel_rfl) (by kernel_rfl) (fun _ _ _ h => h) (Or.inl ⟨by rfl, ?y42⟩) hHeld ?r42
          case y42 =>
            intro w9 hSw
            (try dsimp only at hSw)
            go_simp
            try with_reducible rfl
          try simp only [Act.put, List.setIfInBounds_toArray, List.set_cons_zero, List.set_cons_succ]
          refine hTake (i := 9) (v := ?v43) rfl (by kernel_rfl) (by kernel_rfl) (by kernel_rfl) (fun _ _ _ h => h) (Or.inl ⟨by rfl, ?y43⟩) hHeld ?r43
          case y43 =>
            intro w9 hSw
            (try dsimp only at hSw)
            go_simp
            try with_reducible rfl
          try simp only [Act.put, List.setIfInBounds_toArray, List.set_cons_zero, List.set_cons_succ]
          refine hCall (i := 8) rfl (by kernel_rfl) (by rfl) (fun K hK => ?_)
          go_simp
          refine (cfind_any _ cap l tx _ hA).mono ?_
          rintro e u2 ⟨rfl, hb2⟩
          replace hA := hA.below hb2
          replace X1 := X1.below hb2
          replace hbW : Below w.heap.size w u2 := hbW.trans (hb2.mono hbW.size)
          clear hb2
          rw [HZ.out]
          clear p00 p01 p02 p03
          obtain ⟨p00, p01, p02, p03, _⟩ := X1.cells
          go_wp2_with fail
          refine hK.out _ _ ?_ (fun hHeld => ?_)
          · (try dsimp only)
            exact ⟨p00, p01, p02, p03⟩
          clear hK K
          try simp only [Act.put, List.setIfInBounds_toArray, List.set_cons_zero, List.set_cons_succ]
          refine hTake (i := 10) (v := ?v44) rfl (by kernel_rfl) (by kernel_rfl) (by kernel_rfl) (fun _ _ _ h => h) (Or.inl ⟨by rfl, ?y44⟩) hHeld ?r44
          case y44 =>
            intro w9 hSw
            (try dsimp only at hSw)
            go_simp
            try with_reducible rfl
          try simp only [Act.put, List.setIfInBounds_toArray, List.set_cons_zero, List.set_cons_succ]
          refine hTake (i := 11) (v := ?v45) rfl (by kernel_rfl) (by kernel_rfl) (by kernel_rfl) (fun _ _ _ h => h) (Or.inl ⟨by rfl, ?y45⟩) hHeld ?r45
          case y45 =>
            intro w9 hSw
            (try dsimp only at hSw)
            go_simp
            try with_reducible rfl
          try simp only [Act.put, List.setIfInBounds_toArray, List.set_cons_zero, List.set_cons_succ]
          refine hTake (i := 12) (v := ?v46) rfl (by kernel_rfl) (by kernel_rfl) (by kernel_rfl) (fun _ _ _ h => h) (Or.inl ⟨by rfl, ?y46⟩) hHeld ?r46
          case y46 =>
            intro w9 hSw
            (try dsimp only at hSw)
            go_simp
            try with_reducible rfl
          try simp only [Act.put, List.setIfInBounds_toArray, List.set_cons_zero, List.set_cons_succ]
          refine hTake (i := 13) (v := undef) rfl (by kernel_rfl) (by kernel_rfl) (by kernel_rfl) (fun _ _ _ h => h) (Or.inr ⟨by rfl, rfl⟩) hHeld ?_
          try simp only [Act.put, List.setIfInBounds_toArray, List.set_cons_zero, List.set_cons_succ]
          refine hTake (i := 14) (v := undef) rfl (by kernel_rfl) (by kernel_rfl) (by kernel_rfl) (fun _ _ _ h => h) (Or.inr ⟨by rfl, rfl⟩) hHeld ?_
          try simp only [Act.put, List.setIfInBounds_toArray, List.set_cons_zero, List.set_cons_succ]
          refine hTake (i := 15) (v := undef) rfl (by kernel_rfl) (by kernel_rfl) (by kernel_rfl) (fun _ _ _ h => h) (Or.inr ⟨by rfl, rfl⟩) hHeld ?_
          try simp only [Act.put, List.setIfInBounds_toArray, List.set_cons_zero, List.set_cons_succ]
          refine hTake (i := 16) (v := undef) rfl (by kernel_rfl) (by kernel_rfl) (by kernel_rfl) (fun _ _ _ h => h) (Or.inr ⟨by rfl, rfl⟩) hHeld ?_
          try simp only [Act.put, List.setIfInBounds_toArray, List.set_cons_zero, List.set_cons_succ]
          refine hTake (i := 17) (v := ?v47) rfl (by kernel_rfl) (by kernel_rfl) (by kernel_rfl) (fun _ _ _ h => h) (Or.inl ⟨by rfl, ?y47⟩) hHeld ?r47
          case y47 =>
            intro w9 hSw
            (try dsimp only at hSw)
            go_simp
            try with_reducible rfl
          try simp only [Act.put, List.setIfInBounds_toArray, List.set_cons_zero, List.set_cons_succ]
          refine wpAnyH_done (by kernel_rfl) ?_ _
          go_wp2
          go_ret
          exact ⟨rt_bool HFN.out.symm, hbW⟩
    · obtain rfl : k = l.length := by omega
      have hf : frA l = true := frA_iff.2 (HF.out.2 ⟨by omega, HOK.out⟩)
      go_wp2
      go_ret
      exact ⟨rt_bool hf.symm, hB⟩

end Go.Proofs.YtanppgmhlcifiaaGreatDoor
