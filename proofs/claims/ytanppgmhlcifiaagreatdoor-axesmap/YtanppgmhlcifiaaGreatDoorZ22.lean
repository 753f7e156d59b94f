/-
  foundryref06.Plain: the walk.
-/
import Derived.Test.YtanppgmhlcifiaaGreatDoorZ18
import Derived.Test.YtanppgmhlcifiaaGreatDoorZ15
import Derived.Test.YtanppgmhlcifiaaGreatDoorZ20
import Derived.Test.YtanppgmhlcifiaaGreatDoorZ21
namespace Go.Proofs.YtanppgmhlcifiaaGreatDoor
open Go.RowKit Go.Maps
set_option linter.unusedSimpArgs false
set_option linter.unusedVariables false

set_option maxHeartbeats 2000000 in
set_option maxRecDepth 100000 in
theorem splainA_any (t : Ax) (u : Int) (w : World) (ht : Axw t) (hu : I64 u) :
    Calls Tryz.prog 9 #[.agg (axC t), .int .i64 u] w fun e w' => ∃ v', e = .returned v' ∧ Fr w' v' 2 (plQ t u) ∧ Below w.heap.size w w' := by
  have hal := fun W => soneA_any t W ht.1
  cases h1 : onA t with
  | false =>
    have HQ : Hid (plQ t u = 0) := by show plQ t u = 0; simp [plQ, h1]
    rw [h1] at hal
    obtain ⟨tx, lo, us, hi⟩ := t
    unfold axC at hal ⊢
    dsimp only at hal ⊢
    obtain ⟨W, hW, X1, B2, hbW⟩ : ∃ W, W = (w.alloc (.cells #[.string tx, .int .i64 lo, .int .i64 us, .int .i64 hi] 23)).alloc (.cells #[.bool false, .slice none 0 0, .slice none 0 0] 32) ∧ BxA W w.heap.size (.string tx) (.int .i64 lo) (.int .i64 us) (.int .i64 hi) ∧ Box 32 W (w.heap.size + 1) (.bool false) (.slice none 0 0) (.slice none 0 0) ∧ Below w.heap.size w W := ⟨_, rfl, (BxA.new w _ _ _ _).below (bl1 _), Box.new1 _ w _ _ _ _, bl2 _ _⟩
    go_enter Tryz.func9, Tryz.ntmps9
    go_wp2_with fail
    rw [← hW]
    clear hW
    obtain ⟨p00, p01, p02, p03, _⟩ := X1.cells
    obtain ⟨p10, p11, p12, _⟩ := B2.cells
    refine (hal _).mono ?_
    rintro e u1 ⟨rfl, hb1⟩
    replace X1 := X1.below hb1
    replace B2 := B2.below hb1
    replace hbW : Below w.heap.size w u1 := hbW.trans (hb1.mono hbW.size)
    clear hb1
    clear p00 p01 p02 p03 p10 p11 p12
    obtain ⟨p00, p01, p02, p03, _⟩ := X1.cells
    obtain ⟨p10, p11, p12, _⟩ := B2.cells
    go_wp2_with fail
    refine (szero_any _).mono ?_
    rintro e u2 ⟨v2, rfl, hF2, hb2⟩
    replace X1 := X1.below hb2
    replace B2 := B2.below hb2
    replace hbW : Below w.heap.size w u2 := hbW.trans (hb2.mono hbW.size)
    clear hb2
    clear p00 p01 p02 p03 p10 p11 p12
    obtain ⟨p00, p01, p02, p03, _⟩ := X1.cells
    obtain ⟨p10, p11, p12, _⟩ := B2.cells
    replace hF2 := hF2.eq (r := plQ ⟨tx, lo, us, hi⟩ u) (by rw [HQ.out])
    clear p00 p01 p02 p03 p10 p11 p12
    obtain ⟨n', xs', ys', ⟨e1, f1, e2, f2, rfl, hx', hy'⟩, hF⟩ := hF2
    have hs := B2.lt
    obtain ⟨q1, q2, q3, q4, q5, q6⟩ := B2.cells
    go_wp2
    refine ret3 (v := .agg #[.bool n', .slice e1 xs'.length f1, .slice e2 ys'.length f2]) B2 rfl (fun U hU => by obtain ⟨r1, r2, r3, _⟩ := hU.cells; simp [results, Tryz.results9, go_sem, r1, r2, r3]) (fun U hU hK => ⟨_, rfl, ⟨_, _, _, ⟨_, _, _, _, rfl, hK _ _ _ hx', hK _ _ _ hy'⟩, hF⟩, hU _ _ hbW (by omega)⟩)
  | true =>
    obtain ⟨_, k1, k2, k3, k4⟩ := onA_iff.1 h1
    have hcl := clp_in (u := u) (Int.le_trans k2 k3)
    have HQ : Hid (plQ t u = if clp u t.lo t.hi < t.us then ((clp u t.lo t.hi - t.us : Int) : Rat) / ((t.us - t.lo : Int) : Rat) else ((clp u t.lo t.hi - t.us : Int) : Rat) / ((t.hi - t.us : Int) : Rat)) := by show plQ t u = _; simp [plQ, h1, sdQ]
    rw [h1] at hal
    clear h1 ht
    obtain ⟨tx, lo, us, hi⟩ := t
    unfold axC at hal ⊢
    dsimp only at hal HQ hcl k1 k2 k3 k4 ⊢
    obtain ⟨c, hc⟩ : ∃ c, clp u lo hi = c := ⟨_, rfl⟩
    rw [hc] at hcl HQ
    have HC : Hid (clp u lo hi = c) := hc
    obtain ⟨hc1, hc2⟩ := hcl
    clear hc
    obtain ⟨W, hW, X1, B2, hbW⟩ : ∃ W, W = (w.alloc (.cells #[.string tx, .int .i64 lo, .int .i64 us, .int .i64 hi] 23)).alloc (.cells #[.bool false, .slice none 0 0, .slice none 0 0] 32) ∧ BxA W w.heap.size (.string tx) (.int .i64 lo) (.int .i64 us) (.int .i64 hi) ∧ Box 32 W (w.heap.size + 1) (.bool false) (.slice none 0 0) (.slice none 0 0) ∧ Below w.heap.size w W := ⟨_, rfl, (BxA.new w _ _ _ _).below (bl1 _), Box.new1 _ w _ _ _ _, bl2 _ _⟩
    go_enter Tryz.func9, Tryz.ntmps9
    go_wp2_with fail
    rw [← hW]
    clear hW
    obtain ⟨p00, p01, p02, p03, _⟩ := X1.cells
    obtain ⟨p10, p11, p12, _⟩ := B2.cells
    refine (hal _).mono ?_
    rintro e u1 ⟨rfl, hb1⟩
    replace X1 := X1.below hb1
    replace B2 := B2.below hb1
    replace hbW : Below w.heap.size w u1 := hbW.trans (hb1.mono hbW.size)
    clear hb1
    clear p00 p01 p02 p03 p10 p11 p12
    obtain ⟨p00, p01, p02, p03, _⟩ := X1.cells
    obtain ⟨p10, p11, p12, _⟩ := B2.cells
    go_wp2_with fail
    refine (sclampB_any u lo hi _).mono ?_
    rintro e u2 ⟨rfl, hb2⟩
    replace X1 := X1.below hb2
    replace B2 := B2.below hb2
    replace hbW : Below w.heap.size w u2 := hbW.trans (hb2.mono hbW.size)
    clear hb2
    clear p00 p01 p02 p03 p10 p11 p12
    obtain ⟨p00, p01, p02, p03, _⟩ := X1.cells
    obtain ⟨p10, p11, p12, _⟩ := B2.cells
    rw [HC.out]
    by_cases hlt : c < us
    · have HQ2 : Hid (plQ ⟨tx, lo, us, hi⟩ u = ((c - us : Int) : Rat) / ((us - lo : Int) : Rat)) := by show _ = _; rw [HQ.out, if_pos hlt]
      go_wp2_with fail
      refine (smake_any (c - us) (us - lo) _ (by omega) (by omega) (by omega) (by omega)).mono ?_
      rintro e u3 ⟨v2, rfl, hF2, hb3⟩
      replace X1 := X1.below hb3
      replace B2 := B2.below hb3
      replace hbW : Below w.heap.size w u3 := hbW.trans (hb3.mono hbW.size)
      clear hb3
      clear p00 p01 p02 p03 p10 p11 p12
      obtain ⟨p00, p01, p02, p03, _⟩ := X1.cells
      obtain ⟨p10, p11, p12, _⟩ := B2.cells
      rw [← HQ2.out] at hF2
      clear p00 p01 p02 p03 p10 p11 p12
      obtain ⟨n', xs', ys', ⟨e1, f1, e2, f2, rfl, hx', hy'⟩, hF⟩ := hF2
      have hs := B2.lt
      obtain ⟨q1, q2, q3, q4, q5, q6⟩ := B2.cells
      go_wp2
      refine ret3 (v := .agg #[.bool n', .slice e1 xs'.length f1, .slice e2 ys'.length f2]) B2 rfl (fun U hU => by obtain ⟨r1, r2, r3, _⟩ := hU.cells; simp [results, Tryz.results9, go_sem, r1, r2, r3]) (fun U hU hK => ⟨_, rfl, ⟨_, _, _, ⟨_, _, _, _, rfl, hK _ _ _ hx', hK _ _ _ hy'⟩, hF⟩, hU _ _ hbW (by omega)⟩)
    · have HQ2 : Hid (plQ ⟨tx, lo, us, hi⟩ u = ((c - us : Int) : Rat) / ((hi - us : Int) : Rat)) := by show _ = _; rw [HQ.out, if_neg hlt]
      go_wp2_with fail
      refine (smake_any (c - us) (hi - us) _ (by omega) (by omega) (by omega) (by omega)).mono ?_
      rintro e u3 ⟨v2, rfl, hF2, hb3⟩
      replace X1 := X1.below hb3
      replace B2 := B2.below hb3
      replace hbW : Below w.heap.size w u3 := hbW.trans (hb3.mono hbW.size)
      clear hb3
      clear p00 p01 p02 p03 p10 p11 p12
      obtain ⟨p00, p01, p02, p03, _⟩ := X1.cells
      obtain ⟨p10, p11, p12, _⟩ := B2.cells
      rw [← HQ2.out] at hF2
      clear p00 p01 p02 p03 p10 p11 p12
      obtain ⟨n', xs', ys', ⟨e1, f1, e2, f2, rfl, hx', hy'⟩, hF⟩ := hF2
      have hs := B2.lt
      obtain ⟨q1, q2, q3, q4, q5, q6⟩ := B2.cells
      go_wp2
      refine ret3 (v := .agg #[.bool n', .slice e1 xs'.length f1, .slice e2 ys'.length f2]) B2 rfl (fun U hU => by obtain ⟨r1, r2, r3, _⟩ := hU.cells; simp [results, Tryz.results9, go_sem, r1, r2, r3]) (fun U hU hK => ⟨_, rfl, ⟨_, _, _, ⟨_, _, _, _, rfl, hK _ _ _ hx', hK _ _ _ hy'⟩, hF⟩, hU _ _ hbW (by omega)⟩)

end Go.Proofs.YtanppgmhlcifiaaGreatDoor
