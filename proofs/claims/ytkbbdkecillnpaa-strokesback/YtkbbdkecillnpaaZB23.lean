/-
  (*strokes.pen).move: the walk.
  (*strokes.pen).do, by what is done: the walks.
-/
import Derived.Test.YtkbbdkecillnpaaZB21
import Derived.Test.YtkbbdkecillnpaaZB22
namespace Go.Proofs.Ytkbbdkecillnpaa
open Go.RowKit Go.Maps
set_option linter.unusedSimpArgs false
set_option linter.unusedVariables false

/-- The cells of a pen. -/
def pC (d0 d1 d2 d3 : Value) (x y st : Int) (N : List Int) (v : Value) : List Value := [d0, d1, d2, d3, .int .i64 x, .int .i64 y, .int .i64 st, .int .i64 (N.getD 0 0), .int .i64 (N.getD 1 0), .int .i64 (N.getD 2 0), .int .i64 (N.getD 3 0), .int .i64 (N.getD 4 0), .int .i64 (N.getD 5 0), v]
theorem info_pnQ : (Try.prog.info? 58).map (fun i => (i.zero, i.size, i.bytes)) = some (some (.agg #[.int .i64 0, .int .i64 0, .bool false]), PnE.sz, 24) := info_pn

set_option maxHeartbeats 4000000 in
set_option maxRecDepth 100000 in
theorem move_any (B : Nat) (d0 d1 d2 d3 : Value) (x y st : Int) (N : List Int) (v : Value) (out : List (List Pn)) (dx dy : Int) (on : Bool) (w : World) (hP : Bk 83 w B (pC d0 d1 d2 d3 x y st N v)) (hC : Co (B + 1) w v out) (hne : out ≠ []) (hx1 : -100000000 ≤ x) (hx2 : x ≤ 100000000) (hy1 : -100000000 ≤ y) (hy2 : y ≤ 100000000) (hdx1 : -32768 ≤ dx) (hdx2 : dx ≤ 32767) (hdy1 : -32768 ≤ dy) (hdy2 : dy ≤ 32767) (hcl : (out.getD (out.length - 1) []).length ≤ 100000) :
    Calls Try.prog 47 #[.pointer (some ⟨B, 0, none⟩), .int .i64 dx, .int .i64 dy, .bool on] w fun e w' => e = .returned (.tuple #[]) ∧ Bk 83 w' B (pC d0 d1 d2 d3 (x + dx) (y + dy) st N v) ∧ Co (B + 1) w' v (putL out ⟨x + dx, y + dy, on⟩) ∧ Below B w w' := by
  have ix1 : -200000000 ≤ x + dx := by omega
  have ix2 : x + dx ≤ 200000000 := by omega
  have iy1 : -200000000 ≤ y + dy := by omega
  have iy2 : y + dy ≤ 200000000 := by omega
  have hx0 := hP.cell 4 (by show 4 < 14; omega)
  have hy0 := hP.cell 5 (by show 5 < 14; omega)
  have hf4 := hP.fz 4
  have hf5 := hP.fz 5
  replace hx0 : w.cell? ⟨B, 4, none⟩ = some (.int .i64 x) := hx0
  replace hy0 : w.cell? ⟨B, 5, none⟩ = some (.int .i64 y) := hy0
  obtain ⟨W, hW, hPW, hCW, hbW⟩ : ∃ W, W = (w.setCell ⟨B, 4, none⟩ (.int .i64 (x + dx))).setCell ⟨B, 5, none⟩ (.int .i64 (y + dy)) ∧ Bk 83 W B (pC d0 d1 d2 d3 (x + dx) (y + dy) st N v) ∧ Co (B + 1) W v out ∧ Below B w W :=
    ⟨_, rfl, (hP.set 4 _).set 5 _, (hC.set (Nat.lt_succ_self _)).set (Nat.lt_succ_self _), ((Below.refl B w).setCell (p := ⟨B, 4, none⟩) (Nat.le_refl _) _).setCell (p := ⟨B, 5, none⟩) (Nat.le_refl _) _⟩
  go_enter Try.func47, Try.ntmps47
  go_upto_region 2 with fail
  rw [← hW]
  clear hW hx0 hy0 hf4 hf5 hP hC
  obtain ⟨X, hX⟩ : ∃ X, x + dx = X := ⟨_, rfl⟩
  obtain ⟨Y, hY⟩ : ∃ Y, y + dy = Y := ⟨_, rfl⟩
  have HXE : Hid (x + dx = X) := hX
  have HYE : Hid (y + dy = Y) := hY
  rw [hX, hY] at hPW
  rw [hX] at ix1 ix2 ⊢
  rw [hY] at iy1 iy2 ⊢
  clear hX hY
  have hv0 := hPW.cell 13 (by show 13 < 14; omega)
  replace hv0 : W.cell? ⟨B, 13, none⟩ = some v := hv0
  have hx0 : W.cell? ⟨B, 4, none⟩ = some (.int .i64 X) := hPW.cell 4 (by show 4 < 14; omega)
  have hy0 : W.cell? ⟨B, 5, none⟩ = some (.int .i64 Y) := hPW.cell 5 (by show 5 < 14; omega)
  obtain ⟨m, hm⟩ : ∃ m, out.length = m := ⟨_, rfl⟩
  have hpos : 0 < out.length := List.length_pos_iff.2 hne
  obtain ⟨n, hn⟩ : ∃ n, m = n + 1 := ⟨m - 1, by omega⟩
  obtain ⟨c, hcc⟩ : ∃ c, out.getD n [] = c := ⟨_, rfl⟩
  have hmm : (m : Int) ≤ 9223372036854775807 := by
    obtain ⟨a9, c9, e9, h9, _⟩ := hCW.slice
    have := h9.lenB
    omega
  have HPE : Hid (putL out ⟨X, Y, on⟩ = out.set n (c ++ [⟨X, Y, on⟩])) := putL_at hm hn hcc _
  rw [show out.length - 1 = n by omega, hcc] at hcl
  obtain ⟨g, cap, la, lc, rfl, hbg, hlt, hc0, hlast, ⟨cur, hcur⟩, hput⟩ := hCW.lastN hm hn hcc
  have HPUT : Hid (_) := hput
  have HLA : Hid (Gw PnE 58 (B + 1) (fun _ => False) W (.slice la c.length lc) c) := hlast
  have HPW : Hid (Bk 83 W B (pC d0 d1 d2 d3 X Y st N (.slice (some ⟨g, 0, none⟩) m cap))) := hPW
  have HCUR : Hid (W.heap[g]? = some (.cells cur 56 (0, 0))) := hcur
  have HBW : Hid (Below B w W) := hbW
  have i1 : (0 : Int) ≤ (m : Int) - 1 := by omega
  have i5 : (1 : Int) ≤ (m : Int) := by omega
  have i2 : (m : Int) - 1 < (m : Int) := by omega
  have i3 : ((m : Int) - 1).toNat = n := by omega
  have i4 : IntKind.i64.wrap ((m : Int) - 1) = (m : Int) - 1 := wrapi64 (by omega) (by omega)
  have hgB : g ≠ B := by omega
  have hBl : B < W.heap.size := hPW.lt
  clear hm hcc hput hlast hCW hne hn hpos hPW hcur hbW
  refine wp_region_held_drew (S := fun w9 => w9.cell? ⟨B, 13, none⟩ = some (.slice (some ⟨g, 0, none⟩) m cap)) (by kernel_rfl) ?_ (fun hHeld => ?_)
  · (try dsimp only)
    go_keep
  have hdr : Below W.heap.size W W.drew := Below.drew1
  generalize W.drew = Z at hdr hHeld ⊢
  replace hx0 := (hdr.cell (p := ⟨B, 4, none⟩) hBl).trans hx0
  replace hy0 := (hdr.cell (p := ⟨B, 5, none⟩) hBl).trans hy0
  replace hc0 := (hdr.cell (p := ⟨g, n, none⟩) hlt).trans hc0
  refine hT 0 hHeld ?_
  refine hT 1 hHeld ?_
  refine hT 2 hHeld ?_
  refine hT 3 hHeld ?_
  refine hT 4 hHeld ?_
  refine hT 5 hHeld ?_
  refine hT 6 hHeld ?_
  refine hT 7 hHeld ?_
  refine hT 8 hHeld ?_
  refine hT 9 hHeld ?_
  refine hT 10 hHeld ?_
  refine hT 11 hHeld ?_
  refine wpAnyH_done (by kernel_rfl) ?_ _
  clear hHeld hv0
  go_upto_region 3 with fail
  refine wp_region_held_drew (S := fun w9 => w9.cell? ⟨B, 4, none⟩ = some (.int .i64 X) ∧ w9.cell? ⟨B, 5, none⟩ = some (.int .i64 Y)) (by kernel_rfl) ?_ (fun hHeld => ?_)
  · (try dsimp only)
    go_keep
  have hdr2 : Below Z.heap.size Z Z.drew := Below.drew1
  have hWZ := hdr.trans (hdr2.mono hdr.size)
  have hzz := hdr.size
  replace hc0 := (hdr2.cell (p := ⟨g, n, none⟩) (by show g < _; omega)).trans hc0
  clear hx0 hy0 hdr
  generalize Z.drew = Z at hdr2 hHeld hWZ hc0 ⊢
  have hzz := hWZ.size
  obtain ⟨V, hV, Y9, hbv⟩ : ∃ V, V = Z.alloc (.cells #[.int .i64 X, .int .i64 Y, .bool on] 58) ∧ Bk 58 V Z.heap.size [.int .i64 X, .int .i64 Y, .bool on] ∧ Below Z.heap.size Z V := ⟨_, rfl, Bk.new _ _ _, bl1 _⟩
  have hWV := hWZ.trans (hbv.mono hWZ.size)
  have hvv := hbv.size
  have x4 := (hbv.cell (p := ⟨B, 4, none⟩) (by show B < _; omega)).trans hHeld.1
  have y4 := (hbv.cell (p := ⟨B, 5, none⟩) (by show B < _; omega)).trans hHeld.2
  have c4 := (hbv.cell (p := ⟨g, n, none⟩) (by show g < _; omega)).trans hc0
  have HLV : Hid (Gw PnE 58 (B + 1) (fun _ => False) V (.slice la c.length lc) c) := HLA.out.below hWV
  have HNG : Hid ((Value.slice la c.length lc).ownBlock ≠ some g) := fun e => by
    obtain ⟨cu2, h2⟩ := HLA.out.ty e
    rw [HCUR.out] at h2
    injection h2 with h2
    injection h2 with _ h2
    exact absurd h2 (by decide)
  have HONE : Hid (Gr PnE (fun k => False ∧ (Value.slice la c.length lc).ownBlock ≠ some k) V (some ⟨Z.heap.size, 0, none⟩) 1 [⟨X, Y, on⟩]) := Gr.one (E := PnE) (vs := pnC ⟨X, Y, on⟩) (PnE_rep.2 ⟨rfl, ⟨by dsimp only; omega, by dsimp only; omega⟩, ⟨by dsimp only; omega, by dsimp only; omega⟩⟩) Y9.lt (fun j hj => Y9.cell j hj)
  clear hbv Y9 hdr2 hWZ
  refine hT 0 hHeld ?_
  refine hT 1 hHeld ?_
  refine hT 2 hHeld ?_
  refine hT 4 hHeld ?_
  refine hT 5 hHeld ?_
  refine hT 6 hHeld ?_
  refine hT 7 hHeld ?_
  refine hT 8 hHeld ?_
  refine hT 9 hHeld ?_
  refine hT 10 hHeld ?_
  refine hT 11 hHeld ?_
  refine hT 12 hHeld ?_
  refine hT 13 hHeld ?_
  refine wpAnyH_ready (rs := [3, 14]) (by kernel_rfl) (by simp) (hCons (i := 3) rfl (by rfl) (fun K hK => ?_) (hCons (i := 14) rfl (by rfl) (fun K hK => ?_) AllReadyH.nil))
  · go_simp
    refine hK.out _ _ ?_ (fun hHeld => ?_)
    · (try dsimp only)
      exact hHeld
    clear hK K
    try simp only [Act.put, List.setIfInBounds_toArray, List.set_cons_zero, List.set_cons_succ]
    refine hCall (i := 14) rfl (by kernel_rfl) (by rfl) (fun K hK => ?_)
    go_simp
    rw [← hV]
    clear hV
    refine hK.out _ _ ?_ (fun hHeld => ?_)
    · (try dsimp only)
      exact ⟨x4, y4⟩
    clear hK K
    try simp only [Act.put, List.setIfInBounds_toArray, List.set_cons_zero, List.set_cons_succ]
    refine hCall (i := 15) rfl (by kernel_rfl) (by rfl) (fun K hK => ?_)
    refine wp_append_el (E := PnE) 56 58 Try.underlying56 info_pnQ rfl (by decide) (by decide) _ _ rfl (B + 1) (fun _ => False) _ c rfl HLV.out ⟨Z.heap.size, 0, none⟩ 1 1 [⟨X, Y, on⟩] rfl rfl HONE.out (by simp; omega) (by omega) ?_
    intro v9 w9 hT9 hgrow hwh
    have hs9 := hgrow.size
    have hg9 : ∀ k, k < V.heap.size → (Value.slice la c.length lc).ownBlock ≠ some k → w9.heap[k]? = V.heap[k]? := fun k h1 h2 => hgrow.block k h1 (fun e => h2 e.symm)
    have hgl : (Value.slice la c.length lc).ownBlock ≠ some g := fun e => HNG.out e
    have hBn : (Value.slice la c.length lc).ownBlock ≠ some B := fun e => by have := (HLV.out.lo e).1; omega
    have x9 := (World.cell?_of_block (w := V) (a := ⟨B, 4, none⟩) (hg9 B (by omega) hBn)).trans x4
    have y9 := (World.cell?_of_block (w := V) (a := ⟨B, 5, none⟩) (hg9 B (by omega) hBn)).trans y4
    have c9 := (World.cell?_of_block (w := V) (a := ⟨g, n, none⟩) (hg9 g (by omega) hgl)).trans c4
    have hcur9 : w9.heap[g]? = some (.cells cur 56 (0, 0)) := (hg9 g (by omega) hgl).trans ((hWV.block g hlt).trans HCUR.out)
    have f9 := frozen_of_row w9 g n _ _ hcur9
    refine hK.out _ _ ?_ (fun hHeld => ?_)
    · (try dsimp only)
      exact ⟨x9, y9⟩
    clear hK K
    try simp only [Act.put, List.setIfInBounds_toArray, List.set_cons_zero, List.set_cons_succ]
    refine hT 16 hHeld ?_
    obtain ⟨va, vc, e9, -, -⟩ := hT9.slice
    have HCO : Hid (Co (B + 1) (w9.setCell ⟨g, n, none⟩ v9) (.slice (some ⟨g, 0, none⟩) m cap) (out.set n (c ++ [⟨X, Y, on⟩]))) := HPUT.out v9 w9 _ (by have := hWV.size; omega) (fun k h1 h2 h3 => (hg9 k (by have := hWV.size; omega) h3).trans (hWV.block k h2)) hT9 (by
      rcases hwh with e | e
      · exact .inl e
      · refine .inr (fun k hk => ?_)
        rw [e] at hk
        injection hk with hk
        have := hWV.size
        omega) (by rw [List.length_append, List.length_singleton]; omega)
    have HP9 : Hid (Bk 83 (w9.setCell ⟨g, n, none⟩ v9) B (pC d0 d1 d2 d3 X Y st N (.slice (some ⟨g, 0, none⟩) m cap))) := Bk.other ((hg9 B (by omega) hBn).trans ((hWV.block B hBl).trans HPW.out)) n v9 (by omega)
    have HB9 : Hid (Below B w (w9.setCell ⟨g, n, none⟩ v9)) := ((HBW.out.trans (hWV.mono (by omega))).grown hgrow (by have := hWV.size; omega) (fun q hq => by have := (HLV.out.lo hq).1; omega)).setCell (p := ⟨g, n, none⟩) (by show B ≤ g; omega) _
    rw [e9] at HCO HP9 HB9 ⊢
    generalize (c ++ [(⟨X, Y, on⟩ : Pn)]).length = cn at *
    clear hT9 hgrow hwh e9 hg9
    refine hCall (i := 17) rfl (by kernel_rfl) (by rfl) (fun K hK => ?_)
    go_simp
    refine hK.out _ _ ?_ (fun hHeld => ?_)
    · (try dsimp only)
      exact ⟨(HP9.out.cell 4 (by show 4 < 14; omega)), (HP9.out.cell 5 (by show 5 < 14; omega))⟩
    clear hK K
    try simp only [Act.put, List.setIfInBounds_toArray, List.set_cons_zero, List.set_cons_succ]
    refine wpAnyH_done (by kernel_rfl) ?_ _
    clear hHeld x9 y9 c9 f9 hcur9
    go_wp2
    (try simp only [Exit.inBlock, Exit.then])
    refine bodyPost_end (results_none rfl _ _ _) rfl ?_
    rw [HXE.out, HYE.out]
    exact ⟨rfl, HP9.out, by rw [HPE.out]; exact HCO.out, HB9.out⟩
  · go_simp
    rw [← hV]
    clear hV
    refine hK.out _ _ ?_ (fun hHeld => ?_)
    · (try dsimp only)
      exact ⟨x4, y4⟩
    clear hK K
    try simp only [Act.put, List.setIfInBounds_toArray, List.set_cons_zero, List.set_cons_succ]
    refine hCall (i := 3) rfl (by kernel_rfl) (by rfl) (fun K hK => ?_)
    go_simp
    refine hK.out _ _ ?_ (fun hHeld => ?_)
    · (try dsimp only)
      exact hHeld
    clear hK K
    try simp only [Act.put, List.setIfInBounds_toArray, List.set_cons_zero, List.set_cons_succ]
    refine hCall (i := 15) rfl (by kernel_rfl) (by rfl) (fun K hK => ?_)
    refine wp_append_el (E := PnE) 56 58 Try.underlying56 info_pnQ rfl (by decide) (by decide) _ _ rfl (B + 1) (fun _ => False) _ c rfl HLV.out ⟨Z.heap.size, 0, none⟩ 1 1 [⟨X, Y, on⟩] rfl rfl HONE.out (by simp; omega) (by omega) ?_
    intro v9 w9 hT9 hgrow hwh
    have hs9 := hgrow.size
    have hg9 : ∀ k, k < V.heap.size → (Value.slice la c.length lc).ownBlock ≠ some k → w9.heap[k]? = V.heap[k]? := fun k h1 h2 => hgrow.block k h1 (fun e => h2 e.symm)
    have hgl : (Value.slice la c.length lc).ownBlock ≠ some g := fun e => HNG.out e
    have hBn : (Value.slice la c.length lc).ownBlock ≠ some B := fun e => by have := (HLV.out.lo e).1; omega
    have x9 := (World.cell?_of_block (w := V) (a := ⟨B, 4, none⟩) (hg9 B (by omega) hBn)).trans x4
    have y9 := (World.cell?_of_block (w := V) (a := ⟨B, 5, none⟩) (hg9 B (by omega) hBn)).trans y4
    have c9 := (World.cell?_of_block (w := V) (a := ⟨g, n, none⟩) (hg9 g (by omega) hgl)).trans c4
    have hcur9 : w9.heap[g]? = some (.cells cur 56 (0, 0)) := (hg9 g (by omega) hgl).trans ((hWV.block g hlt).trans HCUR.out)
    have f9 := frozen_of_row w9 g n _ _ hcur9
    refine hK.out _ _ ?_ (fun hHeld => ?_)
    · (try dsimp only)
      exact ⟨x9, y9⟩
    clear hK K
    try simp only [Act.put, List.setIfInBounds_toArray, List.set_cons_zero, List.set_cons_succ]
    refine hT 16 hHeld ?_
    obtain ⟨va, vc, e9, -, -⟩ := hT9.slice
    have HCO : Hid (Co (B + 1) (w9.setCell ⟨g, n, none⟩ v9) (.slice (some ⟨g, 0, none⟩) m cap) (out.set n (c ++ [⟨X, Y, on⟩]))) := HPUT.out v9 w9 _ (by have := hWV.size; omega) (fun k h1 h2 h3 => (hg9 k (by have := hWV.size; omega) h3).trans (hWV.block k h2)) hT9 (by
      rcases hwh with e | e
      · exact .inl e
      · refine .inr (fun k hk => ?_)
        rw [e] at hk
        injection hk with hk
        have := hWV.size
        omega) (by rw [List.length_append, List.length_singleton]; omega)
    have HP9 : Hid (Bk 83 (w9.setCell ⟨g, n, none⟩ v9) B (pC d0 d1 d2 d3 X Y st N (.slice (some ⟨g, 0, none⟩) m cap))) := Bk.other ((hg9 B (by omega) hBn).trans ((hWV.block B hBl).trans HPW.out)) n v9 (by omega)
    have HB9 : Hid (Below B w (w9.setCell ⟨g, n, none⟩ v9)) := ((HBW.out.trans (hWV.mono (by omega))).grown hgrow (by have := hWV.size; omega) (fun q hq => by have := (HLV.out.lo hq).1; omega)).setCell (p := ⟨g, n, none⟩) (by show B ≤ g; omega) _
    rw [e9] at HCO HP9 HB9 ⊢
    generalize (c ++ [(⟨X, Y, on⟩ : Pn)]).length = cn at *
    clear hT9 hgrow hwh e9 hg9
    refine hCall (i := 17) rfl (by kernel_rfl) (by rfl) (fun K hK => ?_)
    go_simp
    refine hK.out _ _ ?_ (fun hHeld => ?_)
    · (try dsimp only)
      exact ⟨(HP9.out.cell 4 (by show 4 < 14; omega)), (HP9.out.cell 5 (by show 5 < 14; omega))⟩
    clear hK K
    try simp only [Act.put, List.setIfInBounds_toArray, List.set_cons_zero, List.set_cons_succ]
    refine wpAnyH_done (by kernel_rfl) ?_ _
    clear hHeld x9 y9 c9 f9 hcur9
    go_wp2
    (try simp only [Exit.inBlock, Exit.then])
    refine bodyPost_end (results_none rfl _ _ _) rfl ?_
    rw [HXE.out, HYE.out]
    exact ⟨rfl, HP9.out, by rw [HPE.out]; exact HCO.out, HB9.out⟩

end Go.Proofs.Ytkbbdkecillnpaa

namespace Go.Proofs.Ytkbbdkecillnpaa
open Go.RowKit Go.Maps
set_option linter.unusedSimpArgs false
set_option linter.unusedVariables false

theorem Co.lo {base : Nat} {w : World} {v : Value} {o : List (List Pn)} (h : Co base w v o) {q : Nat} (hq : v.ownBlock = some q) : base ≤ q ∧ q < w.heap.size := by
  obtain ⟨L, -, h2, -⟩ := h
  exact h2.lo hq
/-- The numbers of a step are fields. -/
def F6 (N : List Int) : Prop := ∀ k, k < 6 → -32768 ≤ N.getD k 0 ∧ N.getD k 0 ≤ 32767
/-- A contour begins. -/
theorem putL_new (o : List (List Pn)) (q : Pn) : putL (o ++ [[]]) q = o ++ [[q]] := putL_snoc o [] q
theorem last_new (o : List (List Pn)) : (o ++ [[]]).getD ((o ++ [[]]).length - 1) ([] : List Pn) = [] := by
  rw [List.length_append, List.length_singleton, Nat.add_sub_cancel]
  simp [List.getD]
theorem last_put (o : List (List Pn)) (q : Pn) (hne : o ≠ []) : ((putL o q).getD ((putL o q).length - 1) []).length = (o.getD (o.length - 1) []).length + 1 ∧ putL o q ≠ [] := by
  have h1 := List.length_pos_iff.2 hne
  constructor
  · rw [putL_len]
    unfold putL
    rw [List.getD_eq_getElem?_getD, List.getElem?_set_self (by omega), Option.getD_some, List.length_append, List.length_singleton]
  · intro e
    have := congrArg List.length e
    rw [putL_len] at this
    simp at this
    exact hne this

set_option maxHeartbeats 4000000 in
set_option maxRecDepth 100000 in
theorem do2_any (B : Nat) (d0 d1 d2 d3 : Value) (x y st : Int) (N : List Int) (v : Value) (out : List (List Pn)) (xa : Option Addr) (xc : Nat) (z : Int) (w : World) (hP : Bk 83 w B (pC d0 d1 d2 d3 x y st N v)) (hC : Co (B + 1) w v out) (hN : F6 N) (hx1 : -50000000 ≤ x) (hx2 : x ≤ 50000000) (hy1 : -50000000 ≤ y) (hy2 : y ≤ 50000000) (hne : out ≠ []) (hcl : (out.getD (out.length - 1) []).length ≤ 50000) :
    Calls Try.prog 38 #[.pointer (some ⟨B, 0, none⟩), .agg #[.int .i64 2, .slice xa 2 xc], .int .i64 z] w fun e w' => e = .returned (.int .i64 0) ∧ (∃ v', Bk 83 w' B (pC d0 d1 d2 d3 (x + N.getD 0 0) (y + N.getD 1 0) st N v') ∧ Co (B + 1) w' v' (putL out ⟨x + N.getD 0 0, y + N.getD 1 0, true⟩)) ∧ Below B w w' := by
  obtain ⟨W, hW, X1, hbW⟩ : ∃ W, W = w.alloc (.cells #[.int .i64 2, .slice xa 2 xc] 53) ∧ Bk 53 W w.heap.size [.int .i64 2, .slice xa 2 xc] ∧ Below w.heap.size w W := ⟨_, rfl, Bk.new _ _ _, bl1 _⟩
  obtain ⟨q0, q1, -⟩ := X1.two
  have hBw : B < w.heap.size := hP.lt
  have HCW : Hid (∀ q, v.ownBlock = some q → q < w.heap.size) := fun q hq => (hC.lo hq).2
  replace hP := hP.below hbW
  replace hC := hC.below hbW
  have hBW : Below B w W := hbW.mono (by omega)
  go_enter Try.func38, Try.ntmps38
  go_upto_region 1 with fail
  rw [← hW]
  clear hW
  obtain ⟨a9, c9, e9, h9, -⟩ := hC.slice
  have k9 := h9.lenB
  have hpos := List.length_pos_iff.2 hne
  subst e9
  have g9 : ((out.length : Int) == 0) = false := beq_eq_false_iff_ne.2 (by omega)
  have hv0 : W.cell? ⟨B, 13, none⟩ = some (.slice a9 out.length c9) := hP.cell 13 (by show 13 < 14; omega)
  clear h9
  go_wp2
  clear q0 q1 hv0 X1 hbW g9
  refine wp_loop_rounds 2 ?_
  rw [rounds_succ]
  have ha0 : W.cell? ⟨B, 7, none⟩ = some (.int .i64 (N.getD 0 0)) := hP.cell 7 (by show 7 < 14; omega)
  have hb0 : W.cell? ⟨B, 8, none⟩ = some (.int .i64 (N.getD 1 0)) := hP.cell 8 (by show 8 < 14; omega)
  have hw0 : IntKind.i64.wrap 1 = 1 := by decide
  have na0 := hN 0 (by omega)
  have nb0 := hN 1 (by omega)
  have hmv0 := fun Uq (hU : Below W.heap.size W Uq) => move_any B d0 d1 d2 d3 x y st N (.slice a9 out.length c9) out (N.getD 0 0) (N.getD 1 0) true Uq (hP.below hU) (hC.below hU) hne (by omega) (by omega) (by omega) (by omega) na0.1 na0.2 nb0.1 nb0.2 (by omega)
  go_upto_region 13 with fail
  refine wp_region_held_drew (S := fun w9 => w9.cell? ⟨B, 7, none⟩ = some (.int .i64 (N.getD 0 0)) ∧ w9.cell? ⟨B, 8, none⟩ = some (.int .i64 (N.getD 1 0))) (by kernel_rfl) ?_ (fun hHeld => ?_)
  · (try dsimp only)
    go_keep
  have hdr0 : Below W.heap.size W W.drew := Below.drew1
  have hmw0 := hmv0 _ hdr0
  replace hBW := hBW.trans (hdr0.mono (Nat.le_of_lt hP.lt))
  generalize W.drew = Z0 at hdr0 hHeld hmw0 hBW ⊢
  clear hmv0 ha0 hb0 hP hC hdr0
  refine hT 0 hHeld ?_
  refine hT 1 hHeld ?_
  refine hT 2 hHeld ?_
  refine hT 3 hHeld ?_
  refine hT 4 hHeld ?_
  refine hT 5 hHeld ?_
  refine hT 6 hHeld ?_
  refine hT 7 hHeld ?_
  refine hT 8 hHeld ?_
  refine hT 9 hHeld ?_
  refine hT 10 hHeld ?_
  refine hT 11 hHeld ?_
  refine hT 12 hHeld ?_
  refine hT 13 hHeld ?_
  refine hT 14 hHeld ?_
  refine hT 15 hHeld ?_
  refine hT 16 hHeld ?_
  refine hCall (i := 17) rfl (by kernel_rfl) (by rfl) (fun K hK => ?_)
  go_simp
  refine hmw0.mono ?_
  rintro e m1 ⟨rfl, hP, hC, hb⟩
  replace hBW := hBW.trans hb
  clear hmw0 hb
  go_wp2_with fail
  refine hK.out _ _ ?_ (fun hHeld => ?_)
  · (try dsimp only)
    exact ⟨hP.cell 7 (by show 7 < 14; omega), hP.cell 8 (by show 8 < 14; omega)⟩
  clear hK K
  try simp only [Act.put, List.setIfInBounds_toArray, List.set_cons_zero, List.set_cons_succ]
  refine wpAnyH_done (by kernel_rfl) ?_ _
  clear hHeld
  obtain ⟨hl0, hne⟩ := last_put out ⟨x + N.getD 0 0, y + N.getD 1 0, true⟩ hne
  go_wp2
  rw [rounds_succ]
  go_wp2
  go_ret
  exact ⟨rfl, ⟨_, hP, hC⟩, hBW⟩

set_option maxHeartbeats 4000000 in
set_option maxRecDepth 100000 in
theorem do3_any (B : Nat) (d0 d1 d2 d3 : Value) (x y st : Int) (N : List Int) (v : Value) (out : List (List Pn)) (xa : Option Addr) (xc : Nat) (z : Int) (w : World) (hP : Bk 83 w B (pC d0 d1 d2 d3 x y st N v)) (hC : Co (B + 1) w v out) (hN : F6 N) (hx1 : -50000000 ≤ x) (hx2 : x ≤ 50000000) (hy1 : -50000000 ≤ y) (hy2 : y ≤ 50000000) (hne : out ≠ []) (hcl : (out.getD (out.length - 1) []).length ≤ 50000) :
    Calls Try.prog 38 #[.pointer (some ⟨B, 0, none⟩), .agg #[.int .i64 3, .slice xa 6 xc], .int .i64 z] w fun e w' => e = .returned (.int .i64 0) ∧ (∃ v', Bk 83 w' B (pC d0 d1 d2 d3 (((x + N.getD 0 0) + N.getD 2 0) + N.getD 4 0) (((y + N.getD 1 0) + N.getD 3 0) + N.getD 5 0) st N v') ∧ Co (B + 1) w' v' (putL (putL (putL out ⟨x + N.getD 0 0, y + N.getD 1 0, false⟩) ⟨(x + N.getD 0 0) + N.getD 2 0, (y + N.getD 1 0) + N.getD 3 0, false⟩) ⟨((x + N.getD 0 0) + N.getD 2 0) + N.getD 4 0, ((y + N.getD 1 0) + N.getD 3 0) + N.getD 5 0, true⟩)) ∧ Below B w w' := by
  obtain ⟨W, hW, X1, hbW⟩ : ∃ W, W = w.alloc (.cells #[.int .i64 3, .slice xa 6 xc] 53) ∧ Bk 53 W w.heap.size [.int .i64 3, .slice xa 6 xc] ∧ Below w.heap.size w W := ⟨_, rfl, Bk.new _ _ _, bl1 _⟩
  obtain ⟨q0, q1, -⟩ := X1.two
  have hBw : B < w.heap.size := hP.lt
  have HCW : Hid (∀ q, v.ownBlock = some q → q < w.heap.size) := fun q hq => (hC.lo hq).2
  replace hP := hP.below hbW
  replace hC := hC.below hbW
  have hBW : Below B w W := hbW.mono (by omega)
  go_enter Try.func38, Try.ntmps38
  go_upto_region 1 with fail
  rw [← hW]
  clear hW
  obtain ⟨a9, c9, e9, h9, -⟩ := hC.slice
  have k9 := h9.lenB
  have hpos := List.length_pos_iff.2 hne
  subst e9
  have g9 : ((out.length : Int) == 0) = false := beq_eq_false_iff_ne.2 (by omega)
  have hv0 : W.cell? ⟨B, 13, none⟩ = some (.slice a9 out.length c9) := hP.cell 13 (by show 13 < 14; omega)
  clear h9
  go_wp2
  clear q0 q1 hv0 X1 hbW g9
  refine wp_loop_rounds 4 ?_
  rw [rounds_succ]
  have ha0 : W.cell? ⟨B, 7, none⟩ = some (.int .i64 (N.getD 0 0)) := hP.cell 7 (by show 7 < 14; omega)
  have hb0 : W.cell? ⟨B, 8, none⟩ = some (.int .i64 (N.getD 1 0)) := hP.cell 8 (by show 8 < 14; omega)
  have hw0 : IntKind.i64.wrap 1 = 1 := by decide
  have na0 := hN 0 (by omega)
  have nb0 := hN 1 (by omega)
  have hmv0 := fun Uq (hU : Below W.heap.size W Uq) => move_any B d0 d1 d2 d3 x y st N (.slice a9 out.length c9) out (N.getD 0 0) (N.getD 1 0) false Uq (hP.below hU) (hC.below hU) hne (by omega) (by omega) (by omega) (by omega) na0.1 na0.2 nb0.1 nb0.2 (by omega)
  go_upto_region 13 with fail
  refine wp_region_held_drew (S := fun w9 => w9.cell? ⟨B, 7, none⟩ = some (.int .i64 (N.getD 0 0)) ∧ w9.cell? ⟨B, 8, none⟩ = some (.int .i64 (N.getD 1 0))) (by kernel_rfl) ?_ (fun hHeld => ?_)
  · (try dsimp only)
    go_keep
  have hdr0 : Below W.heap.size W W.drew := Below.drew1
  have hmw0 := hmv0 _ hdr0
  replace hBW := hBW.trans (hdr0.mono (Nat.le_of_lt hP.lt))
  generalize W.drew = Z0 at hdr0 hHeld hmw0 hBW ⊢
  clear hmv0 ha0 hb0 hP hC hdr0
  refine hT 0 hHeld ?_
  refine hT 1 hHeld ?_
  refine hT 2 hHeld ?_
  refine hT 3 hHeld ?_
  refine hT 4 hHeld ?_
  refine hT 5 hHeld ?_
  refine hT 6 hHeld ?_
  refine hT 7 hHeld ?_
  refine hT 8 hHeld ?_
  refine hT 9 hHeld ?_
  refine hT 10 hHeld ?_
  refine hT 11 hHeld ?_
  refine hT 12 hHeld ?_
  refine hT 13 hHeld ?_
  refine hT 14 hHeld ?_
  refine hT 15 hHeld ?_
  refine hT 16 hHeld ?_
  refine hCall (i := 17) rfl (by kernel_rfl) (by rfl) (fun K hK => ?_)
  go_simp
  refine hmw0.mono ?_
  rintro e m1 ⟨rfl, hP, hC, hb⟩
  replace hBW := hBW.trans hb
  clear hmw0 hb
  go_wp2_with fail
  refine hK.out _ _ ?_ (fun hHeld => ?_)
  · (try dsimp only)
    exact ⟨hP.cell 7 (by show 7 < 14; omega), hP.cell 8 (by show 8 < 14; omega)⟩
  clear hK K
  try simp only [Act.put, List.setIfInBounds_toArray, List.set_cons_zero, List.set_cons_succ]
  refine wpAnyH_done (by kernel_rfl) ?_ _
  clear hHeld
  obtain ⟨hl0, hne⟩ := last_put out ⟨x + N.getD 0 0, y + N.getD 1 0, false⟩ hne
  go_wp2
  rw [rounds_succ]
  have ha1 : m1.cell? ⟨B, 9, none⟩ = some (.int .i64 (N.getD 2 0)) := hP.cell 9 (by show 9 < 14; omega)
  have hb1 : m1.cell? ⟨B, 10, none⟩ = some (.int .i64 (N.getD 3 0)) := hP.cell 10 (by show 10 < 14; omega)
  have hw1 : IntKind.i64.wrap 3 = 3 := by decide
  have na1 := hN 2 (by omega)
  have nb1 := hN 3 (by omega)
  have hmv1 := fun Uq (hU : Below m1.heap.size m1 Uq) => move_any B d0 d1 d2 d3 (x + N.getD 0 0) (y + N.getD 1 0) st N (.slice a9 out.length c9) (putL out ⟨x + N.getD 0 0, y + N.getD 1 0, false⟩) (N.getD 2 0) (N.getD 3 0) false Uq (hP.below hU) (hC.below hU) hne (by omega) (by omega) (by omega) (by omega) na1.1 na1.2 nb1.1 nb1.2 (by omega)
  go_upto_region 13 with fail
  refine wp_region_held_drew (S := fun w9 => w9.cell? ⟨B, 9, none⟩ = some (.int .i64 (N.getD 2 0)) ∧ w9.cell? ⟨B, 10, none⟩ = some (.int .i64 (N.getD 3 0))) (by kernel_rfl) ?_ (fun hHeld => ?_)
  · (try dsimp only)
    go_keep
  have hdr1 : Below m1.heap.size m1 m1.drew := Below.drew1
  have hmw1 := hmv1 _ hdr1
  replace hBW := hBW.trans (hdr1.mono (Nat.le_of_lt hP.lt))
  generalize m1.drew = Z1 at hdr1 hHeld hmw1 hBW ⊢
  clear hmv1 ha1 hb1 hP hC hdr1
  refine hT 0 hHeld ?_
  refine hT 1 hHeld ?_
  refine hT 2 hHeld ?_
  refine hT 3 hHeld ?_
  refine hT 4 hHeld ?_
  refine hT 5 hHeld ?_
  refine hT 6 hHeld ?_
  refine hT 7 hHeld ?_
  refine hT 8 hHeld ?_
  refine hT 9 hHeld ?_
  refine hT 10 hHeld ?_
  refine hT 11 hHeld ?_
  refine hT 12 hHeld ?_
  refine hT 13 hHeld ?_
  refine hT 14 hHeld ?_
  refine hT 15 hHeld ?_
  refine hT 16 hHeld ?_
  refine hCall (i := 17) rfl (by kernel_rfl) (by rfl) (fun K hK => ?_)
  go_simp
  refine hmw1.mono ?_
  rintro e m2 ⟨rfl, hP, hC, hb⟩
  replace hBW := hBW.trans hb
  clear hmw1 hb
  go_wp2_with fail
  refine hK.out _ _ ?_ (fun hHeld => ?_)
  · (try dsimp only)
    exact ⟨hP.cell 9 (by show 9 < 14; omega), hP.cell 10 (by show 10 < 14; omega)⟩
  clear hK K
  try simp only [Act.put, List.setIfInBounds_toArray, List.set_cons_zero, List.set_cons_succ]
  refine wpAnyH_done (by kernel_rfl) ?_ _
  clear hHeld
  obtain ⟨hl1, hne⟩ := last_put (putL out ⟨x + N.getD 0 0, y + N.getD 1 0, false⟩) ⟨(x + N.getD 0 0) + N.getD 2 0, (y + N.getD 1 0) + N.getD 3 0, false⟩ hne
  go_wp2
  rw [rounds_succ]
  have ha2 : m2.cell? ⟨B, 11, none⟩ = some (.int .i64 (N.getD 4 0)) := hP.cell 11 (by show 11 < 14; omega)
  have hb2 : m2.cell? ⟨B, 12, none⟩ = some (.int .i64 (N.getD 5 0)) := hP.cell 12 (by show 12 < 14; omega)
  have hw2 : IntKind.i64.wrap 5 = 5 := by decide
  have na2 := hN 4 (by omega)
  have nb2 := hN 5 (by omega)
  have hmv2 := fun Uq (hU : Below m2.heap.size m2 Uq) => move_any B d0 d1 d2 d3 ((x + N.getD 0 0) + N.getD 2 0) ((y + N.getD 1 0) + N.getD 3 0) st N (.slice a9 out.length c9) (putL (putL out ⟨x + N.getD 0 0, y + N.getD 1 0, false⟩) ⟨(x + N.getD 0 0) + N.getD 2 0, (y + N.getD 1 0) + N.getD 3 0, false⟩) (N.getD 4 0) (N.getD 5 0) true Uq (hP.below hU) (hC.below hU) hne (by omega) (by omega) (by omega) (by omega) na2.1 na2.2 nb2.1 nb2.2 (by omega)
  go_upto_region 13 with fail
  refine wp_region_held_drew (S := fun w9 => w9.cell? ⟨B, 11, none⟩ = some (.int .i64 (N.getD 4 0)) ∧ w9.cell? ⟨B, 12, none⟩ = some (.int .i64 (N.getD 5 0))) (by kernel_rfl) ?_ (fun hHeld => ?_)
  · (try dsimp only)
    go_keep
  have hdr2 : Below m2.heap.size m2 m2.drew := Below.drew1
  have hmw2 := hmv2 _ hdr2
  replace hBW := hBW.trans (hdr2.mono (Nat.le_of_lt hP.lt))
  generalize m2.drew = Z2 at hdr2 hHeld hmw2 hBW ⊢
  clear hmv2 ha2 hb2 hP hC hdr2
  refine hT 0 hHeld ?_
  refine hT 1 hHeld ?_
  refine hT 2 hHeld ?_
  refine hT 3 hHeld ?_
  refine hT 4 hHeld ?_
  refine hT 5 hHeld ?_
  refine hT 6 hHeld ?_
  refine hT 7 hHeld ?_
  refine hT 8 hHeld ?_
  refine hT 9 hHeld ?_
  refine hT 10 hHeld ?_
  refine hT 11 hHeld ?_
  refine hT 12 hHeld ?_
  refine hT 13 hHeld ?_
  refine hT 14 hHeld ?_
  refine hT 15 hHeld ?_
  refine hT 16 hHeld ?_
  refine hCall (i := 17) rfl (by kernel_rfl) (by rfl) (fun K hK => ?_)
  go_simp
  refine hmw2.mono ?_
  rintro e m3 ⟨rfl, hP, hC, hb⟩
  replace hBW := hBW.trans hb
  clear hmw2 hb
  go_wp2_with fail
  refine hK.out _ _ ?_ (fun hHeld => ?_)
  · (try dsimp only)
    exact ⟨hP.cell 11 (by show 11 < 14; omega), hP.cell 12 (by show 12 < 14; omega)⟩
  clear hK K
  try simp only [Act.put, List.setIfInBounds_toArray, List.set_cons_zero, List.set_cons_succ]
  refine wpAnyH_done (by kernel_rfl) ?_ _
  clear hHeld
  obtain ⟨hl2, hne⟩ := last_put (putL (putL out ⟨x + N.getD 0 0, y + N.getD 1 0, false⟩) ⟨(x + N.getD 0 0) + N.getD 2 0, (y + N.getD 1 0) + N.getD 3 0, false⟩) ⟨((x + N.getD 0 0) + N.getD 2 0) + N.getD 4 0, ((y + N.getD 1 0) + N.getD 3 0) + N.getD 5 0, true⟩ hne
  go_wp2
  rw [rounds_succ]
  go_wp2
  go_ret
  exact ⟨rfl, ⟨_, hP, hC⟩, hBW⟩

set_option maxHeartbeats 4000000 in
set_option maxRecDepth 100000 in
theorem do1_any (B : Nat) (d0 d1 d2 d3 : Value) (x y st : Int) (N : List Int) (v : Value) (out : List (List Pn)) (xa : Option Addr) (xc : Nat) (z : Int) (w : World) (hP : Bk 83 w B (pC d0 d1 d2 d3 x y st N v)) (hC : Co (B + 1) w v out) (hN : F6 N) (hx1 : -50000000 ≤ x) (hx2 : x ≤ 50000000) (hy1 : -50000000 ≤ y) (hy2 : y ≤ 50000000) (hol : out.length ≤ 1000) :
    Calls Try.prog 38 #[.pointer (some ⟨B, 0, none⟩), .agg #[.int .i64 1, .slice xa 2 xc], .int .i64 z] w fun e w' => e = .returned (.int .i64 0) ∧ (∃ v', Bk 83 w' B (pC d0 d1 d2 d3 (x + N.getD 0 0) (y + N.getD 1 0) st N v') ∧ Co (B + 1) w' v' (putL (out ++ [[]]) ⟨x + N.getD 0 0, y + N.getD 1 0, true⟩)) ∧ Below B w w' := by
  obtain ⟨W, hW, X1, hbW⟩ : ∃ W, W = w.alloc (.cells #[.int .i64 1, .slice xa 2 xc] 53) ∧ Bk 53 W w.heap.size [.int .i64 1, .slice xa 2 xc] ∧ Below w.heap.size w W := ⟨_, rfl, Bk.new _ _ _, bl1 _⟩
  obtain ⟨q0, q1, -⟩ := X1.two
  have hBw : B < w.heap.size := hP.lt
  have HCW : Hid (∀ q, v.ownBlock = some q → q < w.heap.size) := fun q hq => (hC.lo hq).2
  replace hP := hP.below hbW
  replace hC := hC.below hbW
  have hBW : Below B w W := hbW.mono (by omega)
  go_enter Try.func38, Try.ntmps38
  go_upto_region 1 with fail
  rw [← hW]
  clear hW
  obtain ⟨a9, c9, e9, -, -⟩ := hC.slice
  subst e9
  have hlo := fun q hq => (hC.lo (q := q) hq)
  have hv0 : W.cell? ⟨B, 13, none⟩ = some (.slice a9 out.length c9) := hP.cell 13 (by show 13 < 14; omega)
  obtain ⟨V, hV, Y9, hbv⟩ : ∃ V, V = W.alloc (.cells #[.slice none 0 0] 56) ∧ Bk 56 V W.heap.size [.slice none 0 0] ∧ Below W.heap.size W V := ⟨_, rfl, Bk.new _ _ _, bl1 _⟩
  have hws : w.heap.size < W.heap.size := X1.lt
  have hvs := hbv.size
  have y90 := Y9.cell 0 (by simp)
  have hCV := hC.below hbv
  have hPV := hP.below hbv
  have hXV := X1.below hbv
  have hBV := hBW.trans (hbv.mono (by omega))
  have hst : (Value.slice a9 out.length c9).ownBlock ≠ some w.heap.size := fun e => by
    have h1 := HCW.out w.heap.size e
    omega
  have hnb : (Value.slice a9 out.length c9).ownBlock ≠ some B := fun e => by
    have h1 := (hlo B e).1
    omega
  go_wp2_with (at_builtin; rw [← hV]; refine wpList_append_co rfl _ _ rfl (B + 1) _ out rfl hCV W.heap.size rfl Y9.lt y90 (by omega) (by omega) ?_)
  intro v9 w9 hT9 hgrow hlo9
  rw [← hV] at hgrow
  obtain ⟨va, vc, e9, -, -⟩ := hT9.slice
  subst e9
  obtain ⟨on, hon⟩ : ∃ on, out ++ [[]] = on := ⟨_, rfl⟩
  have hne : on ≠ [] := fun e => by rw [e] at hon; simp at hon
  have hcl : (on.getD (on.length - 1) []).length ≤ 50000 := by rw [← hon, last_new]; exact Nat.zero_le _
  rw [hon] at hT9 ⊢
  have HON : Hid (out ++ [[]] = on) := hon
  have hP9 := hPV.grown hgrow hnb
  have hX9 := hXV.grown hgrow hst
  have hB9 : Below B w w9 := hBV.grown hgrow (by omega) (fun q hq => by have h1 := hlo9 q hq; omega)
  have hfz := hP9.fz 13
  have hv9 : w9.cell? ⟨B, 13, none⟩ = some (.slice a9 out.length c9) := hP9.cell 13 (by show 13 < 14; omega)
  obtain ⟨U, hU, hP, hC, hXU, hBW⟩ : ∃ U, U = w9.setCell ⟨B, 13, none⟩ (.slice va on.length vc) ∧ Bk 83 U B (pC d0 d1 d2 d3 x y st N (.slice va on.length vc)) ∧ Co (B + 1) U (.slice va on.length vc) on ∧ Bk 53 U w.heap.size [.int .i64 1, .slice xa 2 xc] ∧ Below B w U := ⟨_, rfl, hP9.set 13 _, hT9.set (Nat.lt_succ_self _), hX9.other 13 _ (by omega), hB9.setCell (p := ⟨B, 13, none⟩) (Nat.le_refl _) _⟩
  clear hon hT9 hgrow hlo9 hPV hCV hXV hBV hst hnb hP9 hX9 hB9 hv0 q0 q1 hbv Y9 y90 hlo hV
  obtain ⟨q0, q1, -⟩ := hXU.two
  go_upto_region 9 with fail
  rw [← hU]
  clear hU hv9 hfz
  go_wp2
  clear q0 q1 X1 hbW hXU
  refine wp_loop_rounds 2 ?_
  rw [rounds_succ]
  have ha0 : U.cell? ⟨B, 7, none⟩ = some (.int .i64 (N.getD 0 0)) := hP.cell 7 (by show 7 < 14; omega)
  have hb0 : U.cell? ⟨B, 8, none⟩ = some (.int .i64 (N.getD 1 0)) := hP.cell 8 (by show 8 < 14; omega)
  have hw0 : IntKind.i64.wrap 1 = 1 := by decide
  have na0 := hN 0 (by omega)
  have nb0 := hN 1 (by omega)
  have hmv0 := fun Uq (hU : Below U.heap.size U Uq) => move_any B d0 d1 d2 d3 x y st N (.slice va on.length vc) on (N.getD 0 0) (N.getD 1 0) true Uq (hP.below hU) (hC.below hU) hne (by omega) (by omega) (by omega) (by omega) na0.1 na0.2 nb0.1 nb0.2 (by omega)
  go_upto_region 13 with fail
  refine wp_region_held_drew (S := fun w9 => w9.cell? ⟨B, 7, none⟩ = some (.int .i64 (N.getD 0 0)) ∧ w9.cell? ⟨B, 8, none⟩ = some (.int .i64 (N.getD 1 0))) (by kernel_rfl) ?_ (fun hHeld => ?_)
  · (try dsimp only)
    go_keep
  have hdr0 : Below U.heap.size U U.drew := Below.drew1
  have hmw0 := hmv0 _ hdr0
  replace hBW := hBW.trans (hdr0.mono (Nat.le_of_lt hP.lt))
  generalize U.drew = Z0 at hdr0 hHeld hmw0 hBW ⊢
  clear hmv0 ha0 hb0 hP hC hdr0
  refine hT 0 hHeld ?_
  refine hT 1 hHeld ?_
  refine hT 2 hHeld ?_
  refine hT 3 hHeld ?_
  refine hT 4 hHeld ?_
  refine hT 5 hHeld ?_
  refine hT 6 hHeld ?_
  refine hT 7 hHeld ?_
  refine hT 8 hHeld ?_
  refine hT 9 hHeld ?_
  refine hT 10 hHeld ?_
  refine hT 11 hHeld ?_
  refine hT 12 hHeld ?_
  refine hT 13 hHeld ?_
  refine hT 14 hHeld ?_
  refine hT 15 hHeld ?_
  refine hT 16 hHeld ?_
  refine hCall (i := 17) rfl (by kernel_rfl) (by rfl) (fun K hK => ?_)
  go_simp
  refine hmw0.mono ?_
  rintro e m1 ⟨rfl, hP, hC, hb⟩
  replace hBW := hBW.trans hb
  clear hmw0 hb
  go_wp2_with fail
  refine hK.out _ _ ?_ (fun hHeld => ?_)
  · (try dsimp only)
    exact ⟨hP.cell 7 (by show 7 < 14; omega), hP.cell 8 (by show 8 < 14; omega)⟩
  clear hK K
  try simp only [Act.put, List.setIfInBounds_toArray, List.set_cons_zero, List.set_cons_succ]
  refine wpAnyH_done (by kernel_rfl) ?_ _
  clear hHeld
  obtain ⟨hl0, hne⟩ := last_put on ⟨x + N.getD 0 0, y + N.getD 1 0, true⟩ hne
  go_wp2
  rw [rounds_succ]
  go_wp2
  go_ret
  rw [HON.out]
  exact ⟨rfl, ⟨_, hP, hC⟩, hBW⟩

set_option maxHeartbeats 1000000 in
set_option maxRecDepth 100000 in
theorem do4_deep (B : Nat) (xa : Option Addr) (xn xc : Nat) (w : World) (hB : B ≤ w.heap.size) :
    Calls Try.prog 38 #[.pointer (some ⟨B, 0, none⟩), .agg #[.int .i64 4, .slice xa xn xc], .int .i64 10] w fun e w' => e = .returned (.int .i64 6) ∧ Below B w w' := by
  obtain ⟨W, hW, X1, hbW⟩ : ∃ W, W = w.alloc (.cells #[.int .i64 4, .slice xa xn xc] 53) ∧ Bk 53 W w.heap.size [.int .i64 4, .slice xa xn xc] ∧ Below w.heap.size w W := ⟨_, rfl, Bk.new _ _ _, bl1 _⟩
  obtain ⟨q0, q1, -⟩ := X1.two
  go_enter Try.func38, Try.ntmps38
  go_upto_region 1 with fail
  rw [← hW]
  clear hW
  go_wp2
  go_ret
  exact ⟨rfl, hbW.mono hB⟩
set_option maxHeartbeats 1000000 in
set_option maxRecDepth 100000 in
theorem do4_any (B : Nat) (d0 d1 d2 d3 : Value) (x y st : Int) (N : List Int) (v : Value) (xa : Option Addr) (xn xc : Nat) (z : Int) (w : World) (hP : Bk 83 w B (pC d0 d1 d2 d3 x y st N v)) (hz : 0 ≤ z) (hz2 : z < 10) (T : Ending → World → Prop)
    (hc : ∀ U, Below w.heap.size w U → Calls Try.prog 27 #[.pointer (some ⟨B, 0, none⟩), .int .i64 (N.getD 0 0), .int .i64 (z + 1)] U (fun e w' => (∃ q, e = .returned (.int .i64 q)) ∧ T e w')) :
    Calls Try.prog 38 #[.pointer (some ⟨B, 0, none⟩), .agg #[.int .i64 4, .slice xa xn xc], .int .i64 z] w T := by
  obtain ⟨W, hW, X1, hbW⟩ : ∃ W, W = w.alloc (.cells #[.int .i64 4, .slice xa xn xc] 53) ∧ Bk 53 W w.heap.size [.int .i64 4, .slice xa xn xc] ∧ Below w.heap.size w W := ⟨_, rfl, Bk.new _ _ _, bl1 _⟩
  obtain ⟨q0, q1, -⟩ := X1.two
  have hcW := hc W hbW
  have hv : W.cell? ⟨B, 7, none⟩ = some (.int .i64 (N.getD 0 0)) := (hP.below hbW).cell 7 (by show 7 < 14; omega)
  generalize N.getD 0 0 = a at *
  have g1 : (z == 10) = false := beq_eq_false_iff_ne.2 (by omega)
  clear hc hP
  go_enter Try.func38, Try.ntmps38
  go_upto_region 1 with fail
  rw [← hW]
  clear hW
  go_wp2_with fail
  refine hcW.mono ?_
  rintro e u ⟨⟨q, rfl⟩, hT⟩
  clear hcW
  go_wp2
  exact hT
set_option maxHeartbeats 1000000 in
set_option maxRecDepth 100000 in
theorem do_none (B : Nat) (d0 d1 d2 d3 : Value) (x y st : Int) (N : List Int) (v : Value) (d : Int) (xa : Option Addr) (xn xc : Nat) (z : Int) (w : World) (hP : Bk 83 w B (pC d0 d1 d2 d3 x y st N v)) (hC : Co (B + 1) w v []) (hd : d = 2 ∨ d = 3) :
    Calls Try.prog 38 #[.pointer (some ⟨B, 0, none⟩), .agg #[.int .i64 d, .slice xa xn xc], .int .i64 z] w fun e w' => e = .returned (.int .i64 1) ∧ Below B w w' := by
  obtain ⟨W, hW, X1, hbW⟩ : ∃ W, W = w.alloc (.cells #[.int .i64 d, .slice xa xn xc] 53) ∧ Bk 53 W w.heap.size [.int .i64 d, .slice xa xn xc] ∧ Below w.heap.size w W := ⟨_, rfl, Bk.new _ _ _, bl1 _⟩
  obtain ⟨a9, c9, e9, -, -⟩ := hC.slice
  subst e9
  have hBw : B ≤ w.heap.size := Nat.le_of_lt hP.lt
  have hv : W.cell? ⟨B, 13, none⟩ = some (.slice a9 0 c9) := (hP.below hbW).cell 13 (by show 13 < 14; omega)
  clear hP hC
  rcases hd with rfl | rfl
  · obtain ⟨q0, q1, -⟩ := X1.two
    go_enter Try.func38, Try.ntmps38
    go_upto_region 1 with fail
    rw [← hW]
    clear hW
    go_wp2
    go_ret
    exact ⟨rfl, hbW.mono hBw⟩
  · obtain ⟨q0, q1, -⟩ := X1.two
    go_enter Try.func38, Try.ntmps38
    go_upto_region 1 with fail
    rw [← hW]
    clear hW
    go_wp2
    go_ret
    exact ⟨rfl, hbW.mono hBw⟩

end Go.Proofs.Ytkbbdkecillnpaa
