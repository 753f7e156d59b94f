/-
  (*foundryref18.pen).to: the walk (written by mk_dr2.py).
-/
import Derived.Test.YtkbbdkecillnpaaGreatZD33
import Derived.Test.YtkbbdkecillnpaaGreatZD23
namespace Go.Proofs.YtkbbdkecillnpaaGreat
open Go.RowKit Go.Maps
set_option linter.unusedSimpArgs false
set_option linter.unusedVariables false

/-- All that was there is as it was, but for the pen's block and the row of its contours. -/
def Kc (B : Nat) (v : Value) (w w' : World) : Prop := Keep (fun k => k < w.heap.size ∧ k ≠ B ∧ v.ownBlock ≠ some k) w w'
theorem Kc.trans {B : Nat} {v : Value} {a b c : World} (h : Kc B v a b) (k : Kc B v b c) : Kc B v a c := Keep.trans h (Keep.mono k (fun i hi => ⟨Nat.lt_of_lt_of_le hi.1 (Keep.size h), hi.2⟩))
theorem Kc.of {B : Nat} {v : Value} {w w' : World} (h : Below w.heap.size w w') : Kc B v w w' := Keep.of_below h (fun k hk => hk.1)
theorem Kc.kp {B : Nat} {v : Value} {w w' : World} (h : Kp B w w') : Kc B v w w' := Keep.mono h (fun k hk => ⟨hk.1, hk.2.1⟩)
theorem Kc.below {B : Nat} {v : Value} {w w' : World} (h : Kc B v w w') (hB : B ≤ w.heap.size) (hv : ∀ k, v.ownBlock = some k → B ≤ k) : Below B w w' := Keep.below h (fun k hk => ⟨by omega, by omega, fun e => by have := hv k e; omega⟩)
theorem Kc.bk {B g : Nat} {t : TypeId} {v : Value} {w w' : World} {cs : List Value} (h : Kc B v w w') (hb : Bk t w g cs) (hg : g ≠ B) (hv : v.ownBlock ≠ some g) : Bk t w' g cs := (Keep.block h g ⟨hb.lt, hg, hv⟩).trans hb
theorem Kc.io {B base : Nat} {v u : Value} {w w' : World} {zs : List Int} (h : Kc B v w w') (hi : Io base w u zs) (hB : B < base) (hv : ∀ g, u.ownBlock = some g → v.ownBlock ≠ some g) : Io base w' u zs := by
  obtain ⟨h1, h3⟩ := hi
  refine ⟨h1, h3.1, ?_⟩
  rcases h3.2 with h0 | ⟨g, cap', cur, k1, k2, k3, k4⟩
  · exact .inl h0
  · exact .inr ⟨g, cap', cur, k1, k2, (Keep.block h g ⟨(Array.getElem?_eq_some_iff.1 k3).1, by omega, hv g (by rw [k1]; rfl)⟩).trans k3, k4⟩
theorem Co.tyQ {base : Nat} {w : World} {v : Value} {o : List (List Pn)} (h : Co base w v o) {g : Nat} (hg : v.ownBlock = some g) : ∃ cur, w.heap[g]? = some (.cells cur 55 (0, 0)) := by
  obtain ⟨L, -, h2, -⟩ := h
  exact h2.ty hg
theorem Co.loQ {base : Nat} {w : World} {v : Value} {o : List (List Pn)} (h : Co base w v o) {g : Nat} (hg : v.ownBlock = some g) : base ≤ g ∧ g < w.heap.size := by
  obtain ⟨L, -, h2, -⟩ := h
  exact h2.lo hg
/-- A row of ints and the row of contours are two blocks. -/
theorem Co.neI {base b2 : Nat} {w : World} {v u : Value} {o : List (List Pn)} {zs : List Int} (h : Co base w v o) (hi : Io b2 w u zs) : ∀ g, u.ownBlock = some g → v.ownBlock ≠ some g := by
  intro g hg e
  obtain ⟨cur, h1⟩ := h.tyQ e
  rcases hi.2.2 with ⟨e0, _⟩ | ⟨g', cap, cu, e1, hb, hh, _⟩
  · rw [e0] at hg; cases hg
  · rw [e1] at hg
    have e2 : g' = g := by
      have e3 : some g' = some g := hg
      injection e3
    rw [e2, h1] at hh
    injection hh with hh
    injection hh with _ hh
    exact absurd hh (by decide)

set_option maxHeartbeats 4000000 in
set_option maxRecDepth 100000 in
theorem sto_any (B : Nat) (d0 d1 d2 d3 : Value) (x y st : Int) (v : Value) (er : Int) (out : List (List Pn)) (dx dy : Int) (on : Bool) (w : World) (hP : Bk 66 w B (rC d0 d1 d2 d3 x y st v er)) (hC : Co (B + 1) w v out) (hne : out ≠ []) (hx1 : -100000000 ≤ x) (hx2 : x ≤ 100000000) (hy1 : -100000000 ≤ y) (hy2 : y ≤ 100000000) (hdx1 : -32768 ≤ dx) (hdx2 : dx ≤ 32767) (hdy1 : -32768 ≤ dy) (hdy2 : dy ≤ 32767) (hcl : (out.getD (out.length - 1) []).length ≤ 100000) :
    Calls Tryz.prog 59 #[.pointer (some ⟨B, 0, none⟩), .int .i64 dx, .int .i64 dy, .bool on] w fun e w' => e = .returned (.tuple #[]) ∧ Bk 66 w' B (rC d0 d1 d2 d3 (x + dx) (y + dy) st v er) ∧ Co (B + 1) w' v (putL out ⟨x + dx, y + dy, on⟩) ∧ Kc B v w w' := by
  have ix1 : -200000000 ≤ x + dx := by omega
  have ix2 : x + dx ≤ 200000000 := by omega
  have iy1 : -200000000 ≤ y + dy := by omega
  have iy2 : y + dy ≤ 200000000 := by omega
  have hx0 : w.cell? ⟨B, 4, none⟩ = some (.int .i64 x) := hP.cell 4 (by show 4 < 9; omega)
  have hy0 : w.cell? ⟨B, 5, none⟩ = some (.int .i64 y) := hP.cell 5 (by show 5 < 9; omega)
  have hf4 := hP.fz 4
  have hf5 := hP.fz 5
  obtain ⟨W, hW, hPW, hCW, hbW⟩ : ∃ W, W = (w.setCell ⟨B, 4, none⟩ (.int .i64 (x + dx))).setCell ⟨B, 5, none⟩ (.int .i64 (y + dy)) ∧ Bk 66 W B (rC d0 d1 d2 d3 (x + dx) (y + dy) st v er) ∧ Co (B + 1) W v out ∧ Kp B w W :=
    ⟨_, rfl, (hP.set 4 _).set 5 _, (hC.set (Nat.lt_succ_self _)).set (Nat.lt_succ_self _), ((Kp.refl B w).setCell 4 _).setCell 5 _⟩
  go_enter Tryz.func59, Tryz.ntmps59
  go_upto_region 2 with fail
  rw [← hW]
  clear hW hx0 hy0 hf4 hf5 hP hC
  obtain ⟨X, hX⟩ : ∃ X, x + dx = X := ⟨_, rfl⟩
  obtain ⟨Y, hY⟩ : ∃ Y, y + dy = Y := ⟨_, rfl⟩
  have HXE : Hid (x + dx = X) := hX
  have HYE : Hid (y + dy = Y) := hY
  rw [hX, hY] at hPW
  rw [hX] at ix1 ix2 ⊢
  rw [hY] at iy1 iy2 ⊢
  clear hX hY
  obtain ⟨m, hm⟩ : ∃ m, out.length = m := ⟨_, rfl⟩
  have hpos : 0 < out.length := List.length_pos_iff.2 hne
  obtain ⟨n, hn⟩ : ∃ n, m = n + 1 := ⟨m - 1, by omega⟩
  obtain ⟨c, hcc⟩ : ∃ c, out.getD n [] = c := ⟨_, rfl⟩
  have hmm : (m : Int) ≤ 9223372036854775807 := by
    obtain ⟨a9, c9, e9, h9, _⟩ := hCW.slice
    have := h9.lenB
    omega
  have HPE : Hid (putL out ⟨X, Y, on⟩ = out.set n (c ++ [⟨X, Y, on⟩])) := putL_at hm hn hcc _
  rw [show out.length - 1 = n by omega, hcc] at hcl
  obtain ⟨g, cap, la, lc, rfl, hbg, hlt, hc0, hlast, ⟨cur, hcur⟩, hput⟩ := hCW.lastN hm hn hcc
  have HPUT : Hid (_) := hput
  have hv0 : W.cell? ⟨B, 7, none⟩ = some (.slice (some ⟨g, 0, none⟩) m cap) := hPW.cell 7 (by show 7 < 9; omega)
  obtain ⟨sa, sc, esl, hgrl, -⟩ := hlast.slice
  injection esl with es1 es2 es3
  subst es1 es3
  clear es2
  have HPW : Hid (Bk 66 W B (rC d0 d1 d2 d3 X Y st (.slice (some ⟨g, 0, none⟩) m cap) er)) := hPW
  have HCUR : Hid (W.heap[g]? = some (.cells cur 55 (0, 0))) := hcur
  have HKW : Hid (Kc B (.slice (some ⟨g, 0, none⟩) m cap) w W) := Kc.kp hbW
  have HCE : Hid (W.cell? ⟨g, n, none⟩ = some (.slice la c.length lc)) := hc0
  have i1 : (0 : Int) ≤ (m : Int) - 1 := by omega
  have i5 : (1 : Int) ≤ (m : Int) := by omega
  have i2 : (m : Int) - 1 < (m : Int) := by omega
  have i3 : ((m : Int) - 1).toNat = n := by omega
  have i4 : IntKind.i64.wrap ((m : Int) - 1) = (m : Int) - 1 := wrapi64 (by omega) (by omega)
  have hgB : g ≠ B := by omega
  have hBl : B < W.heap.size := hPW.lt
  have hsrc : Gr PnE (fun k => False ∧ (Value.slice none 0 0).ownBlock ≠ some k) W la lc c := hgrl.wide (fun k h _ => h.elim)
  clear hm hcc hput hlast hCW hne hn hpos hPW hcur hbW hgrl
  go_wp2_with (at_builtin; refine wpList_append_el (E := PnE) 55 54 Tryz.underlying55 info_pnQ rfl (by decide) (by decide) rfl _ _ rfl W.heap.size (fun _ => False) _ [] rfl (Gw.nil _ _ _ _ _) la lc c.length c rfl rfl hsrc (by simp; omega) (Nat.le_refl _) ?_)
  intro v1 w1 hT1 hgrow1 _
  try rw [List.nil_append] at hT1
  have hb1 : Below W.heap.size W w1 := (Below.refl _ _).grown hgrow1 (Nat.le_refl _) (fun q hq => by cases hq)
  obtain ⟨a1, c1, e1, -, hlo1⟩ := hT1.slice
  subst e1
  have hs1 := hb1.size
  have hP1 := HPW.out.below hb1
  have hv1 : w1.cell? ⟨B, 7, none⟩ = some (.slice (some ⟨g, 0, none⟩) m cap) := hP1.cell 7 (by show 7 < 9; omega)
  have hx1' : w1.cell? ⟨B, 4, none⟩ = some (.int .i64 X) := hP1.cell 4 (by show 4 < 9; omega)
  have hy1' : w1.cell? ⟨B, 5, none⟩ = some (.int .i64 Y) := hP1.cell 5 (by show 5 < 9; omega)
  clear hgrow1 hv0 hc0 hsrc
  go_upto_region 5 with fail
  refine wp_region_held_drew (S := fun w9 => (w9.cell? ⟨B, 4, none⟩ = some (.int .i64 X) ∧ w9.cell? ⟨B, 5, none⟩ = some (.int .i64 Y)) ∧ w9.cell? ⟨B, 7, none⟩ = some (.slice (some ⟨g, 0, none⟩) m cap)) (by kernel_rfl) ?_ (fun hHeld => ?_)
  · (try dsimp only)
    go_keep
  have hdr : Below w1.heap.size w1 w1.drew := Below.drew1
  generalize w1.drew = Z at hdr hHeld ⊢
  have hWZ := hb1.trans (hdr.mono hs1)
  have hzz := hWZ.size
  replace hT1 := hT1.below hdr
  obtain ⟨V, hV, Y9, hbv⟩ : ∃ V, V = Z.alloc (.cells #[.int .i64 X, .int .i64 Y, .bool on] 54) ∧ Bk 54 V Z.heap.size [.int .i64 X, .int .i64 Y, .bool on] ∧ Below Z.heap.size Z V := ⟨_, rfl, Bk.new _ _ _, bl1 _⟩
  have hWV := hWZ.trans (hbv.mono hWZ.size)
  have hvv := hbv.size
  have HLV : Hid (Gw PnE 54 W.heap.size (fun _ => False) V (.slice a1 c.length c1) c) := hT1.below hbv
  have hPV := HPW.out.below hWV
  have HONE : Hid (Gr PnE (fun k => False ∧ (Value.slice a1 c.length c1).ownBlock ≠ some k) V (some ⟨Z.heap.size, 0, none⟩) 1 [⟨X, Y, on⟩]) := Gr.one (E := PnE) (vs := pnC ⟨X, Y, on⟩) (PnE_rep.2 ⟨rfl, ⟨by dsimp only; omega, by dsimp only; omega⟩, ⟨by dsimp only; omega, by dsimp only; omega⟩⟩) Y9.lt (fun j hj => Y9.cell j hj)
  clear hdr hb1 hT1 hP1 hv1 hx1' hy1' hbv Y9
  refine hT 0 hHeld ?_
  refine hT 1 hHeld ?_
  refine hT 2 hHeld ?_
  refine hT 3 hHeld ?_
  refine hT 4 hHeld ?_
  refine hT 5 hHeld ?_
  refine hT 6 hHeld ?_
  refine hT 7 hHeld ?_
  refine hT 8 hHeld ?_
  refine hT 9 hHeld ?_
  refine hT 10 hHeld ?_
  refine hT 11 hHeld ?_
  refine hT 12 hHeld ?_
  refine hT 13 hHeld ?_
  refine hT 14 hHeld ?_
  refine hT 15 hHeld ?_
  refine hCall (i := 16) rfl (by kernel_rfl) (by rfl) (fun K hK => ?_)
  go_simp
  rw [← hV]
  clear hV
  refine hK.out _ _ ?_ (fun hHeld => ?_)
  · (try dsimp only)
    exact ⟨⟨hPV.cell 4 (by show 4 < 9; omega), hPV.cell 5 (by show 5 < 9; omega)⟩, hPV.cell 7 (by show 7 < 9; omega)⟩
  clear hK K
  try simp only [Act.put, List.setIfInBounds_toArray, List.set_cons_zero, List.set_cons_succ]
  refine hCall (i := 17) rfl (by kernel_rfl) (by rfl) (fun K hK => ?_)
  refine wp_append_el (E := PnE) 55 54 Tryz.underlying55 info_pnQ rfl (by decide) (by decide) _ _ rfl W.heap.size (fun _ => False) _ c rfl HLV.out ⟨Z.heap.size, 0, none⟩ 1 1 [⟨X, Y, on⟩] rfl rfl HONE.out (by simp; omega) (by omega) ?_
  intro v9 w9 hT9 hgrow hwh
  have hs9 := hgrow.size
  have hWs := hWV.size
  have hg9 : ∀ k, k < W.heap.size → w9.heap[k]? = W.heap[k]? := fun k h1 => (hgrow.block k (by omega) (fun e => by have := (HLV.out.lo e.symm).1; omega)).trans (hWV.block k h1)
  have hP9 : Bk 66 w9 B (rC d0 d1 d2 d3 X Y st (.slice (some ⟨g, 0, none⟩) m cap) er) := (hg9 B hBl).trans HPW.out
  have hcur9 : w9.heap[g]? = some (.cells cur 55 (0, 0)) := (hg9 g hlt).trans HCUR.out
  have f9 := frozen_of_row w9 g n _ _ hcur9
  have hc9 : ∃ z, w9.cell? ⟨g, n, none⟩ = some z := by
    have h1 := HCE.out
    exact ⟨_, (World.cell?_of_block (w := W) (a := ⟨g, n, none⟩) (hg9 g hlt)).trans h1⟩
  obtain ⟨zc, hzc⟩ := hc9
  refine hK.out _ _ ?_ (fun hHeld => ?_)
  · (try dsimp only)
    exact ⟨⟨hP9.cell 4 (by show 4 < 9; omega), hP9.cell 5 (by show 5 < 9; omega)⟩, hP9.cell 7 (by show 7 < 9; omega)⟩
  clear hK K
  try simp only [Act.put, List.setIfInBounds_toArray, List.set_cons_zero, List.set_cons_succ]
  refine hT 18 hHeld ?_
  obtain ⟨va, vc, e9, -, hlo9⟩ := hT9.slice
  have HCO : Hid (Co (B + 1) (w9.setCell ⟨g, n, none⟩ v9) (.slice (some ⟨g, 0, none⟩) m cap) (out.set n (c ++ [⟨X, Y, on⟩]))) := HPUT.out v9 w9 _ (by omega) (fun k h1 h2 h3 => hg9 k h2) (hT9.low (by omega)) (by
    refine .inr (fun k hk => ?_)
    exact (hT9.lo hk).1) (by rw [List.length_append, List.length_singleton]; omega)
  have HP9 : Hid (Bk 66 (w9.setCell ⟨g, n, none⟩ v9) B (rC d0 d1 d2 d3 X Y st (.slice (some ⟨g, 0, none⟩) m cap) er)) := hP9.other n v9 (by omega)
  have HK9 : Hid (Kc B (.slice (some ⟨g, 0, none⟩) m cap) w (w9.setCell ⟨g, n, none⟩ v9)) := by
    have h1 : Below W.heap.size W w9 := hWV.grown hgrow hWs (fun q hq => (HLV.out.lo hq).1)
    have h2 : Kc B (.slice (some ⟨g, 0, none⟩) m cap) w w9 := HKW.out.trans (Kc.of h1)
    exact Keep.setCell h2 (p := ⟨g, n, none⟩) (fun e => e.2.2 rfl) _
  rw [e9] at HCO HP9 HK9 ⊢
  generalize (c ++ [(⟨X, Y, on⟩ : Pn)]).length = cn at *
  clear hT9 hgrow hwh e9 hg9 hP9 hcur9 hlo9
  refine hCall (i := 19) rfl (by kernel_rfl) (by rfl) (fun K hK => ?_)
  go_simp
  refine hK.out _ _ ?_ (fun hHeld => ?_)
  · (try dsimp only)
    exact ⟨⟨HP9.out.cell 4 (by show 4 < 9; omega), HP9.out.cell 5 (by show 5 < 9; omega)⟩, HP9.out.cell 7 (by show 7 < 9; omega)⟩
  clear hK K
  try simp only [Act.put, List.setIfInBounds_toArray, List.set_cons_zero, List.set_cons_succ]
  refine wpAnyH_done (by kernel_rfl) ?_ _
  clear hHeld f9 hzc
  go_wp2
  (try simp only [Exit.inBlock, Exit.then])
  refine bodyPost_end (results_none rfl _ _ _) rfl ?_
  rw [HXE.out, HYE.out]
  exact ⟨rfl, HP9.out, by rw [HPE.out]; exact HCO.out, HK9.out⟩

end Go.Proofs.YtkbbdkecillnpaaGreat
