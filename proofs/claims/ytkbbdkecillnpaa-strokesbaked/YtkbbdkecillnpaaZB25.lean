/-
  (*strokes.pen).draw: the walk.
  strokes.At: the walk.
-/
import Derived.Test.YtkbbdkecillnpaaZB24
namespace Go.Proofs.Ytkbbdkecillnpaa
open Go.RowKit Go.Maps
set_option linter.unusedSimpArgs false
set_option linter.unusedVariables false

theorem Bk.setN {w : World} {B : Nat} {d0 d1 d2 d3 : Value} {x y st : Int} {N : List Int} {v : Value} (h : Bk 83 w B (pC d0 d1 d2 d3 x y st N v)) (M : List Int) : Bk 83 ((((((w.setCell ⟨B, 7, none⟩ (.int .i64 (M.getD 0 0))).setCell ⟨B, 8, none⟩ (.int .i64 (M.getD 1 0))).setCell ⟨B, 9, none⟩ (.int .i64 (M.getD 2 0))).setCell ⟨B, 10, none⟩ (.int .i64 (M.getD 3 0))).setCell ⟨B, 11, none⟩ (.int .i64 (M.getD 4 0))).setCell ⟨B, 12, none⟩ (.int .i64 (M.getD 5 0))) B (pC d0 d1 d2 d3 x y st M v) := (((((h.set 7 _).set 8 _).set 9 _).set 10 _).set 11 _).set 12 _
theorem below_setN {B g : Nat} {a w : World} (h : Below B a w) (hb : B ≤ g) (x' y' z' u' v' r' : Value) : Below B a ((((((w.setCell ⟨g, 7, none⟩ x').setCell ⟨g, 8, none⟩ y').setCell ⟨g, 9, none⟩ z').setCell ⟨g, 10, none⟩ u').setCell ⟨g, 11, none⟩ v').setCell ⟨g, 12, none⟩ r') :=
  (((((h.setCell (p := ⟨g, 7, none⟩) hb x').setCell (p := ⟨g, 8, none⟩) hb y').setCell (p := ⟨g, 9, none⟩) hb z').setCell (p := ⟨g, 10, none⟩) hb u').setCell (p := ⟨g, 11, none⟩) hb v').setCell (p := ⟨g, 12, none⟩) hb r'
/-- What holds round by round. -/
structure DrI (c : Cx) (B n : Nat) (w : World) (d : List Sp) (p : Pe) (wr : World) (j : Nat) (q : Pe) (N : List Int) (v : Value) : Prop where
  ok : OkP q
  bk : PenB c B wr q N v
  co : Co (B + 1) wr v q.out
  be : Below B w wr
  eq : drN (RS c.s c.cs) c.l n d p = drA (drS (RS c.s c.cs) c.l n (sbN (RS c.s c.cs) c.l n)) (d.drop j) q

set_option maxHeartbeats 8000000 in
set_option maxRecDepth 100000 in
theorem draw_step (S : Nat → Prop) (a : Option Addr) (ca : Nat) (l : List (List Sp)) (ga : Option Addr) (gc : Nat) (ma : Option Addr) (mc : Nat) (s : Sr) (pa : Option Addr) (pc : Nat) (cs : List Int) (w0 : World) (hl : Gr SpE.row S w0 a ca l) (hg : Tzz w0 ga gc s.rg) (hm : Rii w0 ma mc s.rw) (hp : Ri w0 pa pc cs) (h40 : s.rg.length ≤ 40) (h8 : ∀ l ∈ s.rg, l.length ≤ 8) (hfo : foD (fiS s) l = true) (n : Nat) (hn : n ≤ 10) (hsub : n ≠ 0 → DrawC ⟨a, ca, l, ga, gc, ma, mc, s, pa, pc, cs⟩ w0.heap.size w0 (n - 1)) : DrawC ⟨a, ca, l, ga, gc, ma, mc, s, pa, pc, cs⟩ w0.heap.size w0 n := by
  intro k p N v w hk hok hP hC hB
  dsimp only at hk
  have kl := hl.lenB
  obtain ⟨b1, off, a1, c1, ea, hb1, hc0, hd⟩ := hl.rwAt k hk
  have HDF : Hid (drF (fiS s) l.length (l.getD k []) = true) := (foD_iff.1 hfo).2 k hk
  obtain ⟨d, hdd⟩ : ∃ d, l.getD k [] = d := ⟨_, rfl⟩
  have HEQ : Hid ((⟨a, ca, l, ga, gc, ma, mc, s, pa, pc, cs⟩ : Cx).l.getD k [] = d) := hdd
  rw [hdd] at hc0 hd HDF
  have hdl := hd.lenB
  have c0 := hc0 w hB
  have HD : Hid (Gr SpE S w0 a1 c1 d) := hd
  have HG : Hid (Tzz w0 ga gc s.rg) := hg
  have HM : Hid (Rii w0 ma mc s.rw) := hm
  have HP : Hid (Ri w0 pa pc cs) := hp
  have HS : Hid (n ≠ 0 → DrawC ⟨a, ca, l, ga, gc, ma, mc, s, pa, pc, cs⟩ w0.heap.size w0 (n - 1)) := hsub
  obtain ⟨B, hBe⟩ : ∃ B, w0.heap.size = B := ⟨_, rfl⟩
  have HBE : Hid (w0.heap.size = B) := hBe
  rw [hBe] at hP hC hB HS
  have HI0 : DrI ⟨a, ca, l, ga, gc, ma, mc, s, pa, pc, cs⟩ B n w d p w 0 p N v := ⟨hok, hP, hC, Below.refl _ _, by rw [List.drop_zero]; exact drN_sb _ _ _ _ _⟩
  have HB : Hid (Below B w0 w) := hB
  have p0 : w.cell? ⟨B, 0, none⟩ = some (.slice a l.length ca) := Bk.cell hP 0 (by show 0 < 14; omega)
  have HBW : Hid (B < w.heap.size) := Bk.lt hP
  have i1 : (0 : Int) ≤ (k : Int) := by omega
  have i2 : (k : Int) < (l.length : Int) := by omega
  rw [HEQ.out, hBe]
  obtain ⟨z, hz⟩ : ∃ z, (10 : Int) - (n : Int) = z := ⟨_, rfl⟩
  have HZ : Hid ((10 : Int) - (n : Int) = z) := hz
  rw [hz]
  have hz1 : 0 ≤ z := by omega
  have hz2 : z ≤ 10 := by omega
  subst ea
  clear hc0 hd hdd hg hm hp hsub hP hC hB hok hBe hz hl
  go_enter Try.func27, Try.ntmps27
  go_wp2
  clear p0 c0 i1 i2
  go_loopw [20] (fun i wr => ∃ (j : Nat) (q : Pe) (N : List Int) (v : Value), j ≤ d.length ∧ i = .int .i64 j ∧ DrI ⟨some ⟨b1, off, none⟩, ca, l, ga, gc, ma, mc, s, pa, pc, cs⟩ B n w d p wr j q N v) (fun i _ => d.length - (intOf i).toNat)
  case atStart => exact ⟨0, p, N, v, Nat.zero_le _, rfl, HI0⟩
  case round =>
    clear HI0
    obtain ⟨j, q, N, v, hj, rfl, hI⟩ := hrel
    by_cases hjn : j < d.length
    rotate_left
    · have g4 : ¬ (j : Int) < (d.length : Int) := by omega
      have HF : Hid (drN (RS s cs) l n d p = q) := by
        have := hI.eq
        rw [drA_end _ (by omega)] at this
        exact this
      have he := hI.ok.er
      have HI2 : Hid (_) := hI
      clear hI
      go_wp2
      go_ret
      show DrP _ _ (drN (RS s cs) l n d p) _ _ _
      rw [HF.out]
      exact ⟨by rw [HI2.out.ok.er]; rfl, fun _ => ⟨HI2.out.ok, N, v, HI2.out.bk, HI2.out.co⟩, HI2.out.be⟩
    have HEQ2 : Hid (drN (RS s cs) l n d p = drA (drS (RS s cs) l n (sbN (RS s cs) l n)) (d.drop (j + 1)) (drS (RS s cs) l n (sbN (RS s cs) l n) (d.getD j Sp.none) q)) := by
      have := hI.eq
      rw [drA_at _ hjn hI.ok.er] at this
      exact this
    have hSPF : spF (fiS s) l.length (d.getD j Sp.none) = true := (drF_iff.1 HDF.out).2 j hjn
    have hBr : Below B w0 wr := HB.out.trans hI.be
    have hBr0 : Below w0.heap.size w0 wr := by rw [HBE.out]; exact hBr
    obtain ⟨b2, of2, a2, c2, ea2, hb2, hI64, e0, e1, hsl, -⟩ := HD.out.sp (Below.refl _ _) j hjn
    have d0 := (hBr0.cell (p := ⟨b2, of2 + j * 2, none⟩) hb2).trans e0
    have d1 := (hBr0.cell (p := ⟨b2, of2 + j * 2 + 1, none⟩) hb2).trans e1
    obtain ⟨x, hx⟩ : ∃ x, d.getD j Sp.none = x := ⟨_, rfl⟩
    rw [hx] at HEQ2 hSPF hI64 d0 d1 hsl
    have h6 : x.ar.length ≤ 6 := by have h1 := (spF_iff.1 hSPF).1; have h2 := arD_in x.d; omega
    have HSP : Hid (spF (fiS s) l.length x = true) := hSPF
    have HSL : Hid (Gr SlE S w0 a2 c2 x.ar) := hsl
    subst ea2
    clear hx e0 e1 hSPF hsl
    have i3 : (0 : Int) ≤ (j : Int) := by omega
    have i4 : (j : Int) < (d.length : Int) := by omega
    obtain ⟨U, hU, XG, hbU⟩ : ∃ U, U = wr.alloc (.cells #[.int .i64 x.d, .slice a2 x.ar.length c2] 53) ∧ Bk 53 U wr.heap.size [.int .i64 x.d, .slice a2 x.ar.length c2] ∧ Below wr.heap.size wr U := ⟨_, rfl, Bk.new _ _ _, bl1 _⟩
    have hBl : B < wr.heap.size := Bk.lt hI.bk
    have hPU := Bk.below hI.bk hbU
    have hCU := hI.co.below hbU
    have hBU : Below B w U := hI.be.trans (hbU.mono (Nat.le_of_lt hBl))
    have HOK : Hid (OkP q) := hI.ok
    have hst := hI.ok.st
    have s0 : U.cell? ⟨B, 6, none⟩ = some (.int .i64 (q.st : Int)) := hPU.cell 6 (by show 6 < 14; omega)
    have f6 := hPU.fz 6
    go_upto_region 4 with fail
    rw [← hU]
    clear hU d0 d1 hI hbU
    by_cases h400 : 400 ≤ q.st
    · have g4 : ((q.st : Int) == 400) = true := beq_iff_eq.2 (by omega)
      have g5 : (q.st : Int) = 400 := by omega
      have HF : Hid (drN (RS s cs) l n d p = { q with er := 3 }) := by
        show _ = _
        rw [HEQ2.out, drS_long h400, drA_stop _ _ (by show ¬ (3 : Int) = 0; decide)]
      have HPU : Hid (Below B w U) := hBU
      rw [g5] at s0
      clear g4 g5 HEQ2 hPU hCU hBU
      go_wp2
      go_ret
      show DrP _ _ (drN (RS s cs) l n d p) _ _ _
      rw [HF.out]
      exact ⟨rfl, fun h => absurd h (by show ¬ (3 : Int) = 0; decide), HPU.out⟩
    have g4 : ((q.st : Int) == 400) = false := beq_eq_false_iff_ne.2 (by omega)
    have g5 : IntKind.i64.wrap ((q.st : Int) + 1) = (q.st : Int) + 1 := wrapi64 (by omega) (by omega)
    obtain ⟨U2, hU2, hP2, hC2, XG2, hB2⟩ : ∃ U2, U2 = U.setCell ⟨B, 6, none⟩ (.int .i64 ((q.st : Int) + 1)) ∧ Bk 83 U2 B (pC (.slice (some ⟨b1, off, none⟩) l.length ca) (.slice ga s.rg.length gc) (.slice ma s.rw.length mc) (.slice pa cs.length pc) q.x q.y ((q.st : Int) + 1) N v) ∧ Co (B + 1) U2 v q.out ∧ Bk 53 U2 wr.heap.size [.int .i64 x.d, .slice a2 x.ar.length c2] ∧ Below B w U2 :=
      ⟨_, rfl, hPU.set 6 _, hCU.set (Nat.lt_succ_self _), XG.other 6 _ (by omega), hBU.setCell (p := ⟨B, 6, none⟩) (Nat.le_refl _) _⟩
    go_upto_region 7 with fail
    rw [← hU2]
    clear hU2 s0 f6 hPU hCU XG hBU g4 g5
    obtain ⟨y0, y1, -⟩ := XG2.two
    have m1 : U2.cell? ⟨B, 1, none⟩ = some (.slice ga s.rg.length gc) := hP2.cell 1 (by show 1 < 14; omega)
    have m2 : U2.cell? ⟨B, 2, none⟩ = some (.slice ma s.rw.length mc) := hP2.cell 2 (by show 2 < 14; omega)
    have m3 : U2.cell? ⟨B, 3, none⟩ = some (.slice pa cs.length pc) := hP2.cell 3 (by show 3 < 14; omega)
    have hro := fun V (hV : Below B w V) => rounded_any S a2 c2 x.ar ga gc ma mc s pa pc cs V (HSL.out.below (by rw [HBE.out]; exact HB.out.trans hV)) (HG.out.below (by rw [HBE.out]; exact HB.out.trans hV)) (HM.out.below (by rw [HBE.out]; exact HB.out.trans hV)) (HP.out.below (by rw [HBE.out]; exact HB.out.trans hV)) h40 h8 h6
    obtain ⟨M, hM⟩ : ∃ M, ru6 (RS s cs) x.ar = M := ⟨_, rfl⟩
    obtain ⟨E, hE⟩ : ∃ E, nuE (RS s cs) x.ar = E := ⟨_, rfl⟩
    rw [hM, hE] at hro
    unfold c6 at hro
    obtain ⟨n0, hn0⟩ : ∃ z, M.getD 0 0 = z := ⟨_, rfl⟩
    obtain ⟨n1, hn1⟩ : ∃ z, M.getD 1 0 = z := ⟨_, rfl⟩
    obtain ⟨n2, hn2⟩ : ∃ z, M.getD 2 0 = z := ⟨_, rfl⟩
    obtain ⟨n3, hn3⟩ : ∃ z, M.getD 3 0 = z := ⟨_, rfl⟩
    obtain ⟨n4, hn4⟩ : ∃ z, M.getD 4 0 = z := ⟨_, rfl⟩
    obtain ⟨n5, hn5⟩ : ∃ z, M.getD 5 0 = z := ⟨_, rfl⟩
    rw [hn0, hn1, hn2, hn3, hn4, hn5] at hro
    have HNN : Hid (M.getD 0 0 = n0 ∧ M.getD 1 0 = n1 ∧ M.getD 2 0 = n2 ∧ M.getD 3 0 = n3 ∧ M.getD 4 0 = n4 ∧ M.getD 5 0 = n5) := ⟨hn0, hn1, hn2, hn3, hn4, hn5⟩
    clear hn0 hn1 hn2 hn3 hn4 hn5
    have HMM : Hid (ru6 (RS s cs) x.ar = M) := hM
    have HEE : Hid (nuE (RS s cs) x.ar = E) := hE
    have hg8 : wr.heap.size < U2.heap.size := XG2.lt
    clear hM hE
    refine wp_region_held_drew (S := fun w9 => w9.cell? ⟨wr.heap.size, 1, none⟩ = some (.slice a2 x.ar.length c2) ∧ w9.cell? ⟨B, 1, none⟩ = some (.slice ga s.rg.length gc) ∧ w9.cell? ⟨B, 2, none⟩ = some (.slice ma s.rw.length mc) ∧ w9.cell? ⟨B, 3, none⟩ = some (.slice pa cs.length pc)) (by kernel_rfl) ?_ (fun hHeld => ?_)
    · (try dsimp only)
      go_keep
    have hdr : Below U2.heap.size U2 U2.drew := Below.drew1
    have hBZ := hB2.trans (hdr.mono (by omega))
    generalize U2.drew = Z at hdr hHeld hBZ ⊢
    have HC0 : Hid (∀ V, Below U2.heap.size U2 V → V.cell? ⟨wr.heap.size, 1, none⟩ = some (.slice a2 x.ar.length c2) ∧ V.cell? ⟨B, 1, none⟩ = some (.slice ga s.rg.length gc) ∧ V.cell? ⟨B, 2, none⟩ = some (.slice ma s.rw.length mc) ∧ V.cell? ⟨B, 3, none⟩ = some (.slice pa cs.length pc)) := fun V hV => ⟨(hV.cell (p := ⟨wr.heap.size, 1, none⟩) hg8).trans y1, (hV.cell (p := ⟨B, 1, none⟩) (by show B < _; omega)).trans m1, (hV.cell (p := ⟨B, 2, none⟩) (by show B < _; omega)).trans m2, (hV.cell (p := ⟨B, 3, none⟩) (by show B < _; omega)).trans m3⟩
    clear y0 y1 m1 m2 m3
    refine hT 0 hHeld ?_
    refine hT 1 hHeld ?_
    refine hT 2 hHeld ?_
    refine hT 3 hHeld ?_
    refine hT 4 hHeld ?_
    refine hT 5 hHeld ?_
    refine hT 6 hHeld ?_
    refine hT 7 hHeld ?_
    refine hT 8 hHeld ?_
    refine hT 9 hHeld ?_
    refine wpAnyH_ready (rs := [10, 14]) (by kernel_rfl) (by simp) (hCons (i := 10) rfl (by rfl) (fun K hK => ?_) (hCons (i := 14) rfl (by rfl) (fun K hK => ?_) AllReadyH.nil))
    · go_simp
      refine (hro _ hBZ).mono ?_
      rintro e u1 ⟨rfl, hb⟩
      have hBu1 := hBZ.trans (hb.mono (by have := hdr.size; omega))
      replace hdr := hdr.trans (hb.mono hdr.size)
      clear hb
      go_wp2_with fail
      refine hK.out _ _ ?_ (fun hHeld => ?_)
      · (try dsimp only)
        exact HC0.out _ hdr
      clear hK K
      try simp only [Act.put, List.setIfInBounds_toArray, List.set_cons_zero, List.set_cons_succ]
      refine hT 11 hHeld ?_
      refine hT 12 hHeld ?_
      refine hT 13 hHeld ?_
      have hgl : U2.heap.size ≤ u1.heap.size := hdr.size
      refine hCall (i := 14) rfl (by kernel_rfl) (by rfl) (fun K hK => ?_)
      go_simp
      obtain ⟨V1, hV9, Y9, hbv⟩ : ∃ V, V = u1.alloc (.cells #[.int .i64 0, .int .i64 0, .int .i64 0, .int .i64 0, .int .i64 0, .int .i64 0] 76) ∧ Bk 76 V u1.heap.size (c6 []) ∧ Below u1.heap.size u1 V := ⟨_, rfl, Bk.new _ _ _, bl1 _⟩
      rw [← hV9]
      clear hV9
      have hBV1 := hBu1.trans (hbv.mono (by have := hdr.size; omega))
      replace hdr := hdr.trans (hbv.mono hdr.size)
      clear hbv
      refine hK.out _ _ ?_ (fun hHeld => ?_)
      · (try dsimp only)
        exact HC0.out _ hdr
      clear hK K
      try simp only [Act.put, List.setIfInBounds_toArray, List.set_cons_zero, List.set_cons_succ]
      obtain ⟨g9, hg9⟩ : ∃ g, u1.heap.size = g := ⟨_, rfl⟩
      have hg9u : U2.heap.size ≤ g9 := by rw [← hg9]; exact hgl
      rw [hg9] at Y9
      try rw [hg9]
      clear hg9
      obtain ⟨⟨z0, z1, z2, z3, z4, z5⟩, f0, f1, f2, f3, f4, f5⟩ := Y9.six6
      have A9 := Y9.set6 (.int .i64 n0) (.int .i64 n1) (.int .i64 n2) (.int .i64 n3) (.int .i64 n4) (.int .i64 n5)
      have hB9 := below_set6 hBV1 (g := g9) (by omega) (.int .i64 n0) (.int .i64 n1) (.int .i64 n2) (.int .i64 n3) (.int .i64 n4) (.int .i64 n5)
      have hd9 := below_set6 hdr hg9u (.int .i64 n0) (.int .i64 n1) (.int .i64 n2) (.int .i64 n3) (.int .i64 n4) (.int .i64 n5)
      obtain ⟨X, hX⟩ : ∃ X, X = ((((((V1.setCell ⟨g9, 0, none⟩ (.int .i64 n0)).setCell ⟨g9, 1, none⟩ (.int .i64 n1)).setCell ⟨g9, 2, none⟩ (.int .i64 n2)).setCell ⟨g9, 3, none⟩ (.int .i64 n3)).setCell ⟨g9, 4, none⟩ (.int .i64 n4)).setCell ⟨g9, 5, none⟩ (.int .i64 n5)) := ⟨_, rfl⟩
      rw [← hX] at A9 hB9 hd9
      refine hCall (i := 15) rfl (by kernel_rfl) (by rfl) (fun K hK => ?_)
      go_simp
      rw [← hX]
      clear hX
      refine hK.out _ _ ?_ (fun hHeld => ?_)
      · (try dsimp only)
        exact HC0.out _ hd9
      clear hK K
      try simp only [Act.put, List.setIfInBounds_toArray, List.set_cons_zero, List.set_cons_succ]
      refine hT 16 hHeld ?_
      refine wpAnyH_done (by kernel_rfl) ?_ _
      clear hHeld z0 z1 z2 z3 z4 z5 f0 f1 f2 f3 f4 f5 Y9 hro HC0
      by_cases hE0 : E = 0
      rotate_left
      · have g6 : (E != 0) = true := bne_iff_ne.2 hE0
        have HF : Hid (drN (RS s cs) l n d p = { q with st := q.st + 1, er := E }) := by
          show _ = _
          rw [HEQ2.out, drS_err h400 (by rw [HEE.out]; exact hE0), HEE.out, drA_stop _ _ hE0]
        have HE0 : Hid (¬ E = 0) := hE0
        have HB9 : Hid (_) := hB9
        clear hE0 hP2 hC2 XG2 A9 hd9 hB9
        go_wp2
        go_ret
        show DrP _ _ (drN (RS s cs) l n d p) _ _ _
        rw [HF.out]
        exact ⟨rfl, fun h => absurd h HE0.out, HB9.out⟩
      subst hE0
      have HMN : Hid (nuL (RS s cs) x.ar = M) := by
        show _ = _
        rw [← HMM.out, ru6_yes HEE.out]
      have hPX := hP2.below hd9
      have hCX := hC2.below hd9
      have hXX := XG2.below hd9
      have hxs := hd9.size
      obtain ⟨⟨z0, z1, z2, z3, z4, z5⟩, -⟩ := A9.six6
      have f7 := hPX.fz 7
      have f8 := hPX.fz 8
      have f9 := hPX.fz 9
      have f10 := hPX.fz 10
      have f11 := hPX.fz 11
      have f12 := hPX.fz 12
      have r7 : X.cell? ⟨B, 7, none⟩ = some (.int .i64 (N.getD 0 0)) := hPX.cell 7 (by show 7 < 14; omega)
      have r8 : X.cell? ⟨B, 8, none⟩ = some (.int .i64 (N.getD 1 0)) := hPX.cell 8 (by show 8 < 14; omega)
      have r9 : X.cell? ⟨B, 9, none⟩ = some (.int .i64 (N.getD 2 0)) := hPX.cell 9 (by show 9 < 14; omega)
      have r10 : X.cell? ⟨B, 10, none⟩ = some (.int .i64 (N.getD 3 0)) := hPX.cell 10 (by show 10 < 14; omega)
      have r11 : X.cell? ⟨B, 11, none⟩ = some (.int .i64 (N.getD 4 0)) := hPX.cell 11 (by show 11 < 14; omega)
      have r12 : X.cell? ⟨B, 12, none⟩ = some (.int .i64 (N.getD 5 0)) := hPX.cell 12 (by show 12 < 14; omega)
      obtain ⟨X2, hX2, hP3, hC3, hX3, hB3⟩ : ∃ X2, X2 = ((((((X.setCell ⟨B, 7, none⟩ (.int .i64 n0)).setCell ⟨B, 8, none⟩ (.int .i64 n1)).setCell ⟨B, 9, none⟩ (.int .i64 n2)).setCell ⟨B, 10, none⟩ (.int .i64 n3)).setCell ⟨B, 11, none⟩ (.int .i64 n4)).setCell ⟨B, 12, none⟩ (.int .i64 n5)) ∧ Bk 83 X2 B (pC (.slice (some ⟨b1, off, none⟩) l.length ca) (.slice ga s.rg.length gc) (.slice ma s.rw.length mc) (.slice pa cs.length pc) q.x q.y ((q.st : Int) + 1) M v) ∧ Co (B + 1) X2 v q.out ∧ Bk 53 X2 wr.heap.size [.int .i64 x.d, .slice a2 x.ar.length c2] ∧ Below B w X2 :=
        ⟨_, rfl, by have h := hPX.setN M; rw [HNN.out.1, HNN.out.2.1, HNN.out.2.2.1, HNN.out.2.2.2.1, HNN.out.2.2.2.2.1, HNN.out.2.2.2.2.2] at h; exact h, (((((hCX.set (Nat.lt_succ_self _)).set (Nat.lt_succ_self _)).set (Nat.lt_succ_self _)).set (Nat.lt_succ_self _)).set (Nat.lt_succ_self _)).set (Nat.lt_succ_self _), (((((hXX.other 7 _ (by omega)).other 8 _ (by omega)).other 9 _ (by omega)).other 10 _ (by omega)).other 11 _ (by omega)).other 12 _ (by omega), below_setN hB9 (Nat.le_refl _) _ _ _ _ _ _⟩
      have hBl2 : B < X2.heap.size := hP3.lt
      go_upto_region 11 with fail
      rw [← hX2]
      clear hX2 f7 f8 f9 f10 f11 f12 r7 r8 r9 r10 r11 r12 z0 z1 z2 z3 z4 z5 A9 hd9 hB9 hPX hCX hXX hP2 hC2 XG2
      obtain ⟨y0, y1, -⟩ := hX3.two
      have hdo := do_any ⟨some ⟨b1, off, none⟩, ca, l, ga, gc, ma, mc, s, pa, pc, cs⟩ B w0 n hn HS.out x { q with st := q.st + 1 } v a2 c2 X2 HSP.out (HOK.out.begin (by omega)) (by rw [HMN.out]; exact hP3) hC3 (HB.out.trans hB3)
      dsimp only at hdo
      rw [HZ.out] at hdo
      have HDS : Hid (drS (RS s cs) l n (sbN (RS s cs) l n) x q = drT (RS s cs) l n (sbN (RS s cs) l n) x { q with st := q.st + 1 }) := drS_on h400 HEE.out
      rw [HDS.out] at HEQ2
      generalize drT (RS s cs) l n (sbN (RS s cs) l n) x { q with st := q.st + 1 } = q2 at *
      clear HDS hP3 hC3 hX3 HMN HMM HEE HSP HSL HOK hst h400
      go_wp2_with fail
      refine hdo.mono ?_
      rintro e u9 ⟨rfl, hok9, hb9⟩
      have HOK9 : Hid (_) := hok9
      have HB9 : Hid (_) := hB3.trans hb9
      clear hdo y0 y1 hok9 hb9 hB3
      by_cases her : q2.er = 0
      · rw [her]
        have HER : Hid (q2.er = 0) := her
        clear her
        go_wp2
        go_roundw
        case rel =>
          obtain ⟨o1, N9, v9, o2, o3⟩ := HOK9.out HER.out
          exact ⟨j + 1, q2, N9, v9, by omega, by go_num, ⟨o1, o2, o3, HB9.out, HEQ2.out⟩⟩
        case measure => simp [intOf]; omega
      · have g7 : (q2.er != 0) = true := bne_iff_ne.2 her
        have HF : Hid (drN (RS s cs) l n d p = q2) := by
          show _ = _
          rw [HEQ2.out, drA_stop _ _ her]
        have HER : Hid (¬ q2.er = 0) := her
        clear her
        go_wp2
        go_ret
        show DrP _ _ (drN (RS s cs) l n d p) _ _ _
        rw [HF.out]
        exact ⟨rfl, fun h => absurd h HER.out, HB9.out⟩
    · have hgl : U2.heap.size ≤ Z.heap.size := hdr.size
      go_simp
      obtain ⟨V1, hV9, Y9, hbv⟩ : ∃ V, V = Z.alloc (.cells #[.int .i64 0, .int .i64 0, .int .i64 0, .int .i64 0, .int .i64 0, .int .i64 0] 76) ∧ Bk 76 V Z.heap.size (c6 []) ∧ Below Z.heap.size Z V := ⟨_, rfl, Bk.new _ _ _, bl1 _⟩
      rw [← hV9]
      clear hV9
      have hBV1 := hBZ.trans (hbv.mono (by have := hdr.size; omega))
      replace hdr := hdr.trans (hbv.mono hdr.size)
      clear hbv
      refine hK.out _ _ ?_ (fun hHeld => ?_)
      · (try dsimp only)
        exact HC0.out _ hdr
      clear hK K
      try simp only [Act.put, List.setIfInBounds_toArray, List.set_cons_zero, List.set_cons_succ]
      refine hCall (i := 10) rfl (by kernel_rfl) (by rfl) (fun K hK => ?_)
      go_simp
      refine (hro _ hBV1).mono ?_
      rintro e u1 ⟨rfl, hb⟩
      have hBu1 := hBV1.trans (hb.mono (by have := hdr.size; omega))
      replace Y9 := Y9.below hb
      replace hdr := hdr.trans (hb.mono hdr.size)
      clear hb
      go_wp2_with fail
      refine hK.out _ _ ?_ (fun hHeld => ?_)
      · (try dsimp only)
        exact HC0.out _ hdr
      clear hK K
      try simp only [Act.put, List.setIfInBounds_toArray, List.set_cons_zero, List.set_cons_succ]
      refine hT 11 hHeld ?_
      refine hT 12 hHeld ?_
      refine hT 13 hHeld ?_
      obtain ⟨g9, hg9⟩ : ∃ g, Z.heap.size = g := ⟨_, rfl⟩
      have hg9u : U2.heap.size ≤ g9 := by rw [← hg9]; exact hgl
      rw [hg9] at Y9
      try rw [hg9]
      clear hg9
      obtain ⟨⟨z0, z1, z2, z3, z4, z5⟩, f0, f1, f2, f3, f4, f5⟩ := Y9.six6
      have A9 := Y9.set6 (.int .i64 n0) (.int .i64 n1) (.int .i64 n2) (.int .i64 n3) (.int .i64 n4) (.int .i64 n5)
      have hB9 := below_set6 hBu1 (g := g9) (by omega) (.int .i64 n0) (.int .i64 n1) (.int .i64 n2) (.int .i64 n3) (.int .i64 n4) (.int .i64 n5)
      have hd9 := below_set6 hdr hg9u (.int .i64 n0) (.int .i64 n1) (.int .i64 n2) (.int .i64 n3) (.int .i64 n4) (.int .i64 n5)
      obtain ⟨X, hX⟩ : ∃ X, X = ((((((u1.setCell ⟨g9, 0, none⟩ (.int .i64 n0)).setCell ⟨g9, 1, none⟩ (.int .i64 n1)).setCell ⟨g9, 2, none⟩ (.int .i64 n2)).setCell ⟨g9, 3, none⟩ (.int .i64 n3)).setCell ⟨g9, 4, none⟩ (.int .i64 n4)).setCell ⟨g9, 5, none⟩ (.int .i64 n5)) := ⟨_, rfl⟩
      rw [← hX] at A9 hB9 hd9
      refine hCall (i := 15) rfl (by kernel_rfl) (by rfl) (fun K hK => ?_)
      go_simp
      rw [← hX]
      clear hX
      refine hK.out _ _ ?_ (fun hHeld => ?_)
      · (try dsimp only)
        exact HC0.out _ hd9
      clear hK K
      try simp only [Act.put, List.setIfInBounds_toArray, List.set_cons_zero, List.set_cons_succ]
      refine hT 16 hHeld ?_
      refine wpAnyH_done (by kernel_rfl) ?_ _
      clear hHeld z0 z1 z2 z3 z4 z5 f0 f1 f2 f3 f4 f5 Y9 hro HC0
      by_cases hE0 : E = 0
      rotate_left
      · have g6 : (E != 0) = true := bne_iff_ne.2 hE0
        have HF : Hid (drN (RS s cs) l n d p = { q with st := q.st + 1, er := E }) := by
          show _ = _
          rw [HEQ2.out, drS_err h400 (by rw [HEE.out]; exact hE0), HEE.out, drA_stop _ _ hE0]
        have HE0 : Hid (¬ E = 0) := hE0
        have HB9 : Hid (_) := hB9
        clear hE0 hP2 hC2 XG2 A9 hd9 hB9
        go_wp2
        go_ret
        show DrP _ _ (drN (RS s cs) l n d p) _ _ _
        rw [HF.out]
        exact ⟨rfl, fun h => absurd h HE0.out, HB9.out⟩
      subst hE0
      have HMN : Hid (nuL (RS s cs) x.ar = M) := by
        show _ = _
        rw [← HMM.out, ru6_yes HEE.out]
      have hPX := hP2.below hd9
      have hCX := hC2.below hd9
      have hXX := XG2.below hd9
      have hxs := hd9.size
      obtain ⟨⟨z0, z1, z2, z3, z4, z5⟩, -⟩ := A9.six6
      have f7 := hPX.fz 7
      have f8 := hPX.fz 8
      have f9 := hPX.fz 9
      have f10 := hPX.fz 10
      have f11 := hPX.fz 11
      have f12 := hPX.fz 12
      have r7 : X.cell? ⟨B, 7, none⟩ = some (.int .i64 (N.getD 0 0)) := hPX.cell 7 (by show 7 < 14; omega)
      have r8 : X.cell? ⟨B, 8, none⟩ = some (.int .i64 (N.getD 1 0)) := hPX.cell 8 (by show 8 < 14; omega)
      have r9 : X.cell? ⟨B, 9, none⟩ = some (.int .i64 (N.getD 2 0)) := hPX.cell 9 (by show 9 < 14; omega)
      have r10 : X.cell? ⟨B, 10, none⟩ = some (.int .i64 (N.getD 3 0)) := hPX.cell 10 (by show 10 < 14; omega)
      have r11 : X.cell? ⟨B, 11, none⟩ = some (.int .i64 (N.getD 4 0)) := hPX.cell 11 (by show 11 < 14; omega)
      have r12 : X.cell? ⟨B, 12, none⟩ = some (.int .i64 (N.getD 5 0)) := hPX.cell 12 (by show 12 < 14; omega)
      obtain ⟨X2, hX2, hP3, hC3, hX3, hB3⟩ : ∃ X2, X2 = ((((((X.setCell ⟨B, 7, none⟩ (.int .i64 n0)).setCell ⟨B, 8, none⟩ (.int .i64 n1)).setCell ⟨B, 9, none⟩ (.int .i64 n2)).setCell ⟨B, 10, none⟩ (.int .i64 n3)).setCell ⟨B, 11, none⟩ (.int .i64 n4)).setCell ⟨B, 12, none⟩ (.int .i64 n5)) ∧ Bk 83 X2 B (pC (.slice (some ⟨b1, off, none⟩) l.length ca) (.slice ga s.rg.length gc) (.slice ma s.rw.length mc) (.slice pa cs.length pc) q.x q.y ((q.st : Int) + 1) M v) ∧ Co (B + 1) X2 v q.out ∧ Bk 53 X2 wr.heap.size [.int .i64 x.d, .slice a2 x.ar.length c2] ∧ Below B w X2 :=
        ⟨_, rfl, by have h := hPX.setN M; rw [HNN.out.1, HNN.out.2.1, HNN.out.2.2.1, HNN.out.2.2.2.1, HNN.out.2.2.2.2.1, HNN.out.2.2.2.2.2] at h; exact h, (((((hCX.set (Nat.lt_succ_self _)).set (Nat.lt_succ_self _)).set (Nat.lt_succ_self _)).set (Nat.lt_succ_self _)).set (Nat.lt_succ_self _)).set (Nat.lt_succ_self _), (((((hXX.other 7 _ (by omega)).other 8 _ (by omega)).other 9 _ (by omega)).other 10 _ (by omega)).other 11 _ (by omega)).other 12 _ (by omega), below_setN hB9 (Nat.le_refl _) _ _ _ _ _ _⟩
      have hBl2 : B < X2.heap.size := hP3.lt
      go_upto_region 11 with fail
      rw [← hX2]
      clear hX2 f7 f8 f9 f10 f11 f12 r7 r8 r9 r10 r11 r12 z0 z1 z2 z3 z4 z5 A9 hd9 hB9 hPX hCX hXX hP2 hC2 XG2
      obtain ⟨y0, y1, -⟩ := hX3.two
      have hdo := do_any ⟨some ⟨b1, off, none⟩, ca, l, ga, gc, ma, mc, s, pa, pc, cs⟩ B w0 n hn HS.out x { q with st := q.st + 1 } v a2 c2 X2 HSP.out (HOK.out.begin (by omega)) (by rw [HMN.out]; exact hP3) hC3 (HB.out.trans hB3)
      dsimp only at hdo
      rw [HZ.out] at hdo
      have HDS : Hid (drS (RS s cs) l n (sbN (RS s cs) l n) x q = drT (RS s cs) l n (sbN (RS s cs) l n) x { q with st := q.st + 1 }) := drS_on h400 HEE.out
      rw [HDS.out] at HEQ2
      generalize drT (RS s cs) l n (sbN (RS s cs) l n) x { q with st := q.st + 1 } = q2 at *
      clear HDS hP3 hC3 hX3 HMN HMM HEE HSP HSL HOK hst h400
      go_wp2_with fail
      refine hdo.mono ?_
      rintro e u9 ⟨rfl, hok9, hb9⟩
      have HOK9 : Hid (_) := hok9
      have HB9 : Hid (_) := hB3.trans hb9
      clear hdo y0 y1 hok9 hb9 hB3
      by_cases her : q2.er = 0
      · rw [her]
        have HER : Hid (q2.er = 0) := her
        clear her
        go_wp2
        go_roundw
        case rel =>
          obtain ⟨o1, N9, v9, o2, o3⟩ := HOK9.out HER.out
          exact ⟨j + 1, q2, N9, v9, by omega, by go_num, ⟨o1, o2, o3, HB9.out, HEQ2.out⟩⟩
        case measure => simp [intOf]; omega
      · have g7 : (q2.er != 0) = true := bne_iff_ne.2 her
        have HF : Hid (drN (RS s cs) l n d p = q2) := by
          show _ = _
          rw [HEQ2.out, drA_stop _ _ her]
        have HER : Hid (¬ q2.er = 0) := her
        clear her
        go_wp2
        go_ret
        show DrP _ _ (drN (RS s cs) l n d p) _ _ _
        rw [HF.out]
        exact ⟨rfl, fun h => absurd h HER.out, HB9.out⟩

theorem draw_any (S : Nat → Prop) (a : Option Addr) (ca : Nat) (l : List (List Sp)) (ga : Option Addr) (gc : Nat) (ma : Option Addr) (mc : Nat) (s : Sr) (pa : Option Addr) (pc : Nat) (cs : List Int) (w0 : World) (hl : Gr SpE.row S w0 a ca l) (hg : Tzz w0 ga gc s.rg) (hm : Rii w0 ma mc s.rw) (hp : Ri w0 pa pc cs) (h40 : s.rg.length ≤ 40) (h8 : ∀ l ∈ s.rg, l.length ≤ 8) (hfo : foD (fiS s) l = true) : ∀ n, n ≤ 10 → DrawC ⟨a, ca, l, ga, gc, ma, mc, s, pa, pc, cs⟩ w0.heap.size w0 n := by
  intro n
  induction n with
  | zero => intro hn; exact draw_step S a ca l ga gc ma mc s pa pc cs w0 hl hg hm hp h40 h8 hfo 0 hn (fun h => absurd rfl h)
  | succ n ih => intro hn; exact draw_step S a ca l ga gc ma mc s pa pc cs w0 hl hg hm hp h40 h8 hfo (n + 1) hn (fun _ => ih (by omega))

end Go.Proofs.Ytkbbdkecillnpaa

namespace Go.Proofs.Ytkbbdkecillnpaa
open Go.RowKit Go.Maps
set_option linter.unusedSimpArgs false
set_option linter.unusedVariables false

theorem atD_no {fi : Int → Int → Bool} {R : Rd18} {l : List (List Sp)} {n : Int} (h : foD fi l = false) : atDE fi R l n = 1 ∧ atDL fi R l n = [] := by
  have e : atDE fi R l n = 1 := by unfold atDE; rw [h]; rfl
  refine ⟨e, ?_⟩
  unfold atDL
  rw [e]
  rfl
theorem atD_none {fi : Int → Int → Bool} {R : Rd18} {l : List (List Sp)} {n : Int} (h : foD fi l = true) (hn : isD l.length n = false) : atDE fi R l n = 5 ∧ atDL fi R l n = [] := by
  have hn2 : ¬ (0 ≤ n ∧ n < (l.length : Int)) := by
    intro h2
    unfold isD at hn
    rw [decide_eq_true h2.1, decide_eq_true h2.2] at hn
    cases hn
  have e : atDE fi R l n = 5 := by unfold atDE; rw [h, if_pos rfl, if_neg hn2]
  refine ⟨e, ?_⟩
  unfold atDL
  rw [e]
  rfl
theorem atD_yes {fi : Int → Int → Bool} {R : Rd18} {l : List (List Sp)} {n : Int} (h : foD fi l = true) (hn : isD l.length n = true) : (0 ≤ n ∧ n < (l.length : Int)) ∧ atDE fi R l n = (atDp R l n).er ∧ atDL fi R l n = if (atDp R l n).er = 0 then (atDp R l n).out else [] := by
  have hn2 : 0 ≤ n ∧ n < (l.length : Int) := by
    unfold isD at hn
    rw [Bool.and_eq_true, decide_eq_true_iff, decide_eq_true_iff] at hn
    exact hn
  have e : atDE fi R l n = (atDp R l n).er := by unfold atDE; rw [h, if_pos rfl, if_pos hn2]
  refine ⟨hn2, e, ?_⟩
  unfold atDL
  rw [e]

set_option maxHeartbeats 4000000 in
set_option maxRecDepth 100000 in
theorem atD_any (S : Nat → Prop) (a : Option Addr) (ca : Nat) (l : List (List Sp)) (ga : Option Addr) (gc : Nat) (ma : Option Addr) (mc : Nat) (s : Sr) (n : Int) (pa : Option Addr) (pc : Nat) (cs : List Int) (w : World) (hl : Gr SpE.row S w a ca l) (hg : Tzz w ga gc s.rg) (hm : Rii w ma mc s.rw) (hp : Ri w pa pc cs) (hn : I64 n) (h40 : s.rg.length ≤ 40) (h8 : ∀ l ∈ s.rg, l.length ≤ 8) :
    Calls Try.prog 13 #[.slice a l.length ca, .agg #[.slice ga s.rg.length gc, .slice ma s.rw.length mc], .int .i64 n, .slice pa cs.length pc] w fun e w' => ∃ a' c', e = .returned (.tuple #[.slice a' (atDL (fiS s) (RS s cs) l n).length c', .int .i64 (atDE (fiS s) (RS s cs) l n)]) ∧ Gr PnE.row (fun k => w.heap.size ≤ k) w' a' c' (atDL (fiS s) (RS s cs) l n) ∧ Below w.heap.size w w' := by
  have kl := hl.lenB
  have k2 := hm.lenB
  have k3 := hg.lenB
  have k4 := hp.lenB
  obtain ⟨W, hW, X1, hbW⟩ : ∃ W, W = w.alloc (.cells #[.slice ga s.rg.length gc, .slice ma s.rw.length mc] 26) ∧ Bk 26 W w.heap.size [.slice ga s.rg.length gc, .slice ma s.rw.length mc] ∧ Below w.heap.size w W := ⟨_, rfl, Bk.new _ _ _, bl1 _⟩
  obtain ⟨p0, p1, -⟩ := X1.two
  have hfo := formD_any S a ca l ga gc ma mc s W (hl.below hbW) k2
  have HNO : Hid (foD (fiS s) l = false → atDE (fiS s) (RS s cs) l n = 1 ∧ atDL (fiS s) (RS s cs) l n = []) := atD_no
  have HNN : Hid (foD (fiS s) l = true → isD l.length n = false → atDE (fiS s) (RS s cs) l n = 5 ∧ atDL (fiS s) (RS s cs) l n = []) := atD_none
  have HYE : Hid (foD (fiS s) l = true → isD l.length n = true → (0 ≤ n ∧ n < (l.length : Int)) ∧ atDE (fiS s) (RS s cs) l n = (atDp (RS s cs) l n).er ∧ atDL (fiS s) (RS s cs) l n = if (atDp (RS s cs) l n).er = 0 then (atDp (RS s cs) l n).out else []) := atD_yes
  go_enter Try.func13, Try.ntmps13
  go_upto_region 1 with fail
  rw [← hW]
  clear hW
  cases hf : foD (fiS s) l with
  | false =>
    rw [hf] at hfo
    have HF : Hid (_) := HNO.out hf
    clear hf HNO HNN HYE
    go_wp2_with fail
    refine hfo.mono ?_
    rintro e u1 ⟨rfl, hb⟩
    have hfin := hbW.trans (hb.mono hbW.size)
    clear hfo hb p0 p1
    go_wp2
    go_ret2
    exact ⟨none, 0, by rw [HF.out.1, HF.out.2]; rfl, by rw [HF.out.2]; exact Gr.nil _ _ _ _ _ (Nat.zero_le _) (fun _ => rfl), hfin⟩
  | true =>
  rw [hf] at hfo
  have HFO : Hid (foD (fiS s) l = true) := hf
  clear hf HNO
  go_wp2_with fail
  refine hfo.mono ?_
  rintro e u1 ⟨rfl, hb⟩
  replace X1 := X1.below hb
  replace hbW := hbW.trans (hb.mono hbW.size)
  have HL : Hid (Gr SpE.row S u1 a ca l) := hl.below hbW
  have HG : Hid (Tzz u1 ga gc s.rg) := hg.below hbW
  have HM : Hid (Rii u1 ma mc s.rw) := hm.below hbW
  have HP : Hid (Ri u1 pa pc cs) := hp.below hbW
  clear hfo hb p0 p1 hl hg hm hp
  obtain ⟨p0, p1, -⟩ := X1.two
  have hisd := isDraw_any a l.length ca n u1 hn kl
  cases hq : isD l.length n with
  | false =>
    rw [hq] at hisd
    have HF : Hid (_) := HNN.out HFO.out hq
    clear hq HNN HYE
    go_wp2_with fail
    refine hisd.mono ?_
    rintro e u2 ⟨rfl, rfl⟩
    clear hisd
    go_wp2
    go_ret2
    exact ⟨none, 0, by rw [HF.out.1, HF.out.2]; rfl, by rw [HF.out.2]; exact Gr.nil _ _ _ _ _ (Nat.zero_le _) (fun _ => rfl), hbW⟩
  | true =>
  rw [hq] at hisd
  obtain ⟨⟨n1, n2⟩, HE, HL2⟩ := HYE.out HFO.out hq
  replace HE : Hid (_) := HE
  replace HL2 : Hid (_) := HL2
  clear hq HNN HYE
  obtain ⟨k, hk⟩ : ∃ k : Nat, n = (k : Int) := ⟨n.toNat, by omega⟩
  have hkl : k < l.length := by omega
  have HPE : Hid (atDp (RS s cs) l n = drN (RS s cs) l 10 (l.getD k []) Pe.new) := by
    show _ = _
    unfold atDp
    rw [hk, Int.toNat_natCast]
  obtain ⟨V, hV, Y9, hbv⟩ : ∃ V, V = u1.alloc (.cells #[.slice a l.length ca, .slice ga s.rg.length gc, .slice ma s.rw.length mc, .slice pa cs.length pc, .int .i64 0, .int .i64 0, .int .i64 0, .int .i64 0, .int .i64 0, .int .i64 0, .int .i64 0, .int .i64 0, .int .i64 0, .slice none 0 0] 83) ∧ PenB ⟨a, ca, l, ga, gc, ma, mc, s, pa, pc, cs⟩ u1.heap.size V Pe.new [] (.slice none 0 0) ∧ Below u1.heap.size u1 V := ⟨_, rfl, Bk.new _ _ _, bl1 _⟩
  have hdr := draw_any S a ca l ga gc ma mc s pa pc cs u1 HL.out HG.out HM.out HP.out h40 h8 HFO.out 10 (Nat.le_refl _) k Pe.new [] (.slice none 0 0) V hkl OkP.new Y9 (Co.new _ _) hbv
  rw [show (10 : Int) - ((10 : Nat) : Int) = 0 from rfl, ← hk] at hdr
  rw [show (Cx.mk a ca l ga gc ma mc s pa pc cs).l = l from rfl, show (Cx.mk a ca l ga gc ma mc s pa pc cs).s = s from rfl, show (Cx.mk a ca l ga gc ma mc s pa pc cs).cs = cs from rfl, ← HPE.out] at hdr
  have HSZ : Hid (w.heap.size ≤ u1.heap.size) := hbW.size
  have HBV : Hid (Below w.heap.size w V) := hbW.trans (hbv.mono hbW.size)
  generalize atDp (RS s cs) l n = q at *
  clear HPE hk n1 n2
  go_wp2_with fail
  refine hisd.mono ?_
  rintro e u2 ⟨rfl, rfl⟩
  clear hisd
  go_upto_region 6 with fail
  rw [← hV]
  clear hV p0 p1 X1 hbv Y9
  go_wp2_with fail
  refine hdr.mono ?_
  rintro e u3 ⟨rfl, hok, hb⟩
  have HFIN : Hid (Below w.heap.size w u3) := HBV.out.trans (hb.mono HSZ.out)
  clear hdr hb
  by_cases her : q.er = 0
  rotate_left
  · have g7 : (q.er != 0) = true := bne_iff_ne.2 her
    have HF : Hid (atDL (fiS s) (RS s cs) l n = []) := by
      show _ = _
      rw [HL2.out, if_neg her]
    clear her hok
    go_wp2
    go_ret2
    exact ⟨none, 0, by rw [HE.out, HF.out]; rfl, by rw [HF.out]; exact Gr.nil _ _ _ _ _ (Nat.zero_le _) (fun _ => rfl), HFIN.out⟩
  obtain ⟨-, N9, v9, hp9, hc9⟩ := hok her
  have HF : Hid (atDL (fiS s) (RS s cs) l n = q.out) := by
    show _ = _
    rw [HL2.out, if_pos her]
  obtain ⟨a9, c9, e9, hg9, -⟩ := hc9.slice
  subst e9
  have hv9 : u3.cell? ⟨u1.heap.size, 13, none⟩ = some (.slice a9 q.out.length c9) := Bk.cell hp9 13 (by show 13 < 14; omega)
  have HG9 : Hid (Gr PnE.row (fun k => w.heap.size ≤ k) u3 a9 c9 q.out) := hg9.wide (fun k h1 _ => by have := HSZ.out; omega)
  rw [her]
  have HER : Hid (q.er = 0) := her
  clear her hok hp9 hc9 hg9
  go_wp2
  go_ret2
  exact ⟨a9, c9, by rw [HE.out, HF.out, HER.out]; rfl, by rw [HF.out]; exact HG9.out, HFIN.out⟩

end Go.Proofs.Ytkbbdkecillnpaa
