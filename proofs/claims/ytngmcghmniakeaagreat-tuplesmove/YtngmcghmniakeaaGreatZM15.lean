/-
  infer.changeAt: the walk.
  infer.Fill: the walk.
  outline.Formed, slices.Grow, slices.Concat, outline.Points, outline.Ends: the walks.
  infer.Count, infer.rising, infer.laidOut, infer.wholes, infer.numbersOf: the walks.
-/
import Derived.Test.YtngmcghmniakeaaGreatZM14
import Derived.Test.YtngmcghmniakeaaGreatZM7
import Derived.Test.YtngmcghmniakeaaGreatZM13
import Derived.Lib.AppendZerosOnto
import Derived.Test.YtngmcghmniakeaaGreatZM1
import Derived.Deep.CutRange
import Derived.Test.YtngmcghmniakeaaGreatZM8
set_option maxHeartbeats 2000000
set_option maxRecDepth 100000
set_option linter.unusedSimpArgs false
set_option linter.unusedVariables false
namespace Go.Proofs.YtngmcghmniakeaaGreat
open Go.RowKit Go.Maps
theorem Ri.cell {w u : World} {b off cap : Nat} {zs : List Int} (h : Ri w (some ⟨b, off, none⟩) cap zs) (hb : Below w.heap.size w u) {k : Nat} (hk : k < zs.length) {z : Int} (hz : zs.getD k 0 = z) : u.cell? ⟨b, off + k, none⟩ = some (.int .i64 z) := by
 obtain ⟨b', off', e, _, d⟩ := h.at hb k hk
 cases e
 rw [d, hz]
theorem changeAt_any (i : Nat) (a : Option Addr) (ca : Nat) (ns : List Int) (ta : Option Addr) (tc : Nat) (ts : List Bool) (da : Option Addr) (dc : Nat) (cs : List Int) (w : World) (hn : Ri w a ca ns) (ht : Rl w ta tc ts) (hc : Ri w da dc cs) (hF : fitB ns ts cs = true) (hi : i < ns.length) :
    Calls Tryz.prog 174 #[.int .i64 (i : Int), .slice a ns.length ca, .slice ta ts.length tc, .slice da cs.length dc] w fun e w' => ∃ v', e = .returned v' ∧ Fr w' v' 7 (fiQ ns ts cs i) ∧ Below w.heap.size w w' := by
 obtain ⟨⟨l1, l2, l3⟩, f1, f2⟩ := fitB_iff.1 hF
 have hA := fun U (h : Rl U ta tc ts) => nearA_any i ta tc ts U h (by omega) (by omega)
 have hB := fun U (h : Rl U ta tc ts) => nearB_any i ta tc ts U h (by omega) (by omega)
 have HAB := nbAB (t := ts) (i := i) (by omega)
 obtain ⟨n, hnn⟩ : ∃ n, ns.length = n := ⟨_, rfl⟩
 rw [hnn] at l1 l2 l3 hi ⊢; rw [l1, l2]; rw [l1] at hA hB HAB
 have HL : Hid (ns.length = n ∧ ts.length = n ∧ cs.length = n) := ⟨hnn, l1, l2⟩
 have HN : Hid (Ri w a ca ns) := hn
 have HT : Hid (Rl w ta tc ts) := ht
 have HC : Hid (Ri w da dc cs) := hc
 have HF1 : Hid (∀ z ∈ ns, -32768 ≤ z ∧ z ≤ 32767) := f1
 have HF2 : Hid (∀ z ∈ cs, -32768 ≤ z ∧ z ≤ 32767) := f2
 clear hn ht hc f1 f2 hnn l1 l2 hF
 obtain ⟨W, hW, B1, hbW⟩ : ∃ W, W = w.alloc (.cells #[.bool false, .slice none 0 0, .slice none 0 0] 69) ∧ Box 69 W w.heap.size (.bool false) (.slice none 0 0) (.slice none 0 0) ∧ Below w.heap.size w W := ⟨_, rfl, Box.new _ _ _ _ _, al1 _⟩
 obtain ⟨tb, tof, eta, htb, dt⟩ := HT.out.at hbW i (by rw [HL.out.2.1]; exact hi)
 obtain ⟨tz, htz⟩ : ∃ z, ts.getD i false = z := ⟨_, rfl⟩
 rw [htz] at dt; subst eta
 have i0 : (0 : Int) ≤ (i : Int) := by omega
 have i9 : (i : Int) < (n : Int) := by omega
 cases tz with
 | true =>
  obtain ⟨b1, o1, ea1, hb1, d1⟩ := HC.out.at hbW i (by rw [HL.out.2.2]; exact hi)
  have hzb := fd_getD HF2.out i
  have HQ : Hid (fiQ ns ts cs i = ((cs.getD i 0 : Int) : Rat)) := fiQ_own htz
  subst ea1; clear htz hA hB HAB
  generalize cs.getD i 0 = z at *
  go_enter Tryz.func174, Tryz.ntmps174
  go_upto_region 1 with fail
  rw [← hW]; clear hW
  go_wp2_with fail
  refine (whole_any z _ (by omega) (by omega)).mono ?_
  rintro e u1 ⟨v1, rfl, hF1, hb2⟩; replace B1 := B1.below hb2
  replace hbW : Below w.heap.size w u1 := hbW.trans (hb2.mono hbW.size)
  clear hb2 d1 dt
  replace hF1 := (hF1.eq (r := fiQ ns ts cs i) HQ.out.symm).le (show 2 ≤ 7 by decide)
  have hs := B1.lt
  obtain ⟨q1, q2, q3, q4, q5, q6⟩ := B1.cells; obtain ⟨n', xs', ys', ⟨e1, f1, e2, f2, rfl, hx', hy'⟩, hF⟩ := hF1; go_wp2
  refine ret3 (v := .agg #[.bool n', .slice e1 xs'.length f1, .slice e2 ys'.length f2]) B1 rfl (fun U hU => by obtain ⟨r1, r2, r3, _⟩ := hU.cells; simp [results, Tryz.results174, go_sem, r1, r2, r3]) (fun U hU hK => ⟨_, rfl, ⟨_, _, _, ⟨_, _, _, _, rfl, hK _ _ _ hx', hK _ _ _ hy'⟩, hF⟩, hU _ _ hbW (by omega)⟩)
 | false =>
  have hA1 := hA W (HT.out.below hbW)
  rcases HAB with ⟨k1, k2, k3⟩ | ⟨p, q, k1, k2, k3, k4, k5, k6, k7, k8⟩
  · have HQ : Hid (fiQ ns ts cs i = 0) := fiQ_nil htz k1
    rw [k1] at hA1
    dsimp only [Option.getD, Option.isSome] at hA1
    have hnn1 : ((n - 1 : Nat) : Int) = (n : Int) - 1 := by omega
    rw [hnn1] at hA1; clear htz hA hB k1 k2 k3 hnn1
    go_enter Tryz.func174, Tryz.ntmps174
    go_upto_region 1 with fail
    rw [← hW]; clear hW
    go_wp2_with fail
    refine hA1.mono ?_
    rintro e u0 ⟨rfl, rfl⟩; clear hA1
    go_wp2_with fail
    refine (whole_any 0 _ (by decide) (by decide)).mono ?_
    rintro e u1 ⟨v1, rfl, hF1, hb2⟩; replace B1 := B1.below hb2
    replace hbW : Below w.heap.size w u1 := hbW.trans (hb2.mono hbW.size)
    clear hb2 dt
    replace hF1 := (hF1.eq (r := fiQ ns ts cs i) (by rw [HQ.out]; rfl)).le (show 2 ≤ 7 by decide)
    have hs := B1.lt
    obtain ⟨q1, q2, q3, q4, q5, q6⟩ := B1.cells; obtain ⟨n', xs', ys', ⟨e1, f1, e2, f2, rfl, hx', hy'⟩, hF⟩ := hF1; go_wp2
    refine ret3 (v := .agg #[.bool n', .slice e1 xs'.length f1, .slice e2 ys'.length f2]) B1 rfl (fun U hU => by obtain ⟨r1, r2, r3, _⟩ := hU.cells; simp [results, Tryz.results174, go_sem, r1, r2, r3]) (fun U hU hK => ⟨_, rfl, ⟨_, _, _, ⟨_, _, _, _, rfl, hK _ _ _ hx', hK _ _ _ hy'⟩, hF⟩, hU _ _ hbW (by omega)⟩)
  · have HQ : Hid (fiQ ns ts cs i = infQ (ns.getD p 0) (cs.getD p 0) (ns.getD q 0) (cs.getD q 0) (ns.getD i 0)) := fiQ_two htz k1 k2
    rw [k1] at hA1
    have hB1 := hB W (HT.out.below hbW)
    rw [k2] at hB1
    dsimp only [Option.getD, Option.isSome] at hA1 hB1
    have hnn1 : ((n - 1 : Nat) : Int) = (n : Int) - 1 := by omega
    rw [hnn1] at hA1
    have hp : p < n := k3
    have hq : q < n := k4
    have bpn := fd_getD HF1.out p
    have bpc := fd_getD HF2.out p
    have bqn := fd_getD HF1.out q
    have bqc := fd_getD HF2.out q
    have bin := fd_getD HF1.out i
    have hi' : i < ns.length := by rw [HL.out.1]; exact hi
    clear htz hA hB k1 k2 k3 k4 k5 k6 k7 k8 hnn1
    obtain ⟨pn, e⟩ : ∃ z, ns.getD p 0 = z := ⟨_, rfl⟩
    have Epn : Hid (ns.getD p 0 = pn) := e
    rw [e] at bpn; clear e
    obtain ⟨pc, e⟩ : ∃ z, cs.getD p 0 = z := ⟨_, rfl⟩
    have Epc : Hid (cs.getD p 0 = pc) := e
    rw [e] at bpc; clear e
    obtain ⟨qn, e⟩ : ∃ z, ns.getD q 0 = z := ⟨_, rfl⟩
    have Eqn : Hid (ns.getD q 0 = qn) := e
    rw [e] at bqn; clear e
    obtain ⟨qc, e⟩ : ∃ z, cs.getD q 0 = z := ⟨_, rfl⟩
    have Eqc : Hid (cs.getD q 0 = qc) := e
    rw [e] at bqc; clear e
    obtain ⟨iz, e⟩ : ∃ z, ns.getD i 0 = z := ⟨_, rfl⟩
    have Ein : Hid (ns.getD i 0 = iz) := e
    rw [e] at bin; clear e
    have HQ2 : Hid (fiQ ns ts cs i = infQ pn pc qn qc iz) := by
     show _ = _
     rw [HQ.out, Epn.out, Epc.out, Eqn.out, Eqc.out, Ein.out]
    clear HQ
    go_enter Tryz.func174, Tryz.ntmps174
    go_upto_region 1 with fail
    rw [← hW]; clear hW
    go_wp2_with fail
    refine hA1.mono ?_
    rintro e u0 ⟨rfl, rfl⟩; clear hA1
    go_wp2_with fail
    refine hB1.mono ?_
    rintro e u0 ⟨rfl, rfl⟩; clear hB1 dt
    go_wp2_with fail
    obtain ⟨b0, o0, ea0, hb0, d0⟩ := HN.out.at hbW p (by rw [HL.out.1]; exact hp)
    obtain ⟨b1, o1, ea1, hb1, d1⟩ := HC.out.at hbW p (by rw [HL.out.2.2]; exact hp)
    rw [Epn.out] at d0; rw [Epc.out] at d1; subst ea0 ea1
    have i1 : (0 : Int) ≤ (p : Int) := by omega
    have i2 : (p : Int) < (n : Int) := by omega
    refine wp_region_held_drew (S := fun w9 => w9.cell? ⟨b0, o0 + p, none⟩ = some (.int .i64 pn) ∧ w9.cell? ⟨b1, o1 + p, none⟩ = some (.int .i64 pc)) (by kernel_rfl) ?_ (fun hHeld => ?_)
    · (try dsimp only)
      go_keep
    have hdr : Below W.heap.size W W.drew := Below.drew1
    generalize W.drew = Vd at hdr hHeld ⊢
    replace hbW : Below w.heap.size w Vd := hbW.trans (hdr.mono hbW.size)
    replace B1 := B1.below hdr
    have hHeldz := hHeld
    clear hdr d0 d1; refine hT 0 hHeld ?_; refine hT 1 hHeld ?_; refine hT 2 hHeld ?_; refine hT 3 hHeld ?_; refine hT 4 hHeld ?_; refine hT 5 hHeld ?_; refine hT 6 hHeld ?_; refine hT 7 hHeld ?_; refine hT 8 hHeld ?_
    obtain ⟨V, hV, XP, hal⟩ : ∃ V, V = Vd.alloc (.cells #[.int .i64 pn, .int .i64 pc] 224) ∧ Bk 224 V Vd.heap.size [.int .i64 pn, .int .i64 pc] ∧ Below Vd.heap.size Vd V := ⟨_, rfl, Bk.new _ _ _, al1 _⟩
    refine hCall (i := 9) rfl (by kernel_rfl) (by rfl) (fun K hK => ?_)
    go_simp
    refine hK.out _ _ ?_ (fun hHeld => ?_)
    · (try dsimp only)
      exact ⟨((al1 _).cell (p := ⟨b0, o0 + p, none⟩) (Nat.lt_of_lt_of_le hb0 hbW.size)).trans hHeld.1, ((al1 _).cell (p := ⟨b1, o1 + p, none⟩) (Nat.lt_of_lt_of_le hb1 hbW.size)).trans hHeld.2⟩
    clear hK K
    try simp only [Act.put, pZ]
    refine hCall (i := 10) rfl (by kernel_rfl) (by rfl) (fun K hK => ?_)
    go_simp; rw [← hV]; clear hV
    refine hK.out _ _ ?_ (fun hHeld2 => ?_)
    · (try dsimp only)
      exact ⟨(hal.cell (p := ⟨b0, o0 + p, none⟩) (Nat.lt_of_lt_of_le hb0 hbW.size)).trans hHeldz.1, (hal.cell (p := ⟨b1, o1 + p, none⟩) (Nat.lt_of_lt_of_le hb1 hbW.size)).trans hHeldz.2⟩
    clear hK K
    try simp only [Act.put, pZ]
    refine wpAnyH_done (by kernel_rfl) ?_ _
    clear hHeld hHeld2 hHeldz
    have hVl : w.heap.size < Vd.heap.size := B1.lt
    replace B1 := B1.below hal
    replace hbW : Below w.heap.size w V := hbW.trans (hal.mono hbW.size)
    clear hal i1 i2
    go_wp2_with fail
    obtain ⟨b0, o0, ea0, hb0, d0⟩ := HN.out.at hbW q (by rw [HL.out.1]; exact hq)
    obtain ⟨b1, o1, ea1, hb1, d1⟩ := HC.out.at hbW q (by rw [HL.out.2.2]; exact hq)
    rw [Eqn.out] at d0; rw [Eqc.out] at d1
    cases ea0
    cases ea1
    have i1 : (0 : Int) ≤ (q : Int) := by omega
    have i2 : (q : Int) < (n : Int) := by omega
    refine wp_region_held_drew (S := fun w9 => w9.cell? ⟨b0, o0 + q, none⟩ = some (.int .i64 qn) ∧ w9.cell? ⟨b1, o1 + q, none⟩ = some (.int .i64 qc)) (by kernel_rfl) ?_ (fun hHeld => ?_)
    · (try dsimp only)
      go_keep
    have hdr : Below V.heap.size V V.drew := Below.drew1
    generalize V.drew = Ud at hdr hHeld ⊢
    replace hbW : Below w.heap.size w Ud := hbW.trans (hdr.mono hbW.size)
    replace B1 := B1.below hdr; replace XP := XP.below hdr
    have hHeldz := hHeld
    clear hdr d0 d1; refine hT 0 hHeld ?_; refine hT 1 hHeld ?_; refine hT 2 hHeld ?_; refine hT 3 hHeld ?_; refine hT 4 hHeld ?_; refine hT 5 hHeld ?_; refine hT 6 hHeld ?_; refine hT 7 hHeld ?_; refine hT 8 hHeld ?_
    obtain ⟨U, hU, XQ, hal⟩ : ∃ V, V = Ud.alloc (.cells #[.int .i64 qn, .int .i64 qc] 224) ∧ Bk 224 V Ud.heap.size [.int .i64 qn, .int .i64 qc] ∧ Below Ud.heap.size Ud V := ⟨_, rfl, Bk.new _ _ _, al1 _⟩
    refine hCall (i := 9) rfl (by kernel_rfl) (by rfl) (fun K hK => ?_)
    go_simp
    refine hK.out _ _ ?_ (fun hHeld => ?_)
    · (try dsimp only)
      exact ⟨((al1 _).cell (p := ⟨b0, o0 + q, none⟩) (Nat.lt_of_lt_of_le hb0 hbW.size)).trans hHeld.1, ((al1 _).cell (p := ⟨b1, o1 + q, none⟩) (Nat.lt_of_lt_of_le hb1 hbW.size)).trans hHeld.2⟩
    clear hK K
    try simp only [Act.put, pZ]
    refine hCall (i := 10) rfl (by kernel_rfl) (by rfl) (fun K hK => ?_)
    go_simp; rw [← hU]; clear hU
    refine hK.out _ _ ?_ (fun hHeld2 => ?_)
    · (try dsimp only)
      exact ⟨(hal.cell (p := ⟨b0, o0 + q, none⟩) (Nat.lt_of_lt_of_le hb0 hbW.size)).trans hHeldz.1, (hal.cell (p := ⟨b1, o1 + q, none⟩) (Nat.lt_of_lt_of_le hb1 hbW.size)).trans hHeldz.2⟩
    clear hK K
    try simp only [Act.put, pZ]
    refine wpAnyH_done (by kernel_rfl) ?_ _
    clear hHeld hHeld2 hHeldz
    have hUl : w.heap.size < Ud.heap.size := B1.lt
    replace B1 := B1.below hal; replace XP := XP.below hal
    replace hbW : Below w.heap.size w U := hbW.trans (hal.mono hbW.size)
    clear hal i1 i2
    go_wp2_with fail
    obtain ⟨b0', o0', ea0, hb0', d0⟩ := HN.out.at hbW i (by rw [HL.out.1]; exact hi)
    cases ea0
    rw [Ein.out] at d0; obtain ⟨x0, x1, _⟩ := XP.two; obtain ⟨y0, y1, _⟩ := XQ.two
    refine wp_region_held_drew (S := fun w9 => w9.cell? ⟨Vd.heap.size, 0, none⟩ = some (.int .i64 pn) ∧ w9.cell? ⟨Vd.heap.size, 1, none⟩ = some (.int .i64 pc) ∧ w9.cell? ⟨Ud.heap.size, 0, none⟩ = some (.int .i64 qn) ∧ w9.cell? ⟨Ud.heap.size, 1, none⟩ = some (.int .i64 qc) ∧ w9.cell? ⟨b0, o0 + i, none⟩ = some (.int .i64 iz)) (by kernel_rfl) ?_ (fun hHeld => ?_)
    · (try dsimp only)
      go_keep
    have hdr : Below U.heap.size U U.drew := Below.drew1
    generalize U.drew = Z at hdr hHeld ⊢
    replace hbW : Below w.heap.size w Z := hbW.trans (hdr.mono hbW.size)
    replace B1 := B1.below hdr; replace XP := XP.below hdr; replace XQ := XQ.below hdr; clear hdr d0 x0 x1 y0 y1; refine hT 0 hHeld ?_; refine hT 1 hHeld ?_; refine hT 2 hHeld ?_; refine hT 3 hHeld ?_; refine hT 4 hHeld ?_; refine hT 5 hHeld ?_
    refine hCall (i := 6) rfl (by kernel_rfl) (by rfl) (fun K hK => ?_)
    go_simp
    refine (inferred_any pn pc qn qc iz _ bpn bpc bqn bqc bin).mono ?_
    rintro e u1 ⟨v1, rfl, hF1, hb2⟩; replace B1 := B1.below hb2; replace XP := XP.below hb2; replace XQ := XQ.below hb2
    replace hbW : Below w.heap.size w u1 := hbW.trans (hb2.mono hbW.size)
    obtain ⟨x0, x1, _⟩ := XP.two; obtain ⟨y0, y1, _⟩ := XQ.two
    have d0 := HN.out.cell hbW hi' Ein.out
    go_wp2_with fail
    refine hK.out _ _ ?_ (fun hHeld => ?_)
    · (try dsimp only)
      exact ⟨x0, x1, y0, y1, d0⟩
    clear hK K hb2 x0 x1 y0 y1 d0
    try simp only [Act.put, pZ]
    replace hF1 := hF1.eq (r := fiQ ns ts cs i) HQ2.out.symm
    obtain ⟨n', xs', ys', ⟨e1, f1, e2, f2, rfl, hx', hy'⟩, hF⟩ := hF1; obtain ⟨q1, q2, q3, q4, q5, q6⟩ := B1.cells
    have hs := B1.lt
    refine hCall (i := 7) rfl (by kernel_rfl) (by rfl) (fun K hK => ?_)
    go_simp
    obtain ⟨U9, hU9, BU, hU1, hU2, hU3⟩ := set3_world B1 (.bool n') (.slice e1 xs'.length f1) (.slice e2 ys'.length f2)
    rw [← hU9]; clear hU9
    refine hK.out _ _ ?_ (fun hHeld2 => ?_)
    · (try dsimp only)
      refine ⟨(World.cell?_of_block (w := u1) (a := ⟨Vd.heap.size, 0, none⟩) (hU3 Vd.heap.size (by omega))).trans hHeld.1, (World.cell?_of_block (w := u1) (a := ⟨Vd.heap.size, 1, none⟩) (hU3 Vd.heap.size (by omega))).trans hHeld.2.1, (World.cell?_of_block (w := u1) (a := ⟨Ud.heap.size, 0, none⟩) (hU3 Ud.heap.size (by omega))).trans hHeld.2.2.1, (World.cell?_of_block (w := u1) (a := ⟨Ud.heap.size, 1, none⟩) (hU3 Ud.heap.size (by omega))).trans hHeld.2.2.2.1, (World.cell?_of_block (w := u1) (a := ⟨b0, o0 + i, none⟩) (hU3 b0 (by omega))).trans hHeld.2.2.2.2⟩
    clear hK K
    try simp only [Act.put, pZ]
    refine wpAnyH_done (by kernel_rfl) ?_ _
    clear hHeld hHeld2; go_wp2
    exact bodyPost_ret (v := .agg #[.bool n', .slice e1 xs'.length f1, .slice e2 ys'.length f2]) (by obtain ⟨r1, r2, r3, _⟩ := BU.cells; simp [results, Tryz.results174, go_sem, r1, r2, r3]) rfl ⟨_, rfl, ⟨_, _, _, ⟨_, _, _, _, rfl, hU2 _ _ _ hx', hU2 _ _ _ hy'⟩, hF⟩, hU1 _ _ hbW (by omega)⟩
theorem Fr.cells3' {w : World} {v : Value} {k : Nat} {q : Rat} (h : Fr w v k q) : ∃ n a l c a' l' c', v = .agg #[.bool n, .slice a l c, .slice a' l' c'] := by
 obtain ⟨n, xs, ys, ⟨a, c, a', c', rfl, h1, h2⟩, h3⟩ := h
 exact ⟨_, _, _, _, _, _, _, rfl⟩
theorem rg_succ {α : Type} (f : Nat → α) (k : Nat) : (List.range (k + 1)).map f = (List.range k).map f ++ [f k] := by rw [List.range_succ, List.map_append]; rfl
theorem cfill_any (a : Option Addr) (ca : Nat) (ns : List Int) (ta : Option Addr) (tc : Nat) (ts : List Bool) (da : Option Addr) (dc : Nat) (cs : List Int) (w : World) (hn : Ri w a ca ns) (ht : Rl w ta tc ts) (hc : Ri w da dc cs) :
    Calls Tryz.prog 122 #[.slice a ns.length ca, .slice ta ts.length tc, .slice da cs.length dc] w fun e w' => ∃ a' c', e = .returned (.slice a' (fillQ ns ts cs).length c') ∧ Rf w' a' c' 7 (fillQ ns ts cs) ∧ Below w.heap.size w w' := by
 have b1 := hn.lenB
 have b2 := ht.lenB
 have b3 := hc.lenB
 cases hF : fitB ns ts cs with
 | false =>
  rw [fillQ_no hF]
  by_cases l1 : ts.length = ns.length
  · by_cases l2 : cs.length = ns.length
    · by_cases l3 : ns.length ≤ 80
      · have hf1 := ifields_any a ca ns w hn
        have hf2 := ifields_any da dc cs w hc
        cases hq : ns.all fdB with
        | false =>
         rw [hq] at hf1
         rw [l1, l2] at *
         generalize ns.length = n at *
         clear hF hq hn ht hc l1 l2 hf2
         have g1 : ¬ (n : Int) > 80 := by omega
         go_enter Tryz.func122, Tryz.ntmps122
         go_wp2_with fail
         refine hf1.mono ?_
         rintro e u0 ⟨rfl, rfl⟩; go_wp2
         go_ret
         exact ⟨none, 0, rfl, Rf.nil _ _, Below.refl _ _⟩
        | true =>
         have hq2 : cs.all fdB = false := by
          cases h9 : cs.all fdB with
          | false => rfl
          | true => rw [fitB, hq, h9, decide_eq_true ⟨l1, l2, l3⟩] at hF; cases hF
         rw [hq] at hf1; rw [hq2] at hf2
         rw [l1, l2] at *
         generalize ns.length = n at *
         clear hF hq hq2 hn ht hc l1 l2
         have g1 : ¬ (n : Int) > 80 := by omega
         go_enter Tryz.func122, Tryz.ntmps122
         go_wp2_with fail
         refine hf1.mono ?_
         rintro e u0 ⟨rfl, rfl⟩
         go_wp2_with fail
         refine hf2.mono ?_
         rintro e u0 ⟨rfl, rfl⟩; go_wp2
         go_ret
         exact ⟨none, 0, rfl, Rf.nil _ _, Below.refl _ _⟩
      · rw [l1, l2] at *
        generalize ns.length = n at *
        have g1 : (n : Int) > 80 := by omega
        clear hF hn ht hc l1 l2
        go_enter Tryz.func122, Tryz.ntmps122
        go_wp2
        go_ret
        exact ⟨none, 0, rfl, Rf.nil _ _, Below.refl _ _⟩
    · rw [l1]
      generalize ns.length = n at *
      generalize cs.length = m at *
      have g1 : ¬ ((m : Int) = (n : Int)) := by omega
      clear hF hn ht hc l1
      go_enter Tryz.func122, Tryz.ntmps122
      go_wp2
      go_ret
      exact ⟨none, 0, rfl, Rf.nil _ _, Below.refl _ _⟩
  · generalize ns.length = n at *
    generalize ts.length = m at *
    generalize cs.length = m2 at *
    have g1 : ¬ ((m : Int) = (n : Int)) := by omega
    clear hF hn ht hc
    go_enter Tryz.func122, Tryz.ntmps122
    go_wp2
    go_ret
    exact ⟨none, 0, rfl, Rf.nil _ _, Below.refl _ _⟩
 | true =>
  obtain ⟨⟨l1, l2, l3⟩, f1, f2⟩ := fitB_iff.1 hF
  have hf1 := ifields_any a ca ns w hn
  have hf2 := ifields_any da dc cs w hc
  rw [show ns.all fdB = true from List.all_eq_true.2 (fun z hz => fdB_iff.2 (f1 z hz))] at hf1
  rw [show cs.all fdB = true from List.all_eq_true.2 (fun z hz => fdB_iff.2 (f2 z hz))] at hf2
  have HR : Hid (fillQ ns ts cs = (List.range ns.length).map (fiQ ns ts cs)) := fillQ_yes hF
  have hch := fun U (h1 : Ri U a ca ns) (h2 : Rl U ta tc ts) (h3 : Ri U da dc cs) i hi => changeAt_any i a ca ns ta tc ts da dc cs U h1 h2 h3 hF hi
  have HFL : Hid ((fillQ ns ts cs).length = ns.length) := fillQ_len hF
  rw [HFL.out]
  rw [l1, l2] at *
  obtain ⟨n, hnn⟩ : ∃ n, ns.length = n := ⟨_, rfl⟩
  have HN : Hid (Ri w a ca ns) := hn
  have HT : Hid (Rl w ta tc ts) := ht
  have HC : Hid (Ri w da dc cs) := hc
  rw [hnn] at HR HFL hf1 hf2 hch b1 l3 ⊢; clear b2 b3
  have HL : Hid (ns.length = n) := hnn
  have HCH : Hid (∀ U, Ri U a ca ns → Rl U ta tc ts → Ri U da dc cs → ∀ i : Nat, i < n → Calls Tryz.prog 174 #[.int .i64 (i : Int), .slice a n ca, .slice ta n tc, .slice da n dc] U fun e w' => ∃ v', e = .returned v' ∧ Fr w' v' 7 (fiQ ns ts cs i) ∧ Below U.heap.size U w') := hch
  clear hF f1 f2 hn ht hc l1 l2 hnn hch
  have g1 : ¬ (n : Int) > 80 := by omega
  obtain ⟨i0, hi0, hz0, hz1, hz2⟩ := info_parts info_rt
  have hmk := run_make (P := Tryz.prog) w 32 69 i0 rtZ Tryz.underlying32 hi0 hz0 .i64 .i64 0 (n : Int) (by omega) (by omega) (by rw [hz2]; omega) (by omega)
  rw [hz1] at hmk
  simp only [Int.toNat_zero, Int.toNat_natCast] at hmk
  obtain ⟨w1, hw1⟩ : ∃ w1, w.alloc (.cells (madeCells rtZ.cells (n * 3)) 69) = w1 := ⟨_, rfl⟩
  have hI0 : Ro 69 w.heap.size w1 (.slice (some ⟨w.heap.size, 0, none⟩) 0 n) 7 ((List.range 0).map (fiQ ns ts cs)) := by
   refine ⟨[], ?_, fun g hg => ?_, fun i hi => by simp at hi⟩
   · rw [← hw1]
     have := World.ownsRow_made (base := w.heap.size) (e := 69) (size := 3) w (madeCells rtZ.cells (n * 3)) n (Nat.le_refl _) (by unfold maxLen; omega) (size_madeCells _ _)
     simpa using this
   · simp [Value.ownBlock] at hg
     subst hg; rw [← hw1]
     exact NoI.of (heap_alloc_new w _) (rtZ_made _)
  have hB1u : Below w.heap.size w w1 := by rw [← hw1]; exact bl1 _
  rw [hw1] at hmk; clear hw1 hi0 hz0 hz1 hz2
  go_enter Tryz.func122, Tryz.ntmps122
  go_wp2_with fail
  refine hf1.mono ?_
  rintro e u0 ⟨rfl, rfl⟩
  go_wp2_with fail
  refine hf2.mono ?_
  rintro e u0 ⟨rfl, rfl⟩; clear hf1 hf2; go_wp2
  go_loopw [8, 37] (fun v i wr => ∃ k : Nat, k ≤ n ∧ i = .int .i64 k ∧ Ro 69 w.heap.size wr v 7 ((List.range k).map (fiQ ns ts cs)) ∧ Below w.heap.size w wr) (fun _ i _ => n - (intOf i).toNat)
  case atStart => exact ⟨0, Nat.zero_le _, rfl, hI0, hB1u⟩
  case round =>
   obtain ⟨k, hk, rfl, hT, hB⟩ := hrel; obtain ⟨a2, c2, rfl, hts⟩ := hT.rf
   have hlen : ((List.range k).map (fiQ ns ts cs)).length = k := by simp
   rw [hlen] at hT ⊢
   have HT2 : Hid (Ro 69 w.heap.size wr (.slice a2 k c2) 7 ((List.range k).map (fiQ ns ts cs))) := hT
   have HTS : Hid (Rf wr a2 c2 7 ((List.range k).map (fiQ ns ts cs))) := hts
   clear hT hts hmk hI0 hB1u
   have hsz := hB.size
   by_cases hkn : k < n
   · have hc1 := HCH.out wr (HN.out.below hB) (HT.out.below hB) (HC.out.below hB) k hkn
     have HS : Hid (_) := rg_succ (fiQ ns ts cs) k
     go_wp2_with fail
     refine hc1.mono ?_
     rintro e u1 ⟨v1, rfl, hF1, hb1⟩; obtain ⟨z1, x1, x2, x3, x4, x5, x6, rfl⟩ := hF1.cells3'
     obtain ⟨V, hV, B4, hb4⟩ : ∃ V, V = u1.alloc (.cells #[.bool z1, .slice x1 x2 x3, .slice x4 x5 x6] 69) ∧ Box 69 V u1.heap.size (.bool z1) (.slice x1 x2 x3) (.slice x4 x5 x6) ∧ Below u1.heap.size u1 V := ⟨_, rfl, Box.new _ _ _ _ _, bl1 _⟩
     have hbv : Below wr.heap.size wr V := hb1.trans (hb4.mono hb1.size)
     obtain ⟨r0, r1, r2, _⟩ := B4.cells
     have hone := Rz.one B4.lt r0 r1 r2 (hF1.below hb4)
     have hown := HT2.out.below hbv
     have hll : ((List.range k).map (fiQ ns ts cs)).length + [fiQ ns ts cs k].length ≤ 1000000 := by rw [hlen]; simp; omega
     have hbs : w.heap.size ≤ V.heap.size := Nat.le_trans hsz hbv.size
     have hBV : Below w.heap.size w V := hB.trans (hbv.mono hsz)
     have hloV : ∀ g, (Value.slice a2 k c2).ownBlock = some g → w.heap.size ≤ g := fun g hg => (HT2.out.lo hg).1
     clear hc1 hF1 hb1 hb4 hbv B4 r0 r1 r2
     go_wp2_with (at_builtin; rw [← hV]; refine wpList_append_rts 32 69 Tryz.underlying32 info_rt rfl _ _ rfl w.heap.size (.slice a2 k c2) 7 _ _ rfl hown _ 1 1 rfl rfl hone (fun e => by cases e) (fun ad e => by cases e; exact ⟨_, _, rfl⟩) hll hbs ?_)
     intro v9 w9 hT9 hgrow _
     rw [← hV] at hgrow
     have hB9 : Below w.heap.size w w9 := hBV.grown hgrow hbs hloV
     rw [← HS.out] at hT9; clear hgrow hbs hll HS hone hown hV; go_wp2
     go_roundw
     case rel => exact ⟨k + 1, by omega, by go_num, hT9, hB9⟩
     case measure => simp [intOf]; omega
   · obtain rfl : k = n := by omega
     have g4 : ¬ (k : Int) < (k : Int) := by omega
     go_wp2
     go_ret
     exact ⟨a2, c2, rfl, by rw [HR.out]; exact HTS.out, hB⟩
theorem foB_eq (o : Ol) : foB o = (!(decide (0 < o.ps.length) && decide (0 < o.cs.length)) && (coF o.cs && (decide (o.ps.length ≤ 6) && o.ps.all paF))) := by
 unfold foB coF
 generalize decide (0 < o.cs.length) = b1
 generalize decide (0 < o.ps.length) = b2
 generalize decide (o.cs.length ≤ 10) = b3
 generalize decide (o.ps.length ≤ 6) = b4
 generalize o.cs.all _ = b5
 generalize decide (o.cs.flatten.length ≤ 80) = b6
 generalize o.cs.flatten.all pnF = b7
 generalize o.ps.all paF = b8
 revert b1 b2 b3 b4 b5 b6 b7 b8
 decide
theorem cformO_any (S : Nat → Prop) (a : Option Addr) (ca : Nat) (b : Option Addr) (cb : Nat) (o : Ol) (w : World) (hc : Gr PnE.row S w a ca o.cs) (hp : Gr PaE S w b cb o.ps) :
    Calls Tryz.prog 56 #[.agg #[.slice a o.cs.length ca, .slice b o.ps.length cb]] w fun e w' => e = .returned (.bool (foB o)) ∧ Below w.heap.size w w' := by
 have k1 := hc.lenB
 have k2 := hp.lenB
 have HE : Hid (_) := foB_eq o
 obtain ⟨W, hW, X1, hbW⟩ : ∃ W, W = w.alloc (.cells #[.slice a o.cs.length ca, .slice b o.ps.length cb] 25) ∧ Bk 25 W w.heap.size [.slice a o.cs.length ca, .slice b o.ps.length cb] ∧ Below w.heap.size w W := ⟨_, rfl, Bk.new _ _ _, bl1 _⟩
 have hc1 := ccontF_any S a ca o.cs W (hc.below hbW)
 have hp1 := fun U (h : Below W.heap.size W U) => cpartsF_any S b cb o.ps U ((hp.below hbW).below h)
 clear hc hp
 by_cases h2 : 0 < o.ps.length
 · have e1 : decide (0 < o.ps.length) = true := decide_eq_true h2
   have g1 : decide ((0 : Int) < (o.ps.length : Int)) = true := decide_eq_true (by omega)
   by_cases h1 : 0 < o.cs.length
   · have e2 : decide (0 < o.cs.length) = true := decide_eq_true h1
     have g2 : decide ((0 : Int) < (o.cs.length : Int)) = true := decide_eq_true (by omega)
     have HF : Hid (foB o = false) := by show _ = _; rw [HE.out, e1, e2]; rfl
     clear HE hc1 hp1; obtain ⟨x0, x1, _⟩ := X1.two
     go_enter Tryz.func56, Tryz.ntmps56
     go_wp2
     go_ret
     exact ⟨rt_bool HF.out.symm, bl1 _⟩
   · have e2 : decide (0 < o.cs.length) = false := decide_eq_false h1
     have g2 : decide ((0 : Int) < (o.cs.length : Int)) = false := decide_eq_false (by omega)
     have HF : Hid (foB o = (coF o.cs && (decide (o.ps.length ≤ 6) && o.ps.all paF))) := by show _ = _; rw [HE.out, e2, Bool.and_false]; rfl
     clear HE
     generalize coF o.cs = q1 at *
     generalize (decide (o.ps.length ≤ 6) && o.ps.all paF) = q2 at *
     go_enter Tryz.func56, Tryz.ntmps56
     go_wp2_with fail
     rw [← hW]; clear hW
     refine hc1.mono ?_
     rintro e u1 ⟨rfl, hb1⟩
     replace hbW : Below w.heap.size w u1 := hbW.trans (hb1.mono hbW.size)
     replace hp1 := hp1 u1 hb1
     replace X1 := X1.below hb1; clear hc1 hb1; obtain ⟨x0, x1, _⟩ := X1.two
     cases q1 with
     | false =>
      go_wp2
      go_ret
      exact ⟨rt_bool HF.out.symm, hbW⟩
     | true =>
      go_wp2_with fail
      refine hp1.mono ?_
      rintro e u2 ⟨rfl, hb2⟩
      replace hbW : Below w.heap.size w u2 := hbW.trans (hb2.mono hbW.size)
      go_wp2
      go_ret
      exact ⟨rt_bool (by rw [HF.out, Bool.true_and]), hbW⟩
 · have e1 : decide (0 < o.ps.length) = false := decide_eq_false h2
   have g1 : decide ((0 : Int) < (o.ps.length : Int)) = false := decide_eq_false (by omega)
   have HF : Hid (foB o = (coF o.cs && (decide (o.ps.length ≤ 6) && o.ps.all paF))) := by show _ = _; rw [HE.out, e1, Bool.false_and]; rfl
   clear HE
   generalize coF o.cs = q1 at *
   generalize (decide (o.ps.length ≤ 6) && o.ps.all paF) = q2 at *
   go_enter Tryz.func56, Tryz.ntmps56
   go_wp2_with fail
   rw [← hW]; clear hW
   refine hc1.mono ?_
   rintro e u1 ⟨rfl, hb1⟩
   replace hbW : Below w.heap.size w u1 := hbW.trans (hb1.mono hbW.size)
   replace hp1 := hp1 u1 hb1
   replace X1 := X1.below hb1; clear hc1 hb1; obtain ⟨x0, x1, _⟩ := X1.two
   cases q1 with
   | false =>
    go_wp2
    go_ret
    exact ⟨rt_bool HF.out.symm, hbW⟩
   | true =>
    go_wp2_with fail
    refine hp1.mono ?_
    rintro e u2 ⟨rfl, hb2⟩
    replace hbW : Below w.heap.size w u2 := hbW.trans (hb2.mono hbW.size)
    go_wp2
    go_ret
    exact ⟨rt_bool (by rw [HF.out, Bool.true_and]), hbW⟩
theorem zero_size (z : Array Value) (n : Nat) : (Builtin.zeroCells z n).size = n * z.size := by simp [Builtin.zeroCells]
theorem cgrow_any (n : Nat) (w : World) (hn : n ≤ 1000000) :
    Calls Tryz.prog 168 #[.slice none 0 0, .int .i64 (n : Int)] w fun e w' => ∃ v, e = .returned v ∧ (∀ S, Gw PnE 54 w.heap.size S w' v []) ∧ Below w.heap.size w w' := by
 by_cases h0 : n = 0
 · subst h0
   go_enter Tryz.func168, Tryz.ntmps168
   go_wp2
   go_ret
   exact ⟨_, rfl, fun S => Gw.nil _ _ _ _ _, Below.refl _ _⟩
 have h1 : ¬ ((n : Int) < 0) := by omega
 have h2 : (0 : Int) < (n : Int) := by omega
 obtain ⟨i0, hi, hz0, hz1, hz2⟩ := info_parts info_pn
 have hold := run_firstCells_none (P := Tryz.prog) w.drew i0.size 0 0 0
 have hrz : ∀ ty, (Builtin.append_ #[55, 3] ty #[.slice none 0 0, .int .i64 (n : Int)]).run Tryz.prog w = _ := fun ty => Lib.run_append_grow_zeros w 55 3 ty 54 i0 _ .i64 .i64 Tryz.underlying55 Tryz.underlying3 hi hz0 none 0 0 [] hold n (by omega) (by omega) (by omega) (by omega) (by rw [hz2]; omega) (growslice_fits (by omega) (by rw [hz2]; omega))
 simp only [Nat.zero_add] at hrz
 have hGn : n ≤ grownCap w n 0 54 := grownCap_ge w _ _ _
 obtain ⟨G, hG⟩ : ∃ G, G = grownCap w n 0 54 := ⟨_, rfl⟩
 rw [← hG] at hrz hGn
 have hG63 : G ≤ 9223372036854775807 := by
  have := grownCap_le_maxLen w n 0 54 (by unfold maxLen; omega)
  rw [← hG] at this
  unfold maxLen at this
  omega
 obtain ⟨Z, hZ⟩ : ∃ Z, (([] : List Value).toArray ++ Builtin.zeroCells (Value.agg #[.int .i64 0, .int .i64 0, .bool false]).cells n ++ Builtin.zeroCells (Value.agg #[.int .i64 0, .int .i64 0, .bool false]).cells (G - n)) = Z := ⟨_, rfl⟩
 have hZs : Z.size = G * 3 := by
  rw [← hZ]
  simp only [Array.size_append, zero_size]
  show 0 + n * 3 + (G - n) * 3 = G * 3
  omega
 rw [hZ] at hrz; clear hold hG hi hz0 hz1 hz2 h0 hZ
 go_enter Tryz.func168, Tryz.ntmps168
 go_wp2_with (at_builtin; refine Lib.wpList_append_run _ rfl _ _ _ _ rfl _ _ rfl rfl _ _ (hrz _) ?_)
 go_ret
 refine ⟨_, rfl, fun S => Gw.made ⟨rfl, .inr ⟨w.heap.size, G, Z, rfl, Nat.le_refl _, ?_, Nat.zero_le _, by unfold maxLen; omega, hZs, rfl⟩⟩, ?_⟩
 · exact heap_alloc_new w _
 · exact (bl1 _).drew
theorem Gr.anyP {S S' : Nat → Prop} {w : World} {a : Option Addr} {cap : Nat} {l : List Pn} (h : Gr PnE S w a cap l) : Gr PnE S' w a cap l := by
 refine ⟨h.1, h.2.1, h.2.2.1, fun i hi => ?_⟩
 obtain ⟨b, off, vs, e, hb, hr, hc⟩ := h.2.2.2 i hi
 exact ⟨b, off, vs, e, hb, PnE_rep.2 (PnE_rep.1 hr), hc⟩
theorem flat_take_snoc {cs : List (List Pn)} {k : Nat} {c : List Pn} (hk : k < cs.length) (hc : cs.getD k [] = c) : (cs.take (k + 1)).flatten = (cs.take k).flatten ++ c := by
 rw [take_snoc (d := []) hk, List.flatten_append, List.flatten_singleton, hc]
theorem cconcat_any (S : Nat → Prop) (a : Option Addr) (ca : Nat) (cs : List (List Pn)) (w : World) (h : Gr PnE.row S w a ca cs) (hl : cs.flatten.length ≤ 100000) :
    Calls Tryz.prog 116 #[.slice a cs.length ca] w fun e w' => ∃ a' c', e = .returned (.slice a' cs.flatten.length c') ∧ Gr PnE (fun _ => True) w' a' c' cs.flatten ∧ (∀ b o, a' = some ⟨b, o, none⟩ → w.heap.size ≤ b ∧ b < w'.heap.size) ∧ Below w.heap.size w w' := by
 have k2 := h.lenB
 have HH : Hid (Gr PnE.row S w a ca cs) := h
 clear h
 go_enter Tryz.func116, Tryz.ntmps116
 go_wp2
 go_loopw [3, 11] (fun n i wr => ∃ k m : Nat, k ≤ cs.length ∧ i = .int .i64 k ∧ n = .int .i64 (m : Int) ∧ m = ((cs.take k).flatten).length ∧ w = wr) (fun _ i _ => cs.length - (intOf i).toNat)
 case atStart => exact ⟨0, 0, Nat.zero_le _, rfl, rfl, rfl, rfl⟩
 case round =>
  obtain ⟨k, m, hk, rfl, rfl, hm, rfl⟩ := hrel
  have HM : Hid (m = ((cs.take k).flatten).length) := hm
  clear hm
  by_cases hkn : k < cs.length
  · obtain ⟨b, off, a1, c1, ea, hb, d0, hrow, hlb, _⟩ := HH.out.rw (Below.refl _ _) k hkn
    subst ea
    have hst := flat_take_succ hkn
    have hle := flat_take_le cs (k + 1)
    rw [← HM.out] at hst
    obtain ⟨c, hc⟩ : ∃ c, cs.getD k [] = c := ⟨_, rfl⟩
    rw [hc] at d0 hst hlb
    have HM2 : Hid (m + c.length = ((cs.take (k + 1)).flatten).length) := hst.symm
    have hmc : m + c.length ≤ 100000 := by omega
    have i1 : (0 : Int) ≤ (k : Int) := by omega
    have i2 : (k : Int) < (cs.length : Int) := by omega
    have i3 : ¬ (m : Int) + (c.length : Int) < 0 := by omega
    clear hc hst hle hrow HM hlb; go_wp2
    go_roundw
    case rel => exact ⟨k + 1, m + c.length, by omega, by go_num, by go_num, HM2.out, trivial⟩
    case measure => simp [intOf]; omega
  · obtain rfl : k = cs.length := by omega
    have hm : m = cs.flatten.length := by rw [HM.out, List.take_length]
    have g4 : ¬ (cs.length : Int) < (cs.length : Int) := by omega
    have hgr := cgrow_any m w (by omega)
    clear HM hm
    go_wp2_with fail
    refine hgr.mono ?_
    rintro e u1 ⟨v1, rfl, hT0, hb1⟩
    have HT0 : Hid (Gw PnE 54 w.heap.size (fun _ => True) u1 v1 []) := hT0 _
    have HB1 : Hid (Below w.heap.size w u1) := hb1
    clear hgr hT0 hb1 hk hkn; go_wp2
    go_loopw [6, 27] (fun v i wr => ∃ k : Nat, k ≤ cs.length ∧ i = .int .i64 k ∧ Gw PnE 54 w.heap.size (fun _ => True) wr v ((cs.take k).flatten) ∧ Below w.heap.size w wr) (fun _ i _ => cs.length - (intOf i).toNat)
    case atStart => exact ⟨0, Nat.zero_le _, rfl, HT0.out, HB1.out⟩
    case round =>
     clear HT0 HB1; obtain ⟨k, hk, rfl, hT, hB⟩ := hrel; obtain ⟨a2, c2, rfl, hgr, hblk⟩ := hT.slice
     have HT : Hid (Gw PnE 54 w.heap.size (fun _ => True) wr (.slice a2 ((cs.take k).flatten).length c2) ((cs.take k).flatten)) := hT
     clear hT
     by_cases hkn : k < cs.length
     · obtain ⟨b, off, a1, c1, ea, hb, d0, hrow, hlb, _⟩ := HH.out.rw hB k hkn
       subst ea
       have hst := flat_take_succ hkn
       have hle := flat_take_le cs (k + 1)
       obtain ⟨c, hc⟩ : ∃ c, cs.getD k [] = c := ⟨_, rfl⟩
       have HS : Hid (_) := flat_take_snoc hkn hc
       rw [hc] at d0 hst hlb hrow
       have hll : ((cs.take k).flatten).length + c.length ≤ 1000000 := by omega
       have i1 : (0 : Int) ≤ (k : Int) := by omega
       have i2 : (k : Int) < (cs.length : Int) := by omega
       have hbs : w.heap.size ≤ wr.heap.size := hB.size
       clear hc hst hle hlb hgr hblk
       generalize (cs.take k).flatten = L at *
       go_wp2_with (at_builtin; refine wpList_append_el 55 54 Tryz.underlying55 info_pn rfl (by decide) (by decide) rfl _ _ rfl w.heap.size (fun _ => True) _ L rfl HT.out a1 c1 _ c rfl rfl hrow.anyP hll hbs ?_)
       intro v9 w9 hT9 hgrow _
       have hB9 : Below w.heap.size w w9 := hB.grown hgrow hbs (fun k hk => (HT.out.lo hk).1)
       rw [← HS.out] at hT9; clear hgrow hbs hll HS; go_wp2
       go_roundw
       case rel => exact ⟨k + 1, by omega, by go_num, hT9, hB9⟩
       case measure => simp [intOf]; omega
     · obtain rfl : k = cs.length := by omega
       rw [List.take_length] at HT hgr ⊢
       have HB2 : Hid (∀ b o, a2 = some ⟨b, o, none⟩ → w.heap.size ≤ b ∧ b < wr.heap.size) := hblk
       have g4 : ¬ (cs.length : Int) < (cs.length : Int) := by omega
       clear hblk; go_wp2
       go_ret
       exact ⟨a2, c2, rfl, hgr, HB2.out, hB⟩
theorem cpointsO_any (S : Nat → Prop) (a : Option Addr) (ca : Nat) (vb : Value) (cs : List (List Pn)) (w : World) (h : Gr PnE.row S w a ca cs) (hl : cs.flatten.length ≤ 100000) (hv : vb.cells = #[vb]) :
    Calls Tryz.prog 64 #[.agg #[.slice a cs.length ca, vb]] w fun e w' => ∃ a' c', e = .returned (.slice a' cs.flatten.length c') ∧ Gr PnE (fun _ => True) w' a' c' cs.flatten ∧ (∀ b o, a' = some ⟨b, o, none⟩ → w.heap.size ≤ b ∧ b < w'.heap.size) ∧ Below w.heap.size w w' := by
 obtain ⟨W, hW, X1, hbW⟩ : ∃ W, W = w.alloc (.cells #[.slice a cs.length ca, vb] 25) ∧ Bk 25 W w.heap.size [.slice a cs.length ca, vb] ∧ Below w.heap.size w W := ⟨_, rfl, Bk.new _ _ _, bl1 _⟩
 have hc1 := cconcat_any S a ca cs W (h.below hbW) hl
 obtain ⟨x0, x1, _⟩ := X1.two; clear X1 h
 generalize cs.flatten = L at *
 go_enter Tryz.func64, Tryz.ntmps64
 go_wp2_with fail
 rw [← hW]; clear hW
 refine hc1.mono ?_
 rintro e u1 ⟨a1, c1, rfl, hg, hblk, hb1⟩
 have HBK : Hid (∀ b o, a1 = some ⟨b, o, none⟩ → w.heap.size ≤ b ∧ b < u1.heap.size) := fun b o e => ⟨Nat.le_trans hbW.size (hblk b o e).1, (hblk b o e).2⟩
 replace hbW : Below w.heap.size w u1 := hbW.trans (hb1.mono hbW.size)
 clear hc1 hb1 hblk; go_wp2
 go_ret
 exact ⟨a1, c1, rfl, hg, HBK.out, hbW⟩
theorem endF_take {cs : List (List Pn)} {k : Nat} {c : List Pn} (hk : k < cs.length) (hc : cs.getD k [] = c) : endF 0 (cs.take (k + 1)) = endF 0 (cs.take k) ++ [(((cs.take k).flatten).length : Int) + (c.length : Int) - 1] := by
 rw [take_snoc (d := []) hk, endF_append, hc]
 simp [endF]
theorem cends_any (S : Nat → Prop) (a : Option Addr) (ca : Nat) (vb : Value) (cs : List (List Pn)) (w : World) (h : Gr PnE.row S w a ca cs) (hl : cs.flatten.length ≤ 100000) (hn : cs.length ≤ 100000) (hv : vb.cells = #[vb]) :
    Calls Tryz.prog 75 #[.agg #[.slice a cs.length ca, vb]] w fun e w' => ∃ a' c', e = .returned (.slice a' (endF 0 cs).length c') ∧ Ri w' a' c' (endF 0 cs) ∧ (∀ b o, a' = some ⟨b, o, none⟩ → w.heap.size ≤ b ∧ b < w'.heap.size) ∧ Below w.heap.size w w' := by
 obtain ⟨W, hW, X1, hbW⟩ : ∃ W, W = w.alloc (.cells #[.slice a cs.length ca, vb] 25) ∧ Bk 25 W w.heap.size [.slice a cs.length ca, vb] ∧ Below w.heap.size w W := ⟨_, rfl, Bk.new _ _ _, bl1 _⟩
 obtain ⟨i0, hi0, hz0, hz1, hz2⟩ := info_parts infoA_i64
 obtain ⟨w1, hmk, hown, hgrow⟩ := run_makeSlice_owned W w.heap.size 29 3 i0 _ 1 Tryz.underlying29 hi0 hz0 hz1 .i64 .i64 cs.length (by omega) (by rw [hz2]; omega) (by unfold maxLen; omega) hbW.size
 have hI0 : Io w.heap.size w1 (.slice (some ⟨W.heap.size, 0, none⟩) 0 cs.length) (endF 0 (cs.take 0)) := ⟨fun t ht => (by cases ht), hown⟩
 have hB1 : Below W.heap.size W w1 := (Below.refl _ _).grown hgrow (Nat.le_refl _) (fun k hk => by cases hk)
 have X2 := X1.below hB1
 obtain ⟨x0, x1, _⟩ := X1.two; obtain ⟨y0, y1, _⟩ := X2.two
 have HH : Hid (Gr PnE.row S w a ca cs) := h
 have HB0 : Hid (Below w.heap.size w w1) := hbW.trans (hB1.mono hbW.size)
 clear h hown hgrow hi0 hz0 hz1 hz2 X1 X2 hB1
 have hsz : W.heap.size = w.heap.size + 1 := by rw [hW]; simp
 rw [hsz] at hmk hI0; rw [hW] at hmk; clear hsz
 go_enter Tryz.func75, Tryz.ntmps75
 go_wp2; clear hW x0 x1 y0 y1 hbW hmk
 go_loopw [3, 4, 14] (fun v la i wr => ∃ k m : Nat, k ≤ cs.length ∧ i = .int .i64 k ∧ la = .int .i64 ((m : Int) - 1) ∧ m = ((cs.take k).flatten).length ∧ Io w.heap.size wr v (endF 0 (cs.take k)) ∧ Below w.heap.size w wr) (fun _ _ i _ => cs.length - (intOf i).toNat)
 case atStart => exact ⟨0, 0, Nat.zero_le _, rfl, rfl, rfl, hI0, HB0.out⟩
 case round =>
  clear hI0 HB0; obtain ⟨k, m, hk, rfl, rfl, hm, hT, hB⟩ := hrel; obtain ⟨a2, c2, rfl, hts⟩ := hT.slice
  have hlen : (endF 0 (cs.take k)).length = k := by rw [endF_len, List.length_take]; omega
  have HM : Hid (m = ((cs.take k).flatten).length) := hm
  have HT : Hid (Io w.heap.size wr (.slice a2 (endF 0 (cs.take k)).length c2) (endF 0 (cs.take k))) := hT
  have hll : (endF 0 (cs.take k)).length + 1 ≤ 1000000 := by omega
  clear hm hT hlen
  by_cases hkn : k < cs.length
  · obtain ⟨b, off, a1, c1, ea, hb, d0, hrow, hlb, _⟩ := HH.out.rw hB k hkn
    subst ea
    have hst := flat_take_succ hkn
    have hle := flat_take_le cs (k + 1)
    rw [← HM.out] at hst
    obtain ⟨c, hc⟩ : ∃ c, cs.getD k [] = c := ⟨_, rfl⟩
    have HS : Hid (_) := endF_take hkn hc
    rw [← HM.out] at HS; rw [hc] at d0 hst hlb
    have HM2 : Hid (m + c.length = ((cs.take (k + 1)).flatten).length) := hst.symm
    have hmc : m + c.length ≤ 100000 := by omega
    have i1 : (0 : Int) ≤ (k : Int) := by omega
    have i2 : (k : Int) < (cs.length : Int) := by omega
    obtain ⟨y, hy⟩ : ∃ y, (m : Int) + (c.length : Int) - 1 = y := ⟨_, rfl⟩
    have hy2 : (m : Int) - 1 + (c.length : Int) = y := by omega
    have HY : Hid (((m + c.length : Nat) : Int) - 1 = y) := by show _ = _; omega
    rw [hy] at HS
    have hyi : I64 y := ⟨by omega, by omega⟩
    have hT5 := HT.out.below (bl1 (.cells #[.int .i64 y] 3))
    have hN := heap_alloc_new wr (.cells #[.int .i64 y] 3)
    have n0 := cell_of_row _ wr.heap.size 0 _ _ (0, 0) hN
    have hbs : w.heap.size ≤ (wr.alloc (.cells #[.int .i64 y] 3)).heap.size := Nat.le_trans hB.size (bl1 _).size
    clear hc hst hle hrow HM hlb hN hy hts
    generalize endF 0 (cs.take k) = L at *
    go_wp2_with (at_builtin; refine wpList_append_int rfl _ _ rfl w.heap.size _ L rfl hT5 wr.heap.size y rfl n0 hyi hll hbs ?_)
    intro v' w9 hT9 hgrow
    have hB9 : Below w.heap.size w w9 := (hB.alloc hB.size _).grown hgrow hbs (fun k hk => HT.out.lo hk)
    rw [← HS.out] at hT9; clear hgrow hT5 n0 hbs hll HS; go_wp2
    go_roundw
    case rel => exact ⟨k + 1, m + c.length, by omega, by go_num, by rw [HY.out], HM2.out, hT9, hB9⟩
    case measure => simp [intOf]; omega
  · obtain rfl : k = cs.length := by omega
    rw [List.take_length] at HT hts ⊢
    have HB2 : Hid (∀ b o, a2 = some ⟨b, o, none⟩ → w.heap.size ≤ b ∧ b < wr.heap.size) := fun b o e => by
     subst e
     exact World.ownsRow.lt HT.out.2 b rfl
    have g4 : ¬ (cs.length : Int) < (cs.length : Int) := by omega
    clear HM hll; go_wp2
    go_ret
    exact ⟨a2, c2, rfl, hts, HB2.out, hB⟩
theorem Gw.mk1 {α : Type} {E : El α} {t : TypeId} (w : World) (n : Nat) (z : α) (zc : Value) (hsz : E.sz = 1) (hd : E.dfl = z) (hrep : ∀ S w, E.rep S w [zc] z) (hn : n ≤ 1000000) : Gw E t w.heap.size (fun _ => False) (w.alloc (.cells (madeCells #[zc] n) t)) (.slice (some ⟨w.heap.size, 0, none⟩) n n) (List.replicate n z) := by
 have hm : (madeCells #[zc] n).toList = List.replicate n zc := by
  refine List.ext_getElem (by simp [madeCells]) (fun i h1 h2 => ?_)
  simp [madeCells, Nat.mod_one]
 have hfl : (List.replicate n [zc]).flatten = List.replicate n zc := by
  clear hm
  induction n with
  | zero => rfl
  | succ n ih => rw [List.replicate_succ, List.flatten_cons, ih (by omega), List.replicate_succ]; rfl
 refine ⟨List.replicate n [zc], by simp, ⟨?_, .inr ⟨w.heap.size, n, madeCells #[zc] n, by rw [List.length_replicate], Nat.le_refl _, heap_alloc_new w _, by simp, by unfold maxLen; omega, ?_, ?_⟩⟩, fun i hi => ?_⟩
 · rw [hfl, List.length_replicate, List.length_replicate, hsz, Nat.mul_one]
 · rw [hsz, Nat.mul_one, size_madeCells]
 · rw [hfl, hm, List.length_replicate, hsz, Nat.mul_one]
   simp
 · rw [List.length_replicate] at hi
   have e1 : (List.replicate n [zc]).getD i [] = [zc] := by simp [List.getD, hi]
   have e2 : (List.replicate n z).getD i E.dfl = z := by simp [List.getD, hi]
   rw [e1, e2]
   exact hrep _ _
theorem ccount_any (S : Nat → Prop) (a : Option Addr) (ca : Nat) (b : Option Addr) (cb : Nat) (o : Ol) (w : World) (hc : Gr PnE.row S w a ca o.cs) (hp : Gr PaE S w b cb o.ps) (hl : o.cs.flatten.length ≤ 100000) (hl2 : o.ps.length ≤ 100000) :
    Calls Tryz.prog 50 #[.agg #[.slice a o.cs.length ca, .slice b o.ps.length cb]] w fun e w' => e = .returned (.int .i64 (cntO o : Int)) ∧ Below w.heap.size w w' := by
 have k2 := hc.lenB
 obtain ⟨W, hW, X1, hbW⟩ : ∃ W, W = w.alloc (.cells #[.slice a o.cs.length ca, .slice b o.ps.length cb] 25) ∧ Bk 25 W w.heap.size [.slice a o.cs.length ca, .slice b o.ps.length cb] ∧ Below w.heap.size w W := ⟨_, rfl, Bk.new _ _ _, bl1 _⟩
 obtain ⟨x0, x1, _⟩ := X1.two
 have HH : Hid (Gr PnE.row S W a ca o.cs) := hc.below hbW
 have HC : Hid (cntO o = o.ps.length + ofC o.cs o.cs.length) := by show _ = _; rw [ofC_all]; rfl
 clear hc hp X1; obtain ⟨cs, ps⟩ := o
 dsimp only at *
 go_enter Tryz.func50, Tryz.ntmps50
 go_upto_region 1 with fail
 rw [← hW]; clear hW; go_wp2; clear x0 x1
 go_loopw [3, 12] (fun c i wr => ∃ k : Nat, k ≤ cs.length ∧ i = .int .i64 k ∧ c = .int .i64 ((ps.length + ofC cs k : Nat) : Int) ∧ W = wr) (fun _ i _ => cs.length - (intOf i).toNat)
 case atStart => exact ⟨0, Nat.zero_le _, rfl, rfl, rfl⟩
 case round =>
  obtain ⟨k, hk, rfl, rfl, rfl⟩ := hrel
  by_cases hkn : k < cs.length
  · obtain ⟨b0, off, a1, c1, ea, hb, d0, hrow, hlb, _⟩ := HH.out.rw (Below.refl _ _) k hkn
    subst ea
    have hst := ofC_succ hkn
    have hle := ofC_le cs (k + 1)
    obtain ⟨m, hm⟩ : ∃ m, (cs.getD k []).length = m := ⟨_, rfl⟩
    rw [hm] at d0 hst
    obtain ⟨x, hx⟩ : ∃ x, ofC cs k = x := ⟨_, rfl⟩
    obtain ⟨y, hy⟩ : ∃ x, ofC cs (k + 1) = x := ⟨_, rfl⟩
    have HY : Hid (ofC cs (k + 1) = y) := hy
    rw [hx, hy] at hst; rw [hy] at hle; rw [hx]
    have i1 : (0 : Int) ≤ (k : Int) := by omega
    have i2 : (k : Int) < (cs.length : Int) := by omega
    have hs : ((ps.length + x : Nat) : Int) + (m : Int) = ((ps.length + y : Nat) : Int) := by omega
    clear hm hx hy hrow hlb; go_wp2
    go_roundw
    case rel => exact ⟨k + 1, by omega, by go_num, by rw [HY.out]; exact congrArg (Value.int .i64) (by omega), trivial⟩
    case measure => simp [intOf]; omega
  · obtain rfl : k = cs.length := by omega
    have g4 : ¬ (cs.length : Int) < (cs.length : Int) := by omega
    rw [← HC.out]; go_wp2
    go_ret
    exact ⟨rfl, hbW⟩
theorem rising_any (a : Option Addr) (ca : Nat) (pts : List Int) (n : Nat) (w : World) (h : Ri w a ca pts) (hn : n ≤ 1000000) :
    Calls Tryz.prog 70 #[.slice a pts.length ca, .int .i64 (n : Int)] w fun e w' => e = .returned (.bool (risB pts n)) ∧ w = w' := by
 have k2 := h.lenB
 have HH : Hid (Ri w a ca pts) := h
 clear h
 go_enter Tryz.func70, Tryz.ntmps70
 go_wp2
 go_loopw [5, 10] (fun l i wr => ∃ k : Nat, k ≤ pts.length ∧ i = .int .i64 k ∧ l = .int .i64 (lastI pts k) ∧ (∀ j, j < k → risP pts n j) ∧ w = wr) (fun _ i _ => pts.length - (intOf i).toNat)
 case atStart => exact ⟨0, Nat.zero_le _, rfl, rfl, (fun j hj => by omega), rfl⟩
 case round =>
  obtain ⟨k, hk, rfl, rfl, hok, rfl⟩ := hrel
  have HOK : Hid (∀ j, j < k → risP pts n j) := hok
  clear hok
  by_cases hkn : k < pts.length
  · obtain ⟨b, off, ea, hb, d0⟩ := HH.out.at (Below.refl _ _) k hkn
    have hzi := HH.out.i64 hkn
    subst ea
    have HL : Hid (lastI pts (k + 1) = pts.getD k 0) := by show _ = _; unfold lastI; rw [if_neg (by omega), Nat.add_sub_cancel]
    obtain ⟨z, hzz⟩ : ∃ z, pts.getD k 0 = z := ⟨_, rfl⟩
    obtain ⟨l, hll⟩ : ∃ z, lastI pts k = z := ⟨_, rfl⟩
    have HP : Hid (risP pts n k ↔ l < z ∧ z < (n : Int)) := by show _ ↔ _; unfold risP; rw [hzz, hll]
    rw [hzz] at d0 HL hzi; rw [hll]
    have i1 : (0 : Int) ≤ (k : Int) := by omega
    have i2 : (k : Int) < (pts.length : Int) := by omega
    clear hzz hll
    by_cases h1 : l < z
    · have g1 : ¬ z ≤ l := by omega
      have g1b : decide (z ≤ l) = false := decide_eq_false g1
      by_cases h2 : z < (n : Int)
      · have g2 : decide (z ≥ (n : Int)) = false := decide_eq_false (by omega)
        have HOK2 : Hid (∀ j, j < k + 1 → risP pts n j) := upto_succ HOK.out (HP.out.2 ⟨h1, h2⟩)
        clear HOK HP; go_wp2
        go_roundw
        case rel => exact ⟨k + 1, by omega, by go_num, by rw [HL.out], HOK2.out, trivial⟩
        case measure => simp [intOf]; omega
      · have g2 : decide (z ≥ (n : Int)) = true := decide_eq_true (by omega)
        have HF : Hid (risB pts n = false) := risB_no hkn (fun h => h2 (HP.out.1 h).2)
        clear HOK HP; go_wp2
        go_ret
        exact ⟨rt_bool HF.out.symm, rfl⟩
    · have g1 : z ≤ l := by omega
      have g1b : decide (z ≤ l) = true := decide_eq_true g1
      have HF : Hid (risB pts n = false) := risB_no hkn (fun h => h1 (HP.out.1 h).1)
      clear HOK HP; go_wp2
      go_ret
      exact ⟨rt_bool HF.out.symm, rfl⟩
  · obtain rfl : k = pts.length := by omega
    have HF : Hid (risB pts n = true) := risB_yes HOK.out
    have g1 : ¬ (pts.length : Int) < (pts.length : Int) := by omega
    clear HOK; go_wp2
    go_ret
    exact ⟨rt_bool HF.out.symm, rfl⟩
theorem laidOut_any (a : Option Addr) (ca : Nat) (pts : List Int) (b : Option Addr) (cb : Nat) (told : List Int) (n : Nat) (w : World) (h : Ri w a ca pts) (h2 : Ri w b cb told) (hl : told.length = pts.length) (hr : risB pts n = true) (hn : n ≤ 1000) :
    Calls Tryz.prog 72 #[.slice a pts.length ca, .slice b told.length cb, .int .i64 (n : Int)] w fun e w' => ∃ a' c', e = .returned (.slice a' (layI pts told n pts.length).length c') ∧ Ri w' a' c' (layI pts told n pts.length) ∧ Below w.heap.size w w' := by
 have k2 := h.lenB
 have HH : Hid (Ri w a ca pts) := h
 have H2 : Hid (Ri w b cb told) := h2
 have HR : Hid (∀ k, k < pts.length → risP pts n k) := risB_iff.1 hr
 have HL : Hid (told.length = pts.length) := hl
 rw [hl]; clear h h2 hr hl
 obtain ⟨i0, hi0, hz0, hz1, hz2⟩ := info_parts infoA_i64
 have hmk := run_make (P := Tryz.prog) w 29 3 i0 (.int .i64 0) Tryz.underlying29 hi0 hz0 .i64 .i64 (n : Int) (n : Int) (by omega) (by omega) (by rw [hz2]; omega) (by omega)
 rw [hz1] at hmk
 simp only [Int.toNat_natCast, Nat.mul_one] at hmk
 have hI0 : Gw El.int 3 w.heap.size (fun _ => False) (w.alloc (.cells (madeCells #[.int .i64 0] n) 3)) (.slice (some ⟨w.heap.size, 0, none⟩) n n) (layI pts told n 0) := Gw.mk1 w n 0 (.int .i64 0) rfl rfl (fun S w => ⟨rfl, by decide, by decide⟩) (by omega)
 have hB0 : Below w.heap.size w (w.alloc (.cells (madeCells #[.int .i64 0] n) 3)) := bl1 _
 replace hmk : (Instr.makeSlice 29 (.int .i64 (n : Int)) (.int .i64 (n : Int))).run Tryz.prog w = .ok (.slice (some ⟨w.heap.size, 0, none⟩) n n) (w.alloc (.cells (madeCells #[.int .i64 0] n) 3)) := hmk
 generalize w.alloc (.cells (madeCells #[.int .i64 0] n) 3) = w1 at *
 clear hi0 hz0 hz1 hz2
 go_enter Tryz.func72, Tryz.ntmps72
 go_wp2
 go_loopw [14] (fun i wr => ∃ k : Nat, k ≤ pts.length ∧ i = .int .i64 k ∧ Gw El.int 3 w.heap.size (fun _ => False) wr (.slice (some ⟨w.heap.size, 0, none⟩) n n) (layI pts told n k) ∧ Below w.heap.size w wr) (fun i _ => pts.length - (intOf i).toNat)
 case atStart => exact ⟨0, Nat.zero_le _, rfl, hI0, hB0⟩
 case round =>
  clear hI0 hB0 hmk; obtain ⟨k, hk, rfl, hG, hB⟩ := hrel
  by_cases hkn : k < pts.length
  · obtain ⟨b0, off, ea, hb, d0⟩ := HH.out.at hB k hkn
    subst ea
    obtain ⟨b1, off1, ea, hb1, d1⟩ := H2.out.at hB k (by rw [HL.out]; exact hkn)
    subst ea
    have hzi := H2.out.i64 (k := k) (by rw [HL.out]; exact hkn)
    have hp := risP_nonneg k (fun j hj => HR.out j (by omega))
    have HS : Hid (layI pts told n (k + 1) = (layI pts told n k).set (pts.getD k 0).toNat (told.getD k 0)) := rfl
    obtain ⟨p, hpp⟩ : ∃ p : Nat, pts.getD k 0 = (p : Int) := ⟨(pts.getD k 0).toNat, by omega⟩
    rw [hpp] at d0 hp HS; rw [Int.toNat_natCast] at HS
    obtain ⟨z, hzz⟩ : ∃ z, told.getD k 0 = z := ⟨_, rfl⟩
    rw [hzz] at d1 hzi HS
    have hne : layI pts told n k ≠ [] := fun e => by have := layI_len pts told n k; rw [e] at this; simp at this; omega
    obtain ⟨g, cap, e5, h5, h6, h7, hfz, hrd, hset⟩ := hG.own hne
    injection e5 with e5 e6 e7; injection e5 with e5; injection e5 with e5; subst e5
    have hfp := hfz p
    have hsw := hset p 0 (.int .i64 z) z (by rw [layI_len]; omega) Nat.one_pos (fun S' vs hv => by rw [hv.1]; exact ⟨rfl, hzi⟩)
    rw [show p * El.int.sz + 0 = p from Nat.mul_one p, ← HS.out] at hsw
    obtain ⟨vs, hrx, hcx⟩ := hrd p (by rw [layI_len]; omega)
    have hc0 := hcx 0 Nat.one_pos
    rw [hrx.1, show p * El.int.sz + 0 = p from Nat.mul_one p] at hc0
    have hBs : Below w.heap.size w (wr.setCell ⟨w.heap.size, p, none⟩ (.int .i64 z)) := hB.setCell (p := ⟨w.heap.size, p, none⟩) (Nat.le_refl _) _
    have i1 : (0 : Int) ≤ (k : Int) := by omega
    have i2 : (k : Int) < (pts.length : Int) := by omega
    have i3 : (0 : Int) ≤ (p : Int) := by omega
    have i4 : (p : Int) < (n : Int) := by omega
    have HSW : Hid (Gw El.int 3 w.heap.size (fun _ => False) (wr.setCell ⟨w.heap.size, p, none⟩ (.int .i64 z)) (.slice (some ⟨w.heap.size, 0, none⟩) n n) (layI pts told n (k + 1))) := hsw
    have HBS : Hid (Below w.heap.size w (wr.setCell ⟨w.heap.size, p, none⟩ (.int .i64 z))) := hBs
    clear hset hfz hrd hsw hBs hpp hzz hcx hrx hG hne e6 e7 h7; go_wp2
    go_roundw
    case rel => exact ⟨k + 1, by omega, by go_num, HSW.out, HBS.out⟩
    case measure => simp [intOf]; omega
  · obtain rfl : k = pts.length := by omega
    have g1 : ¬ (pts.length : Int) < (pts.length : Int) := by omega
    obtain ⟨a9, c9, e9, hg9, _⟩ := hG.slice
    have hri := hg9.ri
    have HLL : Hid ((layI pts told n pts.length).length = n) := layI_len _ _ _ _
    rw [HLL.out] at e9; injection e9 with e1 e2 e3; subst e1 e3
    have HRI : Hid (Ri wr (some ⟨w.heap.size, 0, none⟩) n (layI pts told n pts.length)) := hri
    clear hri hg9 hG; go_wp2
    go_ret
    exact ⟨_, n, by rw [HLL.out]; rfl, HRI.out, hB⟩
end Go.Proofs.YtngmcghmniakeaaGreat
