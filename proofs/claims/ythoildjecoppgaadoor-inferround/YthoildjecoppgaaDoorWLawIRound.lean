/-
  foundrylaw13.InferRound: the walk.
-/
import Derived.Test.YthoildjecoppgaaDoorWLawIAlike
namespace Go.Proofs.YthoildjecoppgaaDoor
open Go.RowKit Go.Maps
set_option linter.unusedSimpArgs false
set_option linter.unusedVariables false

/-- A list that is read elsewhere. -/
def tk {α : Type} (l : List α) (z : α) (f : Nat → Nat) (k : Nat) : List α := (List.range k).map (fun j => l.getD (f j) z)
theorem tk_succ {α : Type} (l : List α) (z : α) (f : Nat → Nat) (k : Nat) : tk l z f (k + 1) = tk l z f k ++ [l.getD (f k) z] := rg_succ _ k
theorem tk_len {α : Type} (l : List α) (z : α) (f : Nat → Nat) (k : Nat) : (tk l z f k).length = k := by simp [tk]
theorem tk_get {α : Type} (l : List α) (z : α) (f : Nat → Nat) (k j : Nat) (hj : j < k) : (tk l z f k).getD j z = l.getD (f j) z := by simp [tk, List.getD, hj]
theorem tk_fd {l : List Int} (h : ∀ z ∈ l, -32768 ≤ z ∧ z ≤ 32767) (f : Nat → Nat) (k : Nat) : ∀ z ∈ tk l 0 f k, -32768 ≤ z ∧ z ≤ 32767 := by
  intro z hz
  obtain ⟨j, _, rfl⟩ := List.mem_map.1 hz
  exact fd_getD h _
theorem Rl.cell {w u : World} {b off cap : Nat} {zs : List Bool} (h : Rl w (some ⟨b, off, none⟩) cap zs) (hb : Below w.heap.size w u) {k : Nat} (hk : k < zs.length) {z : Bool} (hz : zs.getD k false = z) : u.cell? ⟨b, off + k, none⟩ = some (.bool z) := by
  obtain ⟨b', off', e, _, d⟩ := h.at hb k hk
  cases e
  rw [d, hz]
theorem wrap_ok {z : Int} (h : -9223372036854775808 ≤ z ∧ z ≤ 9223372036854775807) : IntKind.i64.wrap z = z := by
  unfold IntKind.wrap
  simp [IntKind.bits, IntKind.signed]
  omega

set_option maxHeartbeats 8000000 in
set_option maxRecDepth 100000 in
theorem inferRound_any (a : Option Addr) (ca : Nat) (ns : List Int) (ta : Option Addr) (tc : Nat) (ts : List Bool) (da : Option Addr) (dc : Nat) (cs : List Int) (by' : Nat) (w : World) (hn : Rh w a ca ns) (ht : Rl w ta tc ts) (hc : Rh w da dc cs) (hby : by' < 256) (htab : Pow w) :
    Calls Tryd.prog 4 #[.slice a ns.length ca, .slice ta ts.length tc, .agg #[.slice da cs.length dc, .int .u8 (by' : Int)]] w fun e w' => e = .returned (.bool true) ∧ Below w.heap.size w w' := by
  have b1 := hn.lenB
  have b2 := ht.lenB
  have b3 := hc.lenB
  have HB : Hid (Pow w) := htab
  have HN : Hid (Rh w a ca ns) := hn
  have HT : Hid (Rl w ta tc ts) := ht
  have HC : Hid (Rh w da dc cs) := hc
  obtain ⟨W, hW, X1, hbW⟩ : ∃ W, W = w.alloc (.cells #[.slice da cs.length dc, .int .u8 (by' : Int)] 38) ∧ Bk 38 W w.heap.size [.slice da cs.length dc, .int .u8 (by' : Int)] ∧ Below w.heap.size w W := ⟨_, rfl, Bk.new _ _ _, bl1 _⟩
  clear htab hn ht hc
  go_enter Tryd.func4, Tryd.ntmps4
  go_wp2_with fail
  rw [← hW]
  clear hW
  refine (awake13_any _ (HB.out.below hbW)).mono ?_
  rintro e m1 ⟨rfl, hb9⟩
  replace X1 := X1.below hb9
  replace hbW := hbW.trans (hb9.mono hbW.size)
  clear hb9
  obtain ⟨p0, p1, _⟩ := X1.two
  by_cases h0 : ns.length = 0
  · clear HN HT HC
    rw [h0]
    clear h0 X1 p0 p1
    go_wp2_with fail
    refine (awake13_any _ (HB.out.below hbW)).mono ?_
    rintro e v9 ⟨rfl, hb9⟩
    replace hbW := hbW.trans (hb9.mono hbW.size)
    clear hb9
    go_wp2
    go_ret
    exact ⟨rfl, hbW⟩
  by_cases h80 : ns.length ≤ 80
  rotate_left
  · clear HN HT HC
    generalize ns.length = n at *
    generalize ts.length = m at *
    generalize cs.length = m2 at *
    have g0 : ((n : Int) == 0) = false := by simp; omega
    have g1 : (n : Int) > 80 := by omega
    have g1b : decide ((n : Int) > 80) = true := decide_eq_true g1
    clear X1 p0 p1
    go_wp2_with fail
    refine (awake13_any _ (HB.out.below hbW)).mono ?_
    rintro e v9 ⟨rfl, hb9⟩
    replace hbW := hbW.trans (hb9.mono hbW.size)
    clear hb9
    go_wp2
    go_ret
    exact ⟨rfl, hbW⟩
  by_cases hl : ts.length = ns.length
  rotate_left
  · clear HN HT HC
    generalize ns.length = n at *
    generalize ts.length = m at *
    generalize cs.length = m2 at *
    have g0 : ((n : Int) == 0) = false := by simp; omega
    have g1 : ¬ (n : Int) > 80 := by omega
    have g2 : ((m : Int) != (n : Int)) = true := by simp; omega
    clear X1 p0 p1
    go_wp2_with fail
    refine (awake13_any _ (HB.out.below hbW)).mono ?_
    rintro e v9 ⟨rfl, hb9⟩
    replace hbW := hbW.trans (hb9.mono hbW.size)
    clear hb9
    go_wp2
    go_ret
    exact ⟨rfl, hbW⟩
  by_cases hl2 : cs.length = ns.length
  rotate_left
  · clear HN HT HC
    rw [hl]
    generalize ns.length = n at *
    generalize cs.length = m2 at *
    have g0 : ((n : Int) == 0) = false := by simp; omega
    have g1 : ¬ (n : Int) > 80 := by omega
    have g2 : ((m2 : Int) != (n : Int)) = true := by simp; omega
    clear X1
    go_wp2_with fail
    refine (awake13_any _ (HB.out.below hbW)).mono ?_
    rintro e v9 ⟨rfl, hb9⟩
    replace hbW := hbW.trans (hb9.mono hbW.size)
    clear hb9
    go_wp2
    go_ret
    exact ⟨rfl, hbW⟩
  obtain ⟨n, hnn⟩ : ∃ n, ns.length = n := ⟨_, rfl⟩
  have HL : Hid (ns.length = n ∧ ts.length = n ∧ cs.length = n) := ⟨hnn, by omega, by omega⟩
  rw [hl]
  rw [hl2] at p0 X1
  rw [hnn] at h80 h0 p0 X1 ⊢
  have g0 : ((n : Int) == 0) = false := by simp; omega
  have g0b : ¬ ((n : Int) = 0) := by omega
  have g1 : ¬ (n : Int) > 80 := by omega
  obtain ⟨d, hd⟩ : ∃ d, by' % n = d := ⟨_, rfl⟩
  have q0 := rem_nat by' n
  rw [hd] at q0
  have hdn : d < n := by rw [← hd]; exact Nat.mod_lt _ (by omega)
  have HX : Hid (Bk 38 m1 w.heap.size [.slice da n dc, .int .u8 (by' : Int)]) := X1
  have HXL : Hid (w.heap.size < m1.heap.size) := X1.lt
  clear hl hl2 hnn b1 b2 b3 hd X1
  go_wp2
  clear p0 p1
  go_loopw [8, 9, 17] (fun va vb i wr => ∃ k : Nat, k ≤ n ∧ i = .int .i64 k ∧ Fam El.int 3 m1.heap.size wr [va, vb] [ns.take k, cs.take k] ∧ Below m1.heap.size m1 wr) (fun _ _ i _ => n - (intOf i).toNat)
  case atStart => exact ⟨0, Nat.zero_le _, rfl, Fam.two _ _ _ _, Below.refl _ _⟩
  case round =>
    obtain ⟨k, hk, rfl, fam, hB⟩ := hrel
    by_cases hkn : k < n
    · obtain ⟨b0, o0, e0, hb0, d0⟩ := HN.out.at (hbW.trans (hB.mono hbW.size)) k (by rw [HL.out.1]; exact hkn)
      have hz0 := HN.out.in (k := k) (by rw [HL.out.1]; exact hkn)
      have hx0 := HC.out.in (k := k) (by rw [HL.out.2.2]; exact hkn)
      have HTK : Hid (ns.take (k + 1) = ns.take k ++ [ns.getD k 0]) := take_get (by rw [HL.out.1]; exact hkn)
      have HCK : Hid (cs.take (k + 1) = cs.take k ++ [cs.getD k 0]) := take_get (by rw [HL.out.2.2]; exact hkn)
      subst e0
      obtain ⟨z, hz⟩ : ∃ z, ns.getD k 0 = z := ⟨_, rfl⟩
      obtain ⟨x, hx⟩ : ∃ z, cs.getD k 0 = z := ⟨_, rfl⟩
      have HX2 : Hid (cs.getD k 0 = x) := hx
      rw [hz] at d0 hz0 HTK
      rw [hx] at hx0 HCK
      have hz1 : I64 z := by unfold I64; omega
      have hz2 : I64 x := by unfold I64; omega
      have hll1 : (ns.take k).length + 1 ≤ 1000000 := by rw [List.length_take]; omega
      have hll2 : (cs.take k).length + 1 ≤ 1000000 := by rw [List.length_take]; omega
      have i1 : (0 : Int) ≤ (k : Int) := by omega
      have i2 : (k : Int) < (n : Int) := by omega
      clear hz hx
      obtain ⟨V1, hV1, c1, hbV1, hlV1⟩ : ∃ V, V = wr.alloc (.cells #[.int .i64 z] 3) ∧ V.cell? ⟨wr.heap.size, 0, none⟩ = some (.int .i64 z) ∧ Below wr.heap.size wr V ∧ wr.heap.size < V.heap.size := ⟨_, rfl, cell_of_row _ _ 0 _ _ (0, 0) (heap_alloc_new _ _), bl1 _, by simp⟩
      have famv1 := fam.below hbV1
      have hown1 : Gw El.int 3 m1.heap.size (fun _ => False) V1 u8 (ns.take k) := famv1.row 0 (by simp)
      have hbs1 : m1.heap.size ≤ V1.heap.size := Nat.le_trans hB.size hbV1.size
      have hBV1 : Below m1.heap.size m1 V1 := hB.trans (hbV1.mono hB.size)
      go_wp2_with (at_builtin; rw [← hV1]; refine wpList_append_gi rfl _ _ rfl m1.heap.size u8 (ns.take k) rfl hown1 wr.heap.size z rfl hlV1 c1 hz1 hll1 hbs1 ?_)
      intro v1 y1 hT1 hg1 ho1
      rw [← hV1] at hg1
      rw [show wr.heap.size + 1 = V1.heap.size by rw [hV1]; simp] at ho1
      replace hB : Below m1.heap.size m1 y1 := hBV1.grown hg1 hbs1 (fun g hg => (hown1.lo hg).1)
      replace fam : Fam El.int 3 m1.heap.size y1 [v1, u9] [((ns.take k) ++ [z]), (cs.take k)] := famv1.grow 0 (by simp) hT1 hg1 ho1
      clear hV1 c1 hlV1 famv1 hbs1 hBV1 hT1 hll1
      obtain ⟨b5, o5, e5, hb5, d5⟩ := HC.out.at (hbW.trans (hB.mono hbW.size)) k (by rw [HL.out.2.2]; exact hkn)
      subst e5
      rw [HX2.out] at d5
      obtain ⟨p0, p1, _⟩ := (HX.out.below hB).two
      obtain ⟨V2, hV2, c2, hbV2, hlV2⟩ : ∃ V, V = y1.alloc (.cells #[.int .i64 x] 3) ∧ V.cell? ⟨y1.heap.size, 0, none⟩ = some (.int .i64 x) ∧ Below y1.heap.size y1 V ∧ y1.heap.size < V.heap.size := ⟨_, rfl, cell_of_row _ _ 0 _ _ (0, 0) (heap_alloc_new _ _), bl1 _, by simp⟩
      have famv2 := fam.below hbV2
      have hown2 : Gw El.int 3 m1.heap.size (fun _ => False) V2 u9 (cs.take k) := famv2.row 1 (by simp)
      have hbs2 : m1.heap.size ≤ V2.heap.size := Nat.le_trans hB.size hbV2.size
      have hBV2 : Below m1.heap.size m1 V2 := hB.trans (hbV2.mono hB.size)
      go_wp2_with (at_builtin; rw [← hV2]; refine wpList_append_gi rfl _ _ rfl m1.heap.size u9 (cs.take k) rfl hown2 y1.heap.size x rfl hlV2 c2 hz2 hll2 hbs2 ?_)
      intro v2 y2 hT2 hg2 ho2
      rw [← hV2] at hg2
      rw [show y1.heap.size + 1 = V2.heap.size by rw [hV2]; simp] at ho2
      replace hB : Below m1.heap.size m1 y2 := hBV2.grown hg2 hbs2 (fun g hg => (hown2.lo hg).1)
      replace fam : Fam El.int 3 m1.heap.size y2 [v1, v2] [((ns.take k) ++ [z]), ((cs.take k) ++ [x])] := famv2.grow 1 (by simp) hT2 hg2 ho2
      clear hV2 c2 hlV2 famv2 hbs2 hBV2 hT2 hll2
      have FAM : Hid (Fam El.int 3 m1.heap.size y2 [v1, v2] [ns.take (k + 1), cs.take (k + 1)]) := by
        rw [HTK.out, HCK.out]
        exact fam
      have HBB : Hid (Below m1.heap.size m1 y2) := hB
      clear fam hB hz0 hz1 hz2 d0 d5 p0 p1
      go_wp2
      go_roundw
      case rel => exact ⟨k + 1, by omega, by go_num, FAM.out, HBB.out⟩
      case measure => simp [intOf]; omega
    · obtain rfl : k = n := by omega
      have g4 : ¬ (k : Int) < (k : Int) := by omega
      have hra : Gi m1.heap.size wr u8 (ns.take k) := fam.row 0 (by simp)
      have hrb : Gi m1.heap.size wr u9 (cs.take k) := fam.row 1 (by simp)
      rw [show ns.take k = ns by rw [← HL.out.1, List.take_length]] at hra
      rw [show cs.take k = cs by rw [← HL.out.2.2, List.take_length]] at hrb
      obtain ⟨aa, cc, rfl, hra, -⟩ := hra.slice
      obtain ⟨ab, cb, rfl, hrb, -⟩ := hrb.slice
      have hBw : Below w.heap.size w wr := hbW.trans (hB.mono hbW.size)
      have HRA : Hid (Ri wr aa cc ns) := hra
      have HRB : Hid (Ri wr ab cb cs) := hrb
      have HRT : Hid (Rl wr ta tc ts) := HT.out.below hBw
      have HBW : Hid (Below w.heap.size w wr) := hBw
      rw [HL.out.1, HL.out.2.2]
      clear fam hra hrb hB hBw hbW
      rename World => m3
      go_wp2
      go_loopw [10, 11, 12, 13, 14, 15, 18] (fun vc vd ve vf vg vh i w9 => ∃ j : Nat, j ≤ k ∧ i = .int .i64 j ∧ Fam El.int 3 m3.heap.size w9 [vc, vd, ve, vf] [tk ns 0 (fun j => (j + d) % k) j, tk cs 0 (fun j => (j + d) % k) j, tk ns 0 (fun j => k - 1 - j) j, tk cs 0 (fun j => k - 1 - j) j] ∧ Fam El.bool 4 m3.heap.size w9 [vg, vh] [tk ts false (fun j => (j + d) % k) j, tk ts false (fun j => k - 1 - j) j] ∧ Below m3.heap.size m3 w9) (fun _ _ _ _ _ _ i _ => k - (intOf i).toNat)
      case atStart => exact ⟨0, Nat.zero_le _, rfl, Fam.four _ _ _ _, Fam.two _ _ _ _, Below.refl _ _⟩
      case round =>
        obtain ⟨j, hj, rfl, fam, famb, hB⟩ := hrel
        by_cases hjn : j < k
        · have q1 := rem_nat (j + d) k
          obtain ⟨kk, hkk⟩ : ∃ x, (j + d) % k = x := ⟨_, rfl⟩
          have hkl : kk < k := by rw [← hkk]; exact Nat.mod_lt _ (by omega)
          have HKK : Hid ((j + d) % k = kk) := hkk
          rw [hkk, show ((j + d : Nat) : Int) = (j : Int) + (d : Int) by omega] at q1
          obtain ⟨r, hr⟩ : ∃ x, k - 1 - j = x := ⟨_, rfl⟩
          have HR : Hid (k - 1 - j = r) := hr
          have hri : (k : Int) - 1 - (j : Int) = (r : Int) := by omega
          have hrl : r < k := by omega
          obtain ⟨b0, o0, e0, hb0, -⟩ := HRA.out.at hB kk (by rw [HL.out.1]; exact hkl)
          subst e0
          obtain ⟨b1, o1, e1, hb1, -⟩ := HRB.out.at hB kk (by rw [HL.out.2.2]; exact hkl)
          subst e1
          obtain ⟨b2, o2, e2, hb2, -⟩ := HRT.out.at hB kk (by rw [HL.out.2.1]; exact hkl)
          subst e2
          have HKA : Hid (kk < ns.length ∧ kk < cs.length ∧ kk < ts.length ∧ r < ns.length ∧ r < cs.length ∧ r < ts.length) := by
            obtain ⟨x1, x2, x3⟩ := HL.out
            exact ⟨by omega, by omega, by omega, by omega, by omega, by omega⟩
          have t1 := fd_getD HN.out.1 kk
          have t2 := fd_getD HC.out.1 kk
          have t4 := fd_getD HN.out.1 r
          have t5 := fd_getD HC.out.1 r
          obtain ⟨z1, e1⟩ : ∃ z, ns.getD kk 0 = z := ⟨_, rfl⟩
          obtain ⟨z2, e2⟩ : ∃ z, cs.getD kk 0 = z := ⟨_, rfl⟩
          obtain ⟨z3, e3⟩ : ∃ z, ts.getD kk false = z := ⟨_, rfl⟩
          obtain ⟨z4, e4⟩ : ∃ z, ns.getD r 0 = z := ⟨_, rfl⟩
          obtain ⟨z5, e5⟩ : ∃ z, cs.getD r 0 = z := ⟨_, rfl⟩
          obtain ⟨z6, e6⟩ : ∃ z, ts.getD r false = z := ⟨_, rfl⟩
          rw [e1] at t1
          rw [e2] at t2
          rw [e4] at t4
          rw [e5] at t5
          have HE : Hid (ns.getD kk 0 = z1 ∧ cs.getD kk 0 = z2 ∧ ts.getD kk false = z3 ∧ ns.getD r 0 = z4 ∧ cs.getD r 0 = z5 ∧ ts.getD r false = z6) := ⟨e1, e2, e3, e4, e5, e6⟩
          have hz1 : I64 z1 := by unfold I64; omega
          have hz2 : I64 z2 := by unfold I64; omega
          have hz4 : I64 z4 := by unfold I64; omega
          have hz5 : I64 z5 := by unfold I64; omega
          have hll1 : (tk ns 0 (fun j => (j + d) % k) j).length + 1 ≤ 1000000 := by rw [tk_len]; omega
          have hll2 : (tk cs 0 (fun j => (j + d) % k) j).length + 1 ≤ 1000000 := by rw [tk_len]; omega
          have hll3 : (tk ts false (fun j => (j + d) % k) j).length + 1 ≤ 1000000 := by rw [tk_len]; omega
          have hll4 : (tk ns 0 (fun j => k - 1 - j) j).length + 1 ≤ 1000000 := by rw [tk_len]; omega
          have hll5 : (tk cs 0 (fun j => k - 1 - j) j).length + 1 ≤ 1000000 := by rw [tk_len]; omega
          have hll6 : (tk ts false (fun j => k - 1 - j) j).length + 1 ≤ 1000000 := by rw [tk_len]; omega
          have HS1 : Hid (_) := tk_succ ns 0 (fun j => (j + d) % k) j
          have HS2 : Hid (_) := tk_succ cs 0 (fun j => (j + d) % k) j
          have HS3 : Hid (_) := tk_succ ts false (fun j => (j + d) % k) j
          have HS4 : Hid (_) := tk_succ ns 0 (fun j => k - 1 - j) j
          have HS5 : Hid (_) := tk_succ cs 0 (fun j => k - 1 - j) j
          have HS6 : Hid (_) := tk_succ ts false (fun j => k - 1 - j) j
          generalize hL1 : tk ns 0 (fun j => (j + d) % k) j = L1 at *
          generalize hL2 : tk cs 0 (fun j => (j + d) % k) j = L2 at *
          generalize hL3 : tk ts false (fun j => (j + d) % k) j = L3 at *
          generalize hL4 : tk ns 0 (fun j => k - 1 - j) j = L4 at *
          generalize hL5 : tk cs 0 (fun j => k - 1 - j) j = L5 at *
          generalize hL6 : tk ts false (fun j => k - 1 - j) j = L6 at *
          have i1 : (0 : Int) ≤ (kk : Int) := by omega
          have i2 : (kk : Int) < (k : Int) := by omega
          have i3 : (0 : Int) ≤ (r : Int) := by omega
          have i4 : (r : Int) < (k : Int) := by omega
          clear e1 e2 e3 e4 e5 e6 hkk hr hL1 hL2 hL3 hL4 hL5 hL6
          have f1 := HRA.out.cell hB HKA.out.1 HE.out.1
          obtain ⟨V1, hV1, c1, hbV1, hlV1⟩ : ∃ V, V = wr.alloc (.cells #[.int .i64 z1] 3) ∧ V.cell? ⟨wr.heap.size, 0, none⟩ = some (.int .i64 z1) ∧ Below wr.heap.size wr V ∧ wr.heap.size < V.heap.size := ⟨_, rfl, cell_of_row _ _ 0 _ _ (0, 0) (heap_alloc_new _ _), bl1 _, by simp⟩
          have famv1 := fam.below hbV1
          have hown1 : Gw El.int 3 m3.heap.size (fun _ => False) V1 u10 L1 := famv1.row 0 (by simp)
          have hbs1 : m3.heap.size ≤ V1.heap.size := Nat.le_trans hB.size hbV1.size
          have hBV1 : Below m3.heap.size m3 V1 := hB.trans (hbV1.mono hB.size)
          go_wp2_with (at_builtin; rw [← hV1]; refine wpList_append_gi rfl _ _ rfl m3.heap.size u10 L1 rfl hown1 wr.heap.size z1 rfl hlV1 c1 hz1 hll1 hbs1 ?_)
          intro v1 y1 hT1 hg1 ho1
          rw [← hV1] at hg1
          rw [show wr.heap.size + 1 = V1.heap.size by rw [hV1]; simp] at ho1
          replace hB : Below m3.heap.size m3 y1 := hBV1.grown hg1 hbs1 (fun g hg => (hown1.lo hg).1)
          replace fam : Fam El.int 3 m3.heap.size y1 [v1, u11, u12, u13] [(L1 ++ [z1]), L2, L4, L5] := famv1.grow 0 (by simp) hT1 hg1 ho1
          replace famb := (famb.below hbV1).beside hown1 (by decide) hg1
          clear hV1 c1 hlV1 famv1 hbs1 hBV1 hT1 hll1
          have f2 := HRB.out.cell hB HKA.out.2.1 HE.out.2.1
          obtain ⟨V2, hV2, c2, hbV2, hlV2⟩ : ∃ V, V = y1.alloc (.cells #[.int .i64 z2] 3) ∧ V.cell? ⟨y1.heap.size, 0, none⟩ = some (.int .i64 z2) ∧ Below y1.heap.size y1 V ∧ y1.heap.size < V.heap.size := ⟨_, rfl, cell_of_row _ _ 0 _ _ (0, 0) (heap_alloc_new _ _), bl1 _, by simp⟩
          have famv2 := fam.below hbV2
          have hown2 : Gw El.int 3 m3.heap.size (fun _ => False) V2 u11 L2 := famv2.row 1 (by simp)
          have hbs2 : m3.heap.size ≤ V2.heap.size := Nat.le_trans hB.size hbV2.size
          have hBV2 : Below m3.heap.size m3 V2 := hB.trans (hbV2.mono hB.size)
          go_wp2_with (at_builtin; rw [← hV2]; refine wpList_append_gi rfl _ _ rfl m3.heap.size u11 L2 rfl hown2 y1.heap.size z2 rfl hlV2 c2 hz2 hll2 hbs2 ?_)
          intro v2 y2 hT2 hg2 ho2
          rw [← hV2] at hg2
          rw [show y1.heap.size + 1 = V2.heap.size by rw [hV2]; simp] at ho2
          replace hB : Below m3.heap.size m3 y2 := hBV2.grown hg2 hbs2 (fun g hg => (hown2.lo hg).1)
          replace fam : Fam El.int 3 m3.heap.size y2 [v1, v2, u12, u13] [(L1 ++ [z1]), (L2 ++ [z2]), L4, L5] := famv2.grow 1 (by simp) hT2 hg2 ho2
          replace famb := (famb.below hbV2).beside hown2 (by decide) hg2
          clear hV2 c2 hlV2 famv2 hbs2 hBV2 hT2 hll2
          have f3 := HRT.out.cell hB HKA.out.2.2.1 HE.out.2.2.1
          obtain ⟨V3, hV3, c3, hbV3, hlV3⟩ : ∃ V, V = y2.alloc (.cells #[.bool z3] 4) ∧ V.cell? ⟨y2.heap.size, 0, none⟩ = some (.bool z3) ∧ Below y2.heap.size y2 V ∧ y2.heap.size < V.heap.size := ⟨_, rfl, cell_of_row _ _ 0 _ _ (0, 0) (heap_alloc_new _ _), bl1 _, by simp⟩
          have fambv3 := famb.below hbV3
          have hown3 : Gw El.bool 4 m3.heap.size (fun _ => False) V3 u14 L3 := fambv3.row 0 (by simp)
          have hbs3 : m3.heap.size ≤ V3.heap.size := Nat.le_trans hB.size hbV3.size
          have hBV3 : Below m3.heap.size m3 V3 := hB.trans (hbV3.mono hB.size)
          go_wp2_with (at_builtin; rw [← hV3]; refine wpList_append_gb rfl _ _ rfl m3.heap.size u14 L3 rfl hown3 y2.heap.size z3 rfl hlV3 c3 hll3 hbs3 ?_)
          intro v3 y3 hT3 hg3 ho3
          rw [← hV3] at hg3
          rw [show y2.heap.size + 1 = V3.heap.size by rw [hV3]; simp] at ho3
          replace hB : Below m3.heap.size m3 y3 := hBV3.grown hg3 hbs3 (fun g hg => (hown3.lo hg).1)
          replace famb : Fam El.bool 4 m3.heap.size y3 [v3, u15] [(L3 ++ [z3]), L6] := fambv3.grow 0 (by simp) hT3 hg3 ho3
          replace fam := (fam.below hbV3).beside hown3 (by decide) hg3
          clear hV3 c3 hlV3 fambv3 hbs3 hBV3 hT3 hll3
          have f4 := HRA.out.cell hB HKA.out.2.2.2.1 HE.out.2.2.2.1
          obtain ⟨V4, hV4, c4, hbV4, hlV4⟩ : ∃ V, V = y3.alloc (.cells #[.int .i64 z4] 3) ∧ V.cell? ⟨y3.heap.size, 0, none⟩ = some (.int .i64 z4) ∧ Below y3.heap.size y3 V ∧ y3.heap.size < V.heap.size := ⟨_, rfl, cell_of_row _ _ 0 _ _ (0, 0) (heap_alloc_new _ _), bl1 _, by simp⟩
          have famv4 := fam.below hbV4
          have hown4 : Gw El.int 3 m3.heap.size (fun _ => False) V4 u12 L4 := famv4.row 2 (by simp)
          have hbs4 : m3.heap.size ≤ V4.heap.size := Nat.le_trans hB.size hbV4.size
          have hBV4 : Below m3.heap.size m3 V4 := hB.trans (hbV4.mono hB.size)
          go_wp2_with (at_builtin; rw [← hV4]; refine wpList_append_gi rfl _ _ rfl m3.heap.size u12 L4 rfl hown4 y3.heap.size z4 rfl hlV4 c4 hz4 hll4 hbs4 ?_)
          intro v4 y4 hT4 hg4 ho4
          rw [← hV4] at hg4
          rw [show y3.heap.size + 1 = V4.heap.size by rw [hV4]; simp] at ho4
          replace hB : Below m3.heap.size m3 y4 := hBV4.grown hg4 hbs4 (fun g hg => (hown4.lo hg).1)
          replace fam : Fam El.int 3 m3.heap.size y4 [v1, v2, v4, u13] [(L1 ++ [z1]), (L2 ++ [z2]), (L4 ++ [z4]), L5] := famv4.grow 2 (by simp) hT4 hg4 ho4
          replace famb := (famb.below hbV4).beside hown4 (by decide) hg4
          clear hV4 c4 hlV4 famv4 hbs4 hBV4 hT4 hll4
          have f5 := HRB.out.cell hB HKA.out.2.2.2.2.1 HE.out.2.2.2.2.1
          obtain ⟨V5, hV5, c5, hbV5, hlV5⟩ : ∃ V, V = y4.alloc (.cells #[.int .i64 z5] 3) ∧ V.cell? ⟨y4.heap.size, 0, none⟩ = some (.int .i64 z5) ∧ Below y4.heap.size y4 V ∧ y4.heap.size < V.heap.size := ⟨_, rfl, cell_of_row _ _ 0 _ _ (0, 0) (heap_alloc_new _ _), bl1 _, by simp⟩
          have famv5 := fam.below hbV5
          have hown5 : Gw El.int 3 m3.heap.size (fun _ => False) V5 u13 L5 := famv5.row 3 (by simp)
          have hbs5 : m3.heap.size ≤ V5.heap.size := Nat.le_trans hB.size hbV5.size
          have hBV5 : Below m3.heap.size m3 V5 := hB.trans (hbV5.mono hB.size)
          go_wp2_with (at_builtin; rw [← hV5]; refine wpList_append_gi rfl _ _ rfl m3.heap.size u13 L5 rfl hown5 y4.heap.size z5 rfl hlV5 c5 hz5 hll5 hbs5 ?_)
          intro v5 y5 hT5 hg5 ho5
          rw [← hV5] at hg5
          rw [show y4.heap.size + 1 = V5.heap.size by rw [hV5]; simp] at ho5
          replace hB : Below m3.heap.size m3 y5 := hBV5.grown hg5 hbs5 (fun g hg => (hown5.lo hg).1)
          replace fam : Fam El.int 3 m3.heap.size y5 [v1, v2, v4, v5] [(L1 ++ [z1]), (L2 ++ [z2]), (L4 ++ [z4]), (L5 ++ [z5])] := famv5.grow 3 (by simp) hT5 hg5 ho5
          replace famb := (famb.below hbV5).beside hown5 (by decide) hg5
          clear hV5 c5 hlV5 famv5 hbs5 hBV5 hT5 hll5
          have f6 := HRT.out.cell hB HKA.out.2.2.2.2.2 HE.out.2.2.2.2.2
          obtain ⟨V6, hV6, c6, hbV6, hlV6⟩ : ∃ V, V = y5.alloc (.cells #[.bool z6] 4) ∧ V.cell? ⟨y5.heap.size, 0, none⟩ = some (.bool z6) ∧ Below y5.heap.size y5 V ∧ y5.heap.size < V.heap.size := ⟨_, rfl, cell_of_row _ _ 0 _ _ (0, 0) (heap_alloc_new _ _), bl1 _, by simp⟩
          have fambv6 := famb.below hbV6
          have hown6 : Gw El.bool 4 m3.heap.size (fun _ => False) V6 u15 L6 := fambv6.row 1 (by simp)
          have hbs6 : m3.heap.size ≤ V6.heap.size := Nat.le_trans hB.size hbV6.size
          have hBV6 : Below m3.heap.size m3 V6 := hB.trans (hbV6.mono hB.size)
          go_wp2_with (at_builtin; rw [← hV6]; refine wpList_append_gb rfl _ _ rfl m3.heap.size u15 L6 rfl hown6 y5.heap.size z6 rfl hlV6 c6 hll6 hbs6 ?_)
          intro v6 y6 hT6 hg6 ho6
          rw [← hV6] at hg6
          rw [show y5.heap.size + 1 = V6.heap.size by rw [hV6]; simp] at ho6
          replace hB : Below m3.heap.size m3 y6 := hBV6.grown hg6 hbs6 (fun g hg => (hown6.lo hg).1)
          replace famb : Fam El.bool 4 m3.heap.size y6 [v3, v6] [(L3 ++ [z3]), (L6 ++ [z6])] := fambv6.grow 1 (by simp) hT6 hg6 ho6
          replace fam := (fam.below hbV6).beside hown6 (by decide) hg6
          clear hV6 c6 hlV6 fambv6 hbs6 hBV6 hT6 hll6
          have FAM : Hid (Fam El.int 3 m3.heap.size y6 [v1, v2, v4, v5] [tk ns 0 (fun j => (j + d) % k) (j + 1), tk cs 0 (fun j => (j + d) % k) (j + 1), tk ns 0 (fun j => k - 1 - j) (j + 1), tk cs 0 (fun j => k - 1 - j) (j + 1)]) := by
            rw [HS1.out, HS2.out, HS4.out, HS5.out, HKK.out, HR.out, HE.out.1, HE.out.2.1, HE.out.2.2.2.1, HE.out.2.2.2.2.1]
            exact fam
          have FAMB : Hid (Fam El.bool 4 m3.heap.size y6 [v3, v6] [tk ts false (fun j => (j + d) % k) (j + 1), tk ts false (fun j => k - 1 - j) (j + 1)]) := by
            rw [HS3.out, HS6.out, HKK.out, HR.out, HE.out.2.2.1, HE.out.2.2.2.2.2]
            exact famb
          have HBB : Hid (Below m3.heap.size m3 y6) := hB
          clear fam famb hB hz1 hz2 hz4 hz5 f1 f2 f3 f4 f5 f6 t1 t2 t4 t5
          go_wp2
          go_roundw
          case rel => exact ⟨j + 1, by omega, by go_num, FAM.out, FAMB.out, HBB.out⟩
          case measure => simp [intOf]; omega
        · obtain rfl : j = k := by omega
          have g5 : ¬ (j : Int) < (j : Int) := by omega
          have hrc : Gi m3.heap.size wr u10 (tk ns 0 (fun i => (i + d) % j) j) := fam.row 0 (by simp)
          have hrd : Gi m3.heap.size wr u11 (tk cs 0 (fun i => (i + d) % j) j) := fam.row 1 (by simp)
          have hre : Gi m3.heap.size wr u12 (tk ns 0 (fun i => j - 1 - i) j) := fam.row 2 (by simp)
          have hrf : Gi m3.heap.size wr u13 (tk cs 0 (fun i => j - 1 - i) j) := fam.row 3 (by simp)
          obtain ⟨xc, kc, rfl, hrc, _⟩ := hrc.slice
          obtain ⟨xd, kd, rfl, hrd, _⟩ := hrd.slice
          obtain ⟨xe, ke, rfl, hre, _⟩ := hre.slice
          obtain ⟨xf, kf, rfl, hrf, _⟩ := hrf.slice
          obtain ⟨xg, kg, eg, hrg, _⟩ := (famb.row 0 (by simp)).slice
          obtain ⟨xh, kh, eh, hrh, _⟩ := (famb.row 1 (by simp)).slice
          replace eg : u14 = .slice xg (tk ts false (fun i => (i + d) % j) j).length kg := eg
          replace eh : u15 = .slice xh (tk ts false (fun i => j - 1 - i) j).length kh := eh
          replace hrg : Rl wr xg kg (tk ts false (fun i => (i + d) % j) j) := hrg
          replace hrh : Rl wr xh kh (tk ts false (fun i => j - 1 - i) j) := hrh
          subst eg eh
          have HF1 : Hid (fitB ns ts cs = true) := fitB_iff.2 ⟨⟨by rw [HL.out.1, HL.out.2.1], by rw [HL.out.1, HL.out.2.2], by rw [HL.out.1]; exact h80⟩, HN.out.1, HC.out.1⟩
          have HF2 : Hid (fitB (tk ns 0 (fun i => (i + d) % j) j) (tk ts false (fun i => (i + d) % j) j) (tk cs 0 (fun i => (i + d) % j) j) = true) := fitB_iff.2 ⟨⟨by rw [tk_len, tk_len], by rw [tk_len, tk_len], by rw [tk_len]; exact h80⟩, tk_fd HN.out.1 _ _, tk_fd HC.out.1 _ _⟩
          have HF3 : Hid (fitB (tk ns 0 (fun i => j - 1 - i) j) (tk ts false (fun i => j - 1 - i) j) (tk cs 0 (fun i => j - 1 - i) j) = true) := fitB_iff.2 ⟨⟨by rw [tk_len, tk_len], by rw [tk_len, tk_len], by rw [tk_len]; exact h80⟩, tk_fd HN.out.1 _ _, tk_fd HC.out.1 _ _⟩
          have hfi1 := fun U (hb : Below wr.heap.size wr U) => cfill_any aa cc ns ta tc ts ab cb cs U ((HRA.out.below hB).below hb) ((HRT.out.below hB).below hb) ((HRB.out.below hB).below hb)
          have hfi2 := fun U (hb : Below wr.heap.size wr U) => cfill_any xc kc _ xg kg _ xd kd _ U (hrc.below hb) (hrg.below hb) (hrd.below hb)
          have hfi3 := fun U (hb : Below wr.heap.size wr U) => cfill_any xe ke _ xh kh _ xf kf _ U (hre.below hb) (hrh.below hb) (hrf.below hb)
          have HL1 : Hid ((fillQ ns ts cs).length = j) := by have := fillQ_len HF1.out; rw [HL.out.1] at this; exact this
          have HL2 : Hid ((fillQ (tk ns 0 (fun i => (i + d) % j) j) (tk ts false (fun i => (i + d) % j) j) (tk cs 0 (fun i => (i + d) % j) j)).length = j) := by have := fillQ_len HF2.out; rw [tk_len] at this; exact this
          have HL3 : Hid ((fillQ (tk ns 0 (fun i => j - 1 - i) j) (tk ts false (fun i => j - 1 - i) j) (tk cs 0 (fun i => j - 1 - i) j)).length = j) := by have := fillQ_len HF3.out; rw [tk_len] at this; exact this
          have HQ2 : Hid (∀ i, i < j → (fillQ (tk ns 0 (fun i => (i + d) % j) j) (tk ts false (fun i => (i + d) % j) j) (tk cs 0 (fun i => (i + d) % j) j)).getD i 0 = (fillQ ns ts cs).getD ((i + d) % j) 0) := fun i hi => by
            rw [fillQ_get HF2.out (by rw [tk_len]; exact hi), fillQ_get HF1.out (by rw [HL.out.1]; exact Nat.mod_lt _ (by omega))]
            exact fiQ_turn HL.out.2.1 (tk_len _ _ _ _) hi hdn (fun i hi => tk_get _ _ _ _ _ hi) (fun i hi => tk_get _ _ _ _ _ hi) (fun i hi => tk_get _ _ _ _ _ hi)
          have HQ3 : Hid (∀ i, i < j → (fillQ (tk ns 0 (fun i => j - 1 - i) j) (tk ts false (fun i => j - 1 - i) j) (tk cs 0 (fun i => j - 1 - i) j)).getD i 0 = (fillQ ns ts cs).getD (j - 1 - i) 0) := fun i hi => by
            rw [fillQ_get HF3.out (by rw [tk_len]; exact hi), fillQ_get HF1.out (by rw [HL.out.1]; omega)]
            exact fiQ_back HL.out.2.1 (tk_len _ _ _ _) hi (fun i hi => tk_get _ _ _ _ _ hi) (fun i hi => tk_get _ _ _ _ _ hi) (fun i hi => tk_get _ _ _ _ _ hi)
          rw [HL.out.1, HL.out.2.1, HL.out.2.2] at hfi1
          rw [tk_len, tk_len, tk_len] at hfi2 hfi3
          rw [tk_len, tk_len, tk_len, tk_len, tk_len, tk_len]
          generalize fillQ ns ts cs = Q1 at *
          generalize fillQ (tk ns 0 (fun i => (i + d) % j) j) (tk ts false (fun i => (i + d) % j) j) (tk cs 0 (fun i => (i + d) % j) j) = Q2 at *
          generalize fillQ (tk ns 0 (fun i => j - 1 - i) j) (tk ts false (fun i => j - 1 - i) j) (tk cs 0 (fun i => j - 1 - i) j) = Q3 at *
          have HBZ : Hid (Below w.heap.size w wr) := HBW.out.trans (hB.mono HBW.out.size)
          clear fam famb hrc hrd hre hrf hrg hrh hB
          go_wp2_with fail
          refine (hfi1 _ (Below.refl _ _)).mono ?_
          rintro e s1 ⟨p1, l1, rfl, hR1, hc1⟩
          rw [HL1.out]
          clear hfi1
          go_wp2_with fail
          refine (hfi2 _ hc1).mono ?_
          rintro e s2 ⟨p2, l2, rfl, hR2, hc2⟩
          rw [HL2.out]
          replace hR1 := hR1.below hc2
          replace hc1 := hc1.trans (hc2.mono hc1.size)
          clear hfi2 hc2
          go_wp2_with fail
          refine (hfi3 _ hc1).mono ?_
          rintro e s3 ⟨p3, l3, rfl, hR3, hc3⟩
          rw [HL3.out]
          replace hR1 := hR1.below hc3
          replace hR2 := hR2.below hc3
          replace hc1 := hc1.trans (hc3.mono hc1.size)
          have HR1 : Hid (Rf s3 p1 l1 7 Q1) := hR1
          have HR2 : Hid (Rf s3 p2 l2 7 Q2) := hR2
          have HR3 : Hid (Rf s3 p3 l3 7 Q3) := hR3
          have HBX : Hid (Below w.heap.size w s3) := HBZ.out.trans (hc1.mono HBZ.out.size)
          clear hfi3 hc3 hR1 hR2 hR3 hc1
          go_wp2
          go_loopw [23] (fun i w9 => ∃ i' : Nat, i' ≤ j ∧ i = .int .i64 i' ∧ Below s3.heap.size s3 w9) (fun i _ => j - (intOf i).toNat)
          case atStart => exact ⟨0, Nat.zero_le _, rfl, Below.refl _ _⟩
          case round =>
            obtain ⟨i, hi, rfl, hB⟩ := hrel
            by_cases hin : i < j
            · have q1 := rem_nat (i + d) j
              obtain ⟨kk, hkk⟩ : ∃ x, (i + d) % j = x := ⟨_, rfl⟩
              have hkl : kk < j := by rw [← hkk]; exact Nat.mod_lt _ (by omega)
              rw [hkk, show ((i + d : Nat) : Int) = (i : Int) + (d : Int) by omega] at q1
              obtain ⟨r, hr⟩ : ∃ x, j - 1 - i = x := ⟨_, rfl⟩
              have hri : (j : Int) - 1 - (i : Int) = (r : Int) := by omega
              have hrl : r < j := by omega
              have hw1 : IntKind.i64.wrap ((i : Int) + (d : Int)) = (i : Int) + (d : Int) := wrap_ok (by omega)
              have hw2 : IntKind.i64.wrap ((j : Int) - 1) = (j : Int) - 1 := wrap_ok (by omega)
              have hw3 : IntKind.i64.wrap ((j : Int) - 1 - (i : Int)) = (r : Int) := by rw [wrap_ok (by omega)]; exact hri
              have hw4 : IntKind.i64.wrap (kk : Int) = (kk : Int) := wrap_ok (by omega)
              have hw5 : IntKind.i64.wrap (r : Int) = (r : Int) := wrap_ok (by omega)
              obtain ⟨c1, o1, x1, y1, z1, ea1, hc1, d0, d1, d2, hFa⟩ := HR2.out.1.at hB i (by rw [HL2.out]; exact hin)
              subst ea1
              obtain ⟨c2, o2, x2, y2, z2, ea2, hc2, d3, d4, d5, hFb⟩ := HR1.out.1.at hB kk (by rw [HL1.out]; exact hkl)
              subst ea2
              obtain ⟨c3, o3, x3, y3, z3, ea3, hc3, d6, d7, d8, hFc⟩ := HR3.out.1.at hB i (by rw [HL3.out]; exact hin)
              subst ea3
              obtain ⟨c4, o4, x4, y4, z4, ea4, hc4, d9, da', db, hFd⟩ := HR1.out.1.at hB r (by rw [HL1.out]; exact hrl)
              cases ea4
              rw [HQ2.out i hin, hkk] at hFa
              rw [HQ3.out i hin, hr] at hFc
              have i1 : (0 : Int) ≤ (i : Int) := by omega
              have i2 : (i : Int) < (j : Int) := by omega
              have i3 : (0 : Int) ≤ (kk : Int) := by omega
              have i4 : (kk : Int) < (j : Int) := by omega
              have i5 : (0 : Int) ≤ (r : Int) := by omega
              have i6 : (r : Int) < (j : Int) := by omega
              clear hkk hr
              obtain ⟨n1, a10, a11, a12, a13, a14, a15, e1⟩ := hFa.cells3'
              simp only [Value.agg.injEq, Array.mk.injEq, List.cons.injEq, and_true] at e1
              obtain ⟨rfl, rfl, rfl⟩ := e1
              obtain ⟨n2, a20, a21, a22, a23, a24, a25, e2⟩ := hFb.cells3'
              simp only [Value.agg.injEq, Array.mk.injEq, List.cons.injEq, and_true] at e2
              obtain ⟨rfl, rfl, rfl⟩ := e2
              obtain ⟨n3, a30, a31, a32, a33, a34, a35, e3⟩ := hFc.cells3'
              simp only [Value.agg.injEq, Array.mk.injEq, List.cons.injEq, and_true] at e3
              obtain ⟨rfl, rfl, rfl⟩ := e3
              obtain ⟨n4, a40, a41, a42, a43, a44, a45, e4⟩ := hFd.cells3'
              simp only [Value.agg.injEq, Array.mk.injEq, List.cons.injEq, and_true] at e4
              obtain ⟨rfl, rfl, rfl⟩ := e4
              go_wp2_with fail
              refine wp_region_held_drew (S := fun w9 => w9.cell? ⟨c1, o1 + i * 3, none⟩ = some (.bool n1) ∧ w9.cell? ⟨c1, o1 + i * 3 + 1, none⟩ = some (.slice a10 a11 a12) ∧ w9.cell? ⟨c1, o1 + i * 3 + 2, none⟩ = some (.slice a13 a14 a15) ∧ w9.cell? ⟨c2, o2 + kk * 3, none⟩ = some (.bool n2) ∧ w9.cell? ⟨c2, o2 + kk * 3 + 1, none⟩ = some (.slice a20 a21 a22) ∧ w9.cell? ⟨c2, o2 + kk * 3 + 2, none⟩ = some (.slice a23 a24 a25) ∧ w9.cell? ⟨c3, o3 + i * 3, none⟩ = some (.bool n3) ∧ w9.cell? ⟨c3, o3 + i * 3 + 1, none⟩ = some (.slice a30 a31 a32) ∧ w9.cell? ⟨c3, o3 + i * 3 + 2, none⟩ = some (.slice a33 a34 a35) ∧ w9.cell? ⟨c2, o2 + r * 3, none⟩ = some (.bool n4) ∧ w9.cell? ⟨c2, o2 + r * 3 + 1, none⟩ = some (.slice a40 a41 a42) ∧ w9.cell? ⟨c2, o2 + r * 3 + 2, none⟩ = some (.slice a43 a44 a45)) (by kernel_rfl) ?_ (fun hHeld => ?_)
              · (try dsimp only)
                go_keep
              have hdr : Below wr.heap.size wr wr.drew := Below.drew1
              generalize wr.drew = Z1 at hdr hHeld ⊢
              replace hFa := hFa.below hdr
              replace hFb := hFb.below hdr
              replace hFc := hFc.below hdr
              replace hFd := hFd.below hdr
              replace hB := hB.trans (hdr.mono hB.size)
              clear hdr
              refine hT 0 hHeld ?_
              refine hT 1 hHeld ?_
              refine hT 2 hHeld ?_
              refine hT 3 hHeld ?_
              refine hT 4 hHeld ?_
              refine hT 5 hHeld ?_
              refine hT 6 hHeld ?_
              refine hT 7 hHeld ?_
              refine hT 8 hHeld ?_
              refine hT 9 hHeld ?_
              refine hT 10 hHeld ?_
              refine hT 11 hHeld ?_
              refine hCall (i := 12) rfl (by kernel_rfl) (by rfl) (fun K hK => ?_)
              go_simp
              refine (qcmp_any 7 7 _ _ _ _ Z1 hFa.ct hFb.ct (by decide) (by decide) (by decide) (by decide)).mono ?_
              rintro e s5 ⟨rfl, hbc⟩
              have hHz : s5.cell? ⟨c1, o1 + i * 3, none⟩ = some (.bool n1) ∧ s5.cell? ⟨c1, o1 + i * 3 + 1, none⟩ = some (.slice a10 a11 a12) ∧ s5.cell? ⟨c1, o1 + i * 3 + 2, none⟩ = some (.slice a13 a14 a15) ∧ s5.cell? ⟨c2, o2 + kk * 3, none⟩ = some (.bool n2) ∧ s5.cell? ⟨c2, o2 + kk * 3 + 1, none⟩ = some (.slice a20 a21 a22) ∧ s5.cell? ⟨c2, o2 + kk * 3 + 2, none⟩ = some (.slice a23 a24 a25) ∧ s5.cell? ⟨c3, o3 + i * 3, none⟩ = some (.bool n3) ∧ s5.cell? ⟨c3, o3 + i * 3 + 1, none⟩ = some (.slice a30 a31 a32) ∧ s5.cell? ⟨c3, o3 + i * 3 + 2, none⟩ = some (.slice a33 a34 a35) ∧ s5.cell? ⟨c2, o2 + r * 3, none⟩ = some (.bool n4) ∧ s5.cell? ⟨c2, o2 + r * 3 + 1, none⟩ = some (.slice a40 a41 a42) ∧ s5.cell? ⟨c2, o2 + r * 3 + 2, none⟩ = some (.slice a43 a44 a45) := ⟨(hbc.cell (p := ⟨c1, o1 + i * 3, none⟩) (Nat.lt_of_lt_of_le hc1 hB.size)).trans hHeld.1, (hbc.cell (p := ⟨c1, o1 + i * 3 + 1, none⟩) (Nat.lt_of_lt_of_le hc1 hB.size)).trans hHeld.2.1, (hbc.cell (p := ⟨c1, o1 + i * 3 + 2, none⟩) (Nat.lt_of_lt_of_le hc1 hB.size)).trans hHeld.2.2.1, (hbc.cell (p := ⟨c2, o2 + kk * 3, none⟩) (Nat.lt_of_lt_of_le hc2 hB.size)).trans hHeld.2.2.2.1, (hbc.cell (p := ⟨c2, o2 + kk * 3 + 1, none⟩) (Nat.lt_of_lt_of_le hc2 hB.size)).trans hHeld.2.2.2.2.1, (hbc.cell (p := ⟨c2, o2 + kk * 3 + 2, none⟩) (Nat.lt_of_lt_of_le hc2 hB.size)).trans hHeld.2.2.2.2.2.1, (hbc.cell (p := ⟨c3, o3 + i * 3, none⟩) (Nat.lt_of_lt_of_le hc3 hB.size)).trans hHeld.2.2.2.2.2.2.1, (hbc.cell (p := ⟨c3, o3 + i * 3 + 1, none⟩) (Nat.lt_of_lt_of_le hc3 hB.size)).trans hHeld.2.2.2.2.2.2.2.1, (hbc.cell (p := ⟨c3, o3 + i * 3 + 2, none⟩) (Nat.lt_of_lt_of_le hc3 hB.size)).trans hHeld.2.2.2.2.2.2.2.2.1, (hbc.cell (p := ⟨c2, o2 + r * 3, none⟩) (Nat.lt_of_lt_of_le hc2 hB.size)).trans hHeld.2.2.2.2.2.2.2.2.2.1, (hbc.cell (p := ⟨c2, o2 + r * 3 + 1, none⟩) (Nat.lt_of_lt_of_le hc2 hB.size)).trans hHeld.2.2.2.2.2.2.2.2.2.2.1, (hbc.cell (p := ⟨c2, o2 + r * 3 + 2, none⟩) (Nat.lt_of_lt_of_le hc2 hB.size)).trans hHeld.2.2.2.2.2.2.2.2.2.2.2⟩
              replace hFa := hFa.below hbc
              replace hFb := hFb.below hbc
              replace hFc := hFc.below hbc
              replace hFd := hFd.below hbc
              replace hB := hB.trans (hbc.mono hB.size)
              clear hbc
              rw [sgn_self]
              go_wp2_with fail
              refine hK.out _ _ ?_ (fun hHeld => ?_)
              · (try dsimp only)
                exact hHz
              clear hK K hHz
              try simp only [Act.put, List.setIfInBounds_toArray, List.set_cons_zero, List.set_cons_succ]
              refine hT 13 hHeld ?_
              refine hT 14 hHeld ?_
              refine hT 15 hHeld ?_
              refine hT 16 hHeld ?_
              refine hT 17 hHeld ?_
              refine hT 18 hHeld ?_
              refine hT 19 hHeld ?_
              refine hT 20 hHeld ?_
              refine hT 21 hHeld ?_
              refine hT 22 hHeld ?_
              refine hT 23 hHeld ?_
              refine hT 24 hHeld ?_
              refine hT 25 hHeld ?_
              refine hCall (i := 26) rfl (by kernel_rfl) (by rfl) (fun K hK => ?_)
              go_simp
              refine (qcmp_any 7 7 _ _ _ _ s5 hFc.ct hFd.ct (by decide) (by decide) (by decide) (by decide)).mono ?_
              rintro e s6 ⟨rfl, hbc⟩
              have hHz : s6.cell? ⟨c1, o1 + i * 3, none⟩ = some (.bool n1) ∧ s6.cell? ⟨c1, o1 + i * 3 + 1, none⟩ = some (.slice a10 a11 a12) ∧ s6.cell? ⟨c1, o1 + i * 3 + 2, none⟩ = some (.slice a13 a14 a15) ∧ s6.cell? ⟨c2, o2 + kk * 3, none⟩ = some (.bool n2) ∧ s6.cell? ⟨c2, o2 + kk * 3 + 1, none⟩ = some (.slice a20 a21 a22) ∧ s6.cell? ⟨c2, o2 + kk * 3 + 2, none⟩ = some (.slice a23 a24 a25) ∧ s6.cell? ⟨c3, o3 + i * 3, none⟩ = some (.bool n3) ∧ s6.cell? ⟨c3, o3 + i * 3 + 1, none⟩ = some (.slice a30 a31 a32) ∧ s6.cell? ⟨c3, o3 + i * 3 + 2, none⟩ = some (.slice a33 a34 a35) ∧ s6.cell? ⟨c2, o2 + r * 3, none⟩ = some (.bool n4) ∧ s6.cell? ⟨c2, o2 + r * 3 + 1, none⟩ = some (.slice a40 a41 a42) ∧ s6.cell? ⟨c2, o2 + r * 3 + 2, none⟩ = some (.slice a43 a44 a45) := ⟨(hbc.cell (p := ⟨c1, o1 + i * 3, none⟩) (Nat.lt_of_lt_of_le hc1 hB.size)).trans hHeld.1, (hbc.cell (p := ⟨c1, o1 + i * 3 + 1, none⟩) (Nat.lt_of_lt_of_le hc1 hB.size)).trans hHeld.2.1, (hbc.cell (p := ⟨c1, o1 + i * 3 + 2, none⟩) (Nat.lt_of_lt_of_le hc1 hB.size)).trans hHeld.2.2.1, (hbc.cell (p := ⟨c2, o2 + kk * 3, none⟩) (Nat.lt_of_lt_of_le hc2 hB.size)).trans hHeld.2.2.2.1, (hbc.cell (p := ⟨c2, o2 + kk * 3 + 1, none⟩) (Nat.lt_of_lt_of_le hc2 hB.size)).trans hHeld.2.2.2.2.1, (hbc.cell (p := ⟨c2, o2 + kk * 3 + 2, none⟩) (Nat.lt_of_lt_of_le hc2 hB.size)).trans hHeld.2.2.2.2.2.1, (hbc.cell (p := ⟨c3, o3 + i * 3, none⟩) (Nat.lt_of_lt_of_le hc3 hB.size)).trans hHeld.2.2.2.2.2.2.1, (hbc.cell (p := ⟨c3, o3 + i * 3 + 1, none⟩) (Nat.lt_of_lt_of_le hc3 hB.size)).trans hHeld.2.2.2.2.2.2.2.1, (hbc.cell (p := ⟨c3, o3 + i * 3 + 2, none⟩) (Nat.lt_of_lt_of_le hc3 hB.size)).trans hHeld.2.2.2.2.2.2.2.2.1, (hbc.cell (p := ⟨c2, o2 + r * 3, none⟩) (Nat.lt_of_lt_of_le hc2 hB.size)).trans hHeld.2.2.2.2.2.2.2.2.2.1, (hbc.cell (p := ⟨c2, o2 + r * 3 + 1, none⟩) (Nat.lt_of_lt_of_le hc2 hB.size)).trans hHeld.2.2.2.2.2.2.2.2.2.2.1, (hbc.cell (p := ⟨c2, o2 + r * 3 + 2, none⟩) (Nat.lt_of_lt_of_le hc2 hB.size)).trans hHeld.2.2.2.2.2.2.2.2.2.2.2⟩
              replace hFa := hFa.below hbc
              replace hFb := hFb.below hbc
              replace hFc := hFc.below hbc
              replace hFd := hFd.below hbc
              replace hB := hB.trans (hbc.mono hB.size)
              clear hbc
              rw [sgn_self]
              go_wp2_with fail
              refine hK.out _ _ ?_ (fun hHeld => ?_)
              · (try dsimp only)
                exact hHz
              clear hK K hHz
              try simp only [Act.put, List.setIfInBounds_toArray, List.set_cons_zero, List.set_cons_succ]
              refine hT 27 hHeld ?_
              refine hT 28 hHeld ?_
              refine wpAnyH_done (by kernel_rfl) ?_ _
              clear hHeld
              go_wp2
              go_roundw
              case rel => exact ⟨i + 1, by omega, by go_num, hB⟩
              case measure => simp [intOf]; omega
            · obtain rfl : i = j := by omega
              have g6 : ¬ (i : Int) < (i : Int) := by omega
              have HBY : Hid (Below w.heap.size w wr) := HBX.out.trans (hB.mono HBX.out.size)
              go_wp2
              go_ret
              exact ⟨rfl, HBY.out⟩

end Go.Proofs.YthoildjecoppgaaDoor
