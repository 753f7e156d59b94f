/-
  foundrylaw13.InferAlike: the walk.
-/
import Derived.Test.YthoildjecoppgaaDoorZ19
import Derived.Test.YthoildjecoppgaaDoorZ20
import Derived.Test.YthoildjecoppgaaDoorZ18
namespace Go.Proofs.YthoildjecoppgaaDoor
open Go.RowKit Go.Maps
set_option linter.unusedSimpArgs false
set_option linter.unusedVariables false

theorem any_take {ts : List Bool} {k : Nat} (hk : k < ts.length) : (ts.take (k + 1)).any id = ((ts.take k).any id || ts.getD k false) := by
  rw [List.take_add_one, List.any_append, List.getElem?_eq_getElem hk]
  simp [List.getD, hk]
theorem any_some {ts : List Bool} (h : ts.any id = true) : ∃ p, p < ts.length ∧ ts.getD p false = true := by
  obtain ⟨x, hx, e⟩ := List.any_eq_true.1 h
  obtain ⟨p, hp, e2⟩ := List.getElem_of_mem hx
  exact ⟨p, hp, by rw [List.getD_eq_getElem?_getD, List.getElem?_eq_getElem hp, e2]; exact e⟩
theorem any_none {ts : List Bool} (h : ts.any id = false) (j : Nat) (hj : j < ts.length) : ts.getD j false = false := by
  rw [List.getD_eq_getElem?_getD, List.getElem?_eq_getElem hj]
  exact (List.any_eq_false.1 h _ (List.getElem_mem hj)) |> fun e => by simpa using e
theorem take_get {ns : List Int} {k : Nat} (hk : k < ns.length) : ns.take (k + 1) = ns.take k ++ [ns.getD k 0] := by
  rw [List.take_add_one, List.getElem?_eq_getElem hk]
  simp [List.getD, hk]
theorem sgn_nil {q r : Rat} (h : q = r) : sgnQ (q - r) = 0 := by rw [h]; exact sgn_self r

set_option maxHeartbeats 4000000 in
set_option maxRecDepth 100000 in
theorem inferAlike_any (a : Option Addr) (ca : Nat) (ns : List Int) (ta : Option Addr) (tc : Nat) (ts : List Bool) (x : Int) (w : World) (hn : Rh w a ca ns) (ht : Rl w ta tc ts) (hx : -32768 ≤ x ∧ x < 32768) (htab : Pow w) :
    Calls Tryd.prog 5 #[.slice a ns.length ca, .slice ta ts.length tc, .int .i16 x] w fun e w' => e = .returned (.bool true) ∧ Below w.heap.size w w' := by
  have b1 := hn.lenB
  have b2 := ht.lenB
  have HB : Hid (Pow w) := htab
  have HN : Hid (Rh w a ca ns) := hn
  have HT : Hid (Rl w ta tc ts) := ht
  have HX : Hid (-32768 ≤ x ∧ x ≤ 32767) := ⟨hx.1, by omega⟩
  clear htab hn ht
  go_enter Tryd.func5, Tryd.ntmps5
  go_wp2_with fail
  refine (awake13_any _ HB.out).mono ?_
  rintro e m1 ⟨rfl, hbW⟩
  by_cases h80 : ns.length ≤ 80
  rotate_left
  · generalize ns.length = n at *
    have g1 : (n : Int) > 80 := by omega
    go_wp2_with fail
    refine (awake13_any _ (HB.out.below hbW)).mono ?_
    rintro e v9 ⟨rfl, hb9⟩
    replace hbW := hbW.trans (hb9.mono hbW.size)
    clear hb9
    go_wp2
    go_ret
    exact ⟨rfl, hbW⟩
  by_cases hl : ts.length = ns.length
  rotate_left
  · clear HN HT
    generalize ns.length = n at *
    generalize ts.length = m at *
    have g1 : ¬ (n : Int) > 80 := by omega
    have g2 : ((m : Int) != (n : Int)) = true := by simp; omega
    go_wp2_with fail
    refine (awake13_any _ (HB.out.below hbW)).mono ?_
    rintro e v9 ⟨rfl, hb9⟩
    replace hbW := hbW.trans (hb9.mono hbW.size)
    clear hb9
    go_wp2
    go_ret
    exact ⟨rfl, hbW⟩
  obtain ⟨n, hnn⟩ : ∃ n, ns.length = n := ⟨_, rfl⟩
  have HL : Hid (ns.length = n ∧ ts.length = n) := ⟨hnn, by omega⟩
  rw [hl]
  rw [hnn] at h80 ⊢
  have g1 : ¬ (n : Int) > 80 := by omega
  clear hl hnn b1 b2
  go_wp2
  go_loopw [7, 8, 9, 10] (fun va vb s i wr => ∃ k : Nat, k ≤ n ∧ i = .int .i64 k ∧ s = .bool ((ts.take k).any id) ∧ Fam El.int 3 m1.heap.size wr [va, vb] [ns.take k, List.replicate k x] ∧ Below m1.heap.size m1 wr) (fun _ _ _ i _ => n - (intOf i).toNat)
  case atStart => exact ⟨0, Nat.zero_le _, rfl, rfl, Fam.two _ _ _ _, Below.refl _ _⟩
  case round =>
    obtain ⟨k, hk, rfl, rfl, fam, hB⟩ := hrel
    by_cases hkn : k < n
    · obtain ⟨b0, o0, e0, hb0, d0⟩ := HN.out.at (hbW.trans (hB.mono hbW.size)) k (by rw [HL.out.1]; exact hkn)
      have hz0 := HN.out.in (k := k) (by rw [HL.out.1]; exact hkn)
      have HTK : Hid (ns.take (k + 1) = ns.take k ++ [ns.getD k 0]) := take_get (by rw [HL.out.1]; exact hkn)
      have HAN : Hid ((ts.take (k + 1)).any id = ((ts.take k).any id || ts.getD k false)) := any_take (by rw [HL.out.2]; exact hkn)
      subst e0
      obtain ⟨z, hz⟩ : ∃ z, ns.getD k 0 = z := ⟨_, rfl⟩
      rw [hz] at d0 hz0 HTK
      have hz1 : I64 z := by unfold I64; omega
      have hz2 : I64 x := by unfold I64; omega
      have hll1 : (ns.take k).length + 1 ≤ 1000000 := by rw [List.length_take]; omega
      have hll2 : (List.replicate k x).length + 1 ≤ 1000000 := by rw [List.length_replicate]; omega
      have i1 : (0 : Int) ≤ (k : Int) := by omega
      have i2 : (k : Int) < (n : Int) := by omega
      clear hz
      obtain ⟨V1, hV1, c1, hbV1, hlV1⟩ : ∃ V, V = wr.alloc (.cells #[.int .i64 z] 3) ∧ V.cell? ⟨wr.heap.size, 0, none⟩ = some (.int .i64 z) ∧ Below wr.heap.size wr V ∧ wr.heap.size < V.heap.size := ⟨_, rfl, cell_of_row _ _ 0 _ _ (0, 0) (heap_alloc_new _ _), bl1 _, by simp⟩
      have famv1 := fam.below hbV1
      have hown1 : Gw El.int 3 m1.heap.size (fun _ => False) V1 u7 (ns.take k) := famv1.row 0 (by simp)
      have hbs1 : m1.heap.size ≤ V1.heap.size := Nat.le_trans hB.size hbV1.size
      have hBV1 : Below m1.heap.size m1 V1 := hB.trans (hbV1.mono hB.size)
      go_wp2_with (at_builtin; rw [← hV1]; refine wpList_append_gi rfl _ _ rfl m1.heap.size u7 (ns.take k) rfl hown1 wr.heap.size z rfl hlV1 c1 hz1 hll1 hbs1 ?_)
      intro v1 y1 hT1 hg1 ho1
      rw [← hV1] at hg1
      rw [show wr.heap.size + 1 = V1.heap.size by rw [hV1]; simp] at ho1
      replace hB : Below m1.heap.size m1 y1 := hBV1.grown hg1 hbs1 (fun g hg => (hown1.lo hg).1)
      replace fam : Fam El.int 3 m1.heap.size y1 [v1, u8] [((ns.take k) ++ [z]), (List.replicate k x)] := famv1.grow 0 (by simp) hT1 hg1 ho1
      clear hV1 c1 hlV1 famv1 hbs1 hBV1 hT1 hll1
      obtain ⟨V2, hV2, c2, hbV2, hlV2⟩ : ∃ V, V = y1.alloc (.cells #[.int .i64 x] 3) ∧ V.cell? ⟨y1.heap.size, 0, none⟩ = some (.int .i64 x) ∧ Below y1.heap.size y1 V ∧ y1.heap.size < V.heap.size := ⟨_, rfl, cell_of_row _ _ 0 _ _ (0, 0) (heap_alloc_new _ _), bl1 _, by simp⟩
      have famv2 := fam.below hbV2
      have hown2 : Gw El.int 3 m1.heap.size (fun _ => False) V2 u8 (List.replicate k x) := famv2.row 1 (by simp)
      have hbs2 : m1.heap.size ≤ V2.heap.size := Nat.le_trans hB.size hbV2.size
      have hBV2 : Below m1.heap.size m1 V2 := hB.trans (hbV2.mono hB.size)
      go_wp2_with (at_builtin; rw [← hV2]; refine wpList_append_gi rfl _ _ rfl m1.heap.size u8 (List.replicate k x) rfl hown2 y1.heap.size x rfl hlV2 c2 hz2 hll2 hbs2 ?_)
      intro v2 y2 hT2 hg2 ho2
      rw [← hV2] at hg2
      rw [show y1.heap.size + 1 = V2.heap.size by rw [hV2]; simp] at ho2
      replace hB : Below m1.heap.size m1 y2 := hBV2.grown hg2 hbs2 (fun g hg => (hown2.lo hg).1)
      replace fam : Fam El.int 3 m1.heap.size y2 [v1, v2] [((ns.take k) ++ [z]), ((List.replicate k x) ++ [x])] := famv2.grow 1 (by simp) hT2 hg2 ho2
      clear hV2 c2 hlV2 famv2 hbs2 hBV2 hT2 hll2
      have hBw : Below w.heap.size w y2 := hbW.trans (hB.mono hbW.size)
      obtain ⟨b3, o3, e3, hb3, d3⟩ := HT.out.at hBw k (by rw [HL.out.2]; exact hkn)
      subst e3
      obtain ⟨tz, htz⟩ : ∃ z, ts.getD k false = z := ⟨_, rfl⟩
      rw [htz] at d3 HAN
      obtain ⟨sz, hsz⟩ : ∃ z, (ts.take k).any id = z := ⟨_, rfl⟩
      rw [hsz] at HAN ⊢
      have FAM : Hid (Fam El.int 3 m1.heap.size y2 [v1, v2] [ns.take (k + 1), List.replicate (k + 1) x]) := by
        rw [HTK.out, List.replicate_succ']
        exact fam
      have HBB : Hid (Below m1.heap.size m1 y2) := hB
      clear htz hsz fam hB hz0 hz1 hz2
      cases sz with
      | true =>
        go_wp2
        go_roundw
        case rel => exact ⟨k + 1, by omega, by go_num, by rw [HAN.out]; rfl, FAM.out, HBB.out⟩
        case measure => simp [intOf]; omega
      | false =>
        go_wp2
        go_roundw
        case rel => exact ⟨k + 1, by omega, by go_num, by rw [HAN.out]; rfl, FAM.out, HBB.out⟩
        case measure => simp [intOf]; omega
    · obtain rfl : k = n := by omega
      have g4 : ¬ (k : Int) < (k : Int) := by omega
      have hra : Gi m1.heap.size wr u7 (ns.take k) := fam.row 0 (by simp)
      have hrb : Gi m1.heap.size wr u8 (List.replicate k x) := fam.row 1 (by simp)
      rw [show ns.take k = ns by rw [← HL.out.1, List.take_length]] at hra
      rw [show ts.take k = ts by rw [← HL.out.2, List.take_length]]
      obtain ⟨aa, cc, rfl, hra, _⟩ := hra.slice
      obtain ⟨ab, cb, rfl, hrb, _⟩ := hrb.slice
      have hBw : Below w.heap.size w wr := hbW.trans (hB.mono hbW.size)
      have hrt := HT.out.below hBw
      have HFI : Hid (fitB ns ts (List.replicate k x) = true) := fitB_iff.2 ⟨⟨by rw [HL.out.1, HL.out.2], by rw [HL.out.1, List.length_replicate], by rw [HL.out.1]; exact h80⟩, HN.out.1, fun z hz => by rw [List.eq_of_mem_replicate hz]; exact HX.out⟩
      have hfi := fun U (hb : Below wr.heap.size wr U) => cfill_any aa cc ns ta tc ts ab cb (List.replicate k x) U (hra.below hb) (hrt.below hb) (hrb.below hb)
      have HFL : Hid ((fillQ ns ts (List.replicate k x)).length = k) := by have := fillQ_len HFI.out; rw [HL.out.1] at this; exact this
      have HFG : Hid (∀ i, i < k → (fillQ ns ts (List.replicate k x)).getD i 0 = if ts.any id = true then (x : Rat) else 0) := fun i hi => by
        rw [fillQ_get HFI.out (by rw [HL.out.1]; exact hi)]
        by_cases h : ts.any id = true
        · obtain ⟨p, hp, htp⟩ := any_some h
          rw [if_pos h]
          exact fiQ_alike HFI.out (by rw [HL.out.1]; exact hi) (by rw [HL.out.1, ← HL.out.2]; exact hp) htp (fun j hj => by simp [List.getD, show j < k by rw [HL.out.1] at hj; exact hj])
        · rw [if_neg h]
          exact fiQ_none (by rw [HL.out.2]; exact hi) (any_none (by simpa using h))
      generalize fillQ ns ts (List.replicate k x) = qs at *
      have lra : ns.length = k := HL.out.1
      rw [HL.out.1, HL.out.2, List.length_replicate] at hfi
      rw [HL.out.1, List.length_replicate]
      clear fam hra hrb hB hrt lra
      go_wp2_with fail
      refine (whole_any 0 _ (by decide) (by decide)).mono ?_
      rintro e m2 ⟨vq, rfl, hF1, hb2⟩
      obtain ⟨z1, x1, x2, x3, x4, x5, x6, rfl⟩ := hF1.cells3'
      obtain ⟨V, hV, B4, hb4⟩ : ∃ V, V = m2.alloc (.cells #[.bool z1, .slice x1 x2 x3, .slice x4 x5 x6] 33) ∧ Box 33 V m2.heap.size (.bool z1) (.slice x1 x2 x3) (.slice x4 x5 x6) ∧ Below m2.heap.size m2 V := ⟨_, rfl, Box.new _ _ _ _ _, bl1 _⟩
      have hbv : Below wr.heap.size wr V := hb2.trans (hb4.mono hb2.size)
      have hFv := hF1.below hb4
      obtain ⟨sz, hsz⟩ : ∃ z, ts.any id = z := ⟨_, rfl⟩
      rw [hsz] at HFG ⊢
      have hwu0 := hb2.size
      clear hF1 hb2 hb4 hsz
      cases sz with
      | true =>
        have hFG : Hid (∀ i, i < k → qs.getD i 0 = (x : Rat)) := fun i hi => by rw [HFG.out i hi, if_pos rfl]
        clear HFG
        have hwu : wr.heap.size ≤ m2.heap.size := hwu0
        go_upto_region 13 with fail
        rw [← hV]
        clear hV
        go_wp2_with fail
        refine (whole_any x _ (by omega) (by omega)).mono ?_
        rintro e m3 ⟨vp, rfl, hF3, hb3⟩
        obtain ⟨n', xs', ys', ⟨e1, f1, e2, f2, rfl, hx', hy'⟩, hF⟩ := hF3
        replace B4 := B4.below hb3
        replace hbv := hbv.trans (hb3.mono hbv.size)
        obtain ⟨r0, r1, r2, r3, r4, r5⟩ := B4.cells
        have hlt := B4.lt
        obtain ⟨U9, hU9, BU, hU1, hU2, hU3⟩ := set3_world B4 (.bool n') (.slice e1 xs'.length f1) (.slice e2 ys'.length f2)
        have hFw : Fr U9 (.agg #[.bool n', .slice e1 xs'.length f1, .slice e2 ys'.length f2]) 2 (x : Rat) := ⟨_, _, _, ⟨_, _, _, _, rfl, hU2 _ _ _ hx', hU2 _ _ _ hy'⟩, hF⟩
        have hbz : Below wr.heap.size wr U9 := hU1 _ _ hbv hwu
        clear hU1 hU2 hU3 hb3 hx' hy' hF hFv hbv
        go_upto_region 14 with fail
        rw [← hU9]
        clear hU9 r0 r1 r2 r3 r4 r5 B4
        go_wp2_with fail
        refine (hfi _ hbz).mono ?_
        rintro e m5 ⟨af, cf, rfl, hRf, hb5⟩
        rw [HFL.out]
        replace BU := BU.below hb5
        replace hFw := hFw.below hb5
        have hbx : Below wr.heap.size wr m5 := hbz.trans (hb5.mono hbz.size)
        have HRF : Hid (Rf m5 af cf 7 qs) := hRf
        have HFW : Hid (Fr m5 (.agg #[.bool n', .slice e1 xs'.length f1, .slice e2 ys'.length f2]) 2 (x : Rat)) := hFw
        have HBU : Hid (Box 33 m5 m2.heap.size (.bool n') (.slice e1 xs'.length f1) (.slice e2 ys'.length f2)) := BU
        have HBX : Hid (Below w.heap.size w m5) := hBw.trans (hbx.mono hBw.size)
        clear hRf hFw BU hbx hb5 hbz hfi hBw
        go_wp2
        go_loopw [13] (fun i wr => ∃ j : Nat, j ≤ k ∧ i = .int .i64 j ∧ Below m5.heap.size m5 wr) (fun i _ => k - (intOf i).toNat)
        case atStart => exact ⟨0, Nat.zero_le _, rfl, Below.refl _ _⟩
        case round =>
          obtain ⟨j, hj, rfl, hB⟩ := hrel
          by_cases hjn : j < k
          · obtain ⟨b, off, p, q, r, ea, hb, d0, d1, d2, hFj⟩ := HRF.out.1.at hB j (by rw [HFL.out]; exact hjn)
            rw [hFG.out j hjn] at hFj
            subst ea
            obtain ⟨s0, s1, s2, _⟩ := (HBU.out.below hB).cells
            have hFw := HFW.out.below hB
            have i1 : (0 : Int) ≤ (j : Int) := by omega
            have i2 : (j : Int) < (k : Int) := by omega
            obtain ⟨n9, y1, y2, y3, y4, y5, y6, e9⟩ := hFj.cells3'
            simp only [Value.agg.injEq, Array.mk.injEq, List.cons.injEq, and_true] at e9
            obtain ⟨rfl, rfl, rfl⟩ := e9
            go_wp2_with fail
            refine wp_region_held_drew (S := fun w9 => w9.cell? ⟨b, off + j * 3, none⟩ = some (.bool n9) ∧ w9.cell? ⟨b, off + j * 3 + 1, none⟩ = some (.slice y1 y2 y3) ∧ w9.cell? ⟨b, off + j * 3 + 2, none⟩ = some (.slice y4 y5 y6) ∧ w9.cell? ⟨m2.heap.size, 0, none⟩ = some (.bool n') ∧ w9.cell? ⟨m2.heap.size, 1, none⟩ = some (.slice e1 xs'.length f1) ∧ w9.cell? ⟨m2.heap.size, 2, none⟩ = some (.slice e2 ys'.length f2)) (by kernel_rfl) ?_ (fun hHeld => ?_)
            · (try dsimp only)
              go_keep
            have hdr : Below wr.heap.size wr wr.drew := Below.drew1
            generalize wr.drew = Z at hdr hHeld ⊢
            replace hFj := hFj.below hdr
            replace hFw := hFw.below hdr
            replace hB := hB.trans (hdr.mono hB.size)
            clear hdr d0 d1 d2 s0 s1 s2
            refine hT 0 hHeld ?_
            refine hT 1 hHeld ?_
            refine hT 2 hHeld ?_
            refine hT 3 hHeld ?_
            refine hT 4 hHeld ?_
            refine hCall (i := 5) rfl (by kernel_rfl) (by rfl) (fun K hK => ?_)
            go_simp
            refine (qcmp_any 7 2 _ _ _ _ Z hFj.ct hFw.ct (by decide) (by decide) (by decide) (by decide)).mono ?_
            rintro e m6 ⟨rfl, hb6⟩
            rw [sgn_nil rfl]
            have hbz9 : b < Z.heap.size := Nat.lt_of_lt_of_le hb hB.size
            have hxz9 : m2.heap.size < Z.heap.size := Nat.lt_of_lt_of_le HBU.out.lt hB.size
            replace hB := hB.trans (hb6.mono hB.size)
            obtain ⟨d0, d1, d2, s0, s1, s2⟩ := hHeld
            go_wp2_with fail
            refine hK.out _ _ ?_ (fun hHeld => ?_)
            · (try dsimp only)
              exact ⟨(hb6.cell (p := ⟨b, off + j * 3, none⟩) hbz9).trans d0, (hb6.cell (p := ⟨b, off + j * 3 + 1, none⟩) hbz9).trans d1, (hb6.cell (p := ⟨b, off + j * 3 + 2, none⟩) hbz9).trans d2, (hb6.cell (p := ⟨m2.heap.size, 0, none⟩) hxz9).trans s0, (hb6.cell (p := ⟨m2.heap.size, 1, none⟩) hxz9).trans s1, (hb6.cell (p := ⟨m2.heap.size, 2, none⟩) hxz9).trans s2⟩
            clear hK K d0 d1 d2 s0 s1 s2
            try simp only [Act.put, List.setIfInBounds_toArray, List.set_cons_zero, List.set_cons_succ]
            refine hT 6 hHeld ?_
            refine wpAnyH_done (by kernel_rfl) ?_ _
            clear hHeld hFj hFw
            go_wp2
            go_roundw
            case rel => exact ⟨j + 1, by omega, by go_num, hB⟩
            case measure => simp [intOf]; omega
          · obtain rfl : j = k := by omega
            have g5 : ¬ (j : Int) < (j : Int) := by omega
            have HBY : Hid (Below w.heap.size w wr) := HBX.out.trans (hB.mono HBX.out.size)
            go_wp2
            go_ret
            exact ⟨rfl, HBY.out⟩
      | false =>
        have hFG : Hid (∀ i, i < k → qs.getD i 0 = ((0 : Int) : Rat)) := fun i hi => by rw [HFG.out i hi]; rfl
        clear HFG
        have BU := B4
        have hbz := hbv
        have hFw := hFv
        have hlt := B4.lt
        clear B4 hbv hFv
        go_upto_region 14 with fail
        rw [← hV]
        clear hV
        go_wp2_with fail
        refine (hfi _ hbz).mono ?_
        rintro e m5 ⟨af, cf, rfl, hRf, hb5⟩
        rw [HFL.out]
        replace BU := BU.below hb5
        replace hFw := hFw.below hb5
        have hbx : Below wr.heap.size wr m5 := hbz.trans (hb5.mono hbz.size)
        have HRF : Hid (Rf m5 af cf 7 qs) := hRf
        have HFW : Hid (Fr m5 (.agg #[.bool z1, .slice x1 x2 x3, .slice x4 x5 x6]) 2 ((0 : Int) : Rat)) := hFw
        have HBU : Hid (Box 33 m5 m2.heap.size (.bool z1) (.slice x1 x2 x3) (.slice x4 x5 x6)) := BU
        have HBX : Hid (Below w.heap.size w m5) := hBw.trans (hbx.mono hBw.size)
        clear hRf hFw BU hbx hb5 hbz hfi hBw
        go_wp2
        go_loopw [13] (fun i wr => ∃ j : Nat, j ≤ k ∧ i = .int .i64 j ∧ Below m5.heap.size m5 wr) (fun i _ => k - (intOf i).toNat)
        case atStart => exact ⟨0, Nat.zero_le _, rfl, Below.refl _ _⟩
        case round =>
          obtain ⟨j, hj, rfl, hB⟩ := hrel
          by_cases hjn : j < k
          · obtain ⟨b, off, p, q, r, ea, hb, d0, d1, d2, hFj⟩ := HRF.out.1.at hB j (by rw [HFL.out]; exact hjn)
            rw [hFG.out j hjn] at hFj
            subst ea
            obtain ⟨s0, s1, s2, _⟩ := (HBU.out.below hB).cells
            have hFw := HFW.out.below hB
            have i1 : (0 : Int) ≤ (j : Int) := by omega
            have i2 : (j : Int) < (k : Int) := by omega
            obtain ⟨n9, y1, y2, y3, y4, y5, y6, e9⟩ := hFj.cells3'
            simp only [Value.agg.injEq, Array.mk.injEq, List.cons.injEq, and_true] at e9
            obtain ⟨rfl, rfl, rfl⟩ := e9
            go_wp2_with fail
            refine wp_region_held_drew (S := fun w9 => w9.cell? ⟨b, off + j * 3, none⟩ = some (.bool n9) ∧ w9.cell? ⟨b, off + j * 3 + 1, none⟩ = some (.slice y1 y2 y3) ∧ w9.cell? ⟨b, off + j * 3 + 2, none⟩ = some (.slice y4 y5 y6) ∧ w9.cell? ⟨m2.heap.size, 0, none⟩ = some (.bool z1) ∧ w9.cell? ⟨m2.heap.size, 1, none⟩ = some (.slice x1 x2 x3) ∧ w9.cell? ⟨m2.heap.size, 2, none⟩ = some (.slice x4 x5 x6)) (by kernel_rfl) ?_ (fun hHeld => ?_)
            · (try dsimp only)
              go_keep
            have hdr : Below wr.heap.size wr wr.drew := Below.drew1
            generalize wr.drew = Z at hdr hHeld ⊢
            replace hFj := hFj.below hdr
            replace hFw := hFw.below hdr
            replace hB := hB.trans (hdr.mono hB.size)
            clear hdr d0 d1 d2 s0 s1 s2
            refine hT 0 hHeld ?_
            refine hT 1 hHeld ?_
            refine hT 2 hHeld ?_
            refine hT 3 hHeld ?_
            refine hT 4 hHeld ?_
            refine hCall (i := 5) rfl (by kernel_rfl) (by rfl) (fun K hK => ?_)
            go_simp
            refine (qcmp_any 7 2 _ _ _ _ Z hFj.ct hFw.ct (by decide) (by decide) (by decide) (by decide)).mono ?_
            rintro e m6 ⟨rfl, hb6⟩
            rw [sgn_nil rfl]
            have hbz9 : b < Z.heap.size := Nat.lt_of_lt_of_le hb hB.size
            have hxz9 : m2.heap.size < Z.heap.size := Nat.lt_of_lt_of_le HBU.out.lt hB.size
            replace hB := hB.trans (hb6.mono hB.size)
            obtain ⟨d0, d1, d2, s0, s1, s2⟩ := hHeld
            go_wp2_with fail
            refine hK.out _ _ ?_ (fun hHeld => ?_)
            · (try dsimp only)
              exact ⟨(hb6.cell (p := ⟨b, off + j * 3, none⟩) hbz9).trans d0, (hb6.cell (p := ⟨b, off + j * 3 + 1, none⟩) hbz9).trans d1, (hb6.cell (p := ⟨b, off + j * 3 + 2, none⟩) hbz9).trans d2, (hb6.cell (p := ⟨m2.heap.size, 0, none⟩) hxz9).trans s0, (hb6.cell (p := ⟨m2.heap.size, 1, none⟩) hxz9).trans s1, (hb6.cell (p := ⟨m2.heap.size, 2, none⟩) hxz9).trans s2⟩
            clear hK K d0 d1 d2 s0 s1 s2
            try simp only [Act.put, List.setIfInBounds_toArray, List.set_cons_zero, List.set_cons_succ]
            refine hT 6 hHeld ?_
            refine wpAnyH_done (by kernel_rfl) ?_ _
            clear hHeld hFj hFw
            go_wp2
            go_roundw
            case rel => exact ⟨j + 1, by omega, by go_num, hB⟩
            case measure => simp [intOf]; omega
          · obtain rfl : j = k := by omega
            have g5 : ¬ (j : Int) < (j : Int) := by omega
            have HBY : Hid (Below w.heap.size w wr) := HBX.out.trans (hB.mono HBX.out.size)
            go_wp2
            go_ret
            exact ⟨rfl, HBY.out⟩

end Go.Proofs.YthoildjecoppgaaDoor
