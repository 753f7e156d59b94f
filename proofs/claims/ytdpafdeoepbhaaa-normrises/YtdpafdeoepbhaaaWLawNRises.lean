/-
  foundrylaw08.NormRises: the walk.
-/
import Derived.Test.YtdpafdeoepbhaaaZ25
import Derived.Test.YtdpafdeoepbhaaaZ26
import Derived.Test.YtdpafdeoepbhaaaZ13
namespace Go.Proofs.Ytdpafdeoepbhaaa
open Go.RowKit Go.Maps
set_option linter.unusedSimpArgs false
set_option linter.unusedVariables false

/-- 'append(out, place...)'. -/
theorem wpList_append_ris {w : World} {ops : Array Oper} {rest : List Oper} {o : Oper} {a : Act} {Q : Exit → Act → World → Prop}
    (hgd : o.guard = none) (s x : Operand) (ho : o.op = .call { callee := .builtin .append, args := #[s, x], argTypes := #[27, 27] })
    (base : Nat) (v : Value) (zs : List Int) (hs : a.eval s = v) (hown : Io base w v zs) (pa : Option Addr) (pc n : Nat) (ps : List Int) (hn : n = ps.length) (hx : a.eval x = .slice pa n pc)
    (hp : Ri w pa pc ps) (hne : ps ≠ []) (hlen : zs.length + ps.length ≤ 1000000) (hbase : base ≤ w.heap.size)
    (h : ∀ v' w', Io base w' v' (zs ++ ps) → w.grownBy w' v.ownBlock → wpList Try.prog ops Q rest (a.put o.dst v') w') : wpList Try.prog ops Q (o :: rest) a w := by
  subst hn
  obtain ⟨i0, hi, hz0, hz1, hz2⟩ := info_parts infoA_i64
  rcases hp.2.2.2 with h0 | ⟨b, off, rfl, hb, hc⟩
  · exact absurd h0 hne
  refine wpList_append_own_at w hgd s x 27 ho base 3 i0 (.int .i64 0) 1 8 Try.underlying27 hi hz0 hz1 hz2 rfl (by decide) v zs.length (zs.map (Value.int .i64)) hs hown.2 ⟨b, off, none⟩ ps.length pc (ps.map (Value.int .i64)) hx (by simp) ?_ ?_ (by unfold maxLen; omega) (by omega) hbase ?_
  · intro j u hj
    have hjl : j < ps.length := by
      rcases Nat.lt_or_ge j ps.length with h1 | h1
      · exact h1
      · rw [List.getElem?_eq_none (by simpa using h1)] at hj; cases hj
    have hadd : (⟨b, off, none⟩ : Addr).add j = ⟨b, off + j, none⟩ := by unfold Addr.add; split <;> simp_all
    rw [hadd, hc j hjl]
    rw [List.getElem?_map, List.getElem?_eq_getElem hjl] at hj
    simp at hj
    rw [← hj]
    simp [List.getD, hjl]
  · intro u hu
    obtain ⟨z, _, rfl⟩ := List.mem_map.1 hu
    rfl
  · intro v' w' k1 k2 _ _
    refine h v' w' ⟨fun s hs => ?_, ?_⟩ k2
    · rcases List.mem_append.1 hs with hs | hs
      · exact hown.1 s hs
      · exact hp.1 s hs
    · rw [List.map_append, List.length_append]
      exact k1
/-- A row of ints of the call's own that isn't empty, and a store into it. -/
theorem Io.own {base : Nat} {w : World} {v : Value} {zs : List Int} (h : Io base w v zs) (hne : zs ≠ []) :
    ∃ g cap, v = .slice (some ⟨g, 0, none⟩) zs.length cap ∧ base ≤ g ∧ g < w.heap.size ∧ zs.length ≤ cap ∧ (∀ k, k < zs.length → w.cell? ⟨g, k, none⟩ = some (.int .i64 (zs.getD k 0))) ∧ (∀ k, w.frozen? ⟨g, k, none⟩ = false) ∧
      ∀ k z, k < zs.length → I64 z → Io base (w.setCell ⟨g, k, none⟩ (.int .i64 z)) v (zs.set k z) := by
  obtain ⟨h1, h3⟩ := h
  rcases h3.2 with ⟨rfl, h0⟩ | ⟨g, cap, cur, rfl, hb, hg, hc1, hc2, hc3, ht⟩
  · exact absurd (List.length_eq_zero_iff.1 h0) hne
  · refine ⟨g, cap, rfl, hb, (Array.getElem?_eq_some_iff.1 hg).1, hc1, fun k hk => ?_, fun k => frozen_of_row w g k _ _ hg, fun k z hk hz => ⟨fun s hs => ?_, ?_⟩⟩
    · have := h3.cells (g := g) rfl k (.int .i64 (zs.getD k 0)) (by simp [List.getD, hk])
      have hadd : (⟨g, 0, none⟩ : Addr).add k = ⟨g, 0 + k, none⟩ := by unfold Addr.add; split <;> simp_all
      rw [hadd, Nat.zero_add] at this
      exact this
    · rcases List.mem_or_eq_of_mem_set hs with hs | hs
      · exact h1 s hs
      · rw [hs]; exact hz
    · have hset := heap_setCell_same w g k cur 3 (.int .i64 z) hg
      refine ⟨by simp, .inr ⟨g, cap, _, by rw [List.length_set], hb, hset, by simpa using hc1, hc2, ?_, ?_⟩⟩
      · simpa using hc3
      · simp only [List.length_set, Nat.mul_one] at ht ⊢
        rw [List.map_set, ← ht]
        simp [List.take_set]

set_option maxHeartbeats 8000000 in
set_option maxRecDepth 100000 in
theorem normRises_any (a : Option Addr) (cap : Nat) (l : List Ax) (b : Option Addr) (bc : Nat) (m : List (List Pr)) (pa : Option Addr) (pc : Nat) (ps : List Int) (ax vl : Int) (w : World) (h : As w a cap l) (hm : Pzz w b bc m) (hp : Ri w pa pc ps) (hax : 0 ≤ ax ∧ ax < 256) (hvl : I64 vl) :
    Calls Try.prog 4 #[.slice a l.length cap, .slice b m.length bc, .agg #[.slice pa ps.length pc, .int .u8 ax, .int .i64 vl]] w fun e w' => e = .returned (.bool true) ∧ Below w.heap.size w w' := by
  have z1 := h.lenB
  have z2 := hm.lenB
  have z3 := hp.lenB
  obtain ⟨W0, hW0, X1, hbW⟩ : ∃ W, W = w.alloc (.cells #[.slice pa ps.length pc, .int .u8 ax, .int .i64 vl] 35) ∧ Box 35 W w.heap.size (.slice pa ps.length pc) (.int .u8 ax) (.int .i64 vl) ∧ Below w.heap.size w W := ⟨_, rfl, Box.new _ _ _ _ _, al1 _⟩
  replace h := h.below hbW
  replace hm := hm.below hbW
  replace hp := hp.below hbW
  go_enter Try.func4, Try.ntmps4
  go_wp2_with fail
  rw [← hW0]
  clear hW0
  refine (awake8_any _).mono ?_
  rintro e u1 ⟨rfl, hb1⟩
  replace h := h.below hb1
  replace hm := hm.below hb1
  replace hp := hp.below hb1
  replace X1 := X1.below hb1
  replace hbW := hbW.trans (hb1.mono hbW.size)
  clear hb1
  obtain ⟨p0, p1, p2, _⟩ := X1.cells
  go_wp2_with fail
  refine (few8_any a cap l.length b bc m pa pc ps.length _ hm z1 z3).mono ?_
  rintro e u2 ⟨q, rfl, hq, hb2⟩
  replace h := h.below hb2
  replace hm := hm.below hb2
  replace hp := hp.below hb2
  replace X1 := X1.below hb2
  replace hbW := hbW.trans (hb2.mono hbW.size)
  clear hb2 p0 p1 p2
  cases q with
  | false =>
    clear h hm hp
    go_wp2_with fail
    refine (awake8_any _).mono ?_
    rintro e u3 ⟨rfl, hb3⟩
    replace hbW := hbW.trans (hb3.mono hbW.size)
    clear hb3
    go_wp2
    go_ret
    exact ⟨rfl, hbW⟩
  | true =>
    replace hq := (hq rfl).2
    have hfi := cfit_any a cap l b bc m u2 h hm
    cases hf : fiB l m with
    | false =>
      rw [hf] at hfi
      clear h hm hp hf
      go_wp2_with fail
      refine hfi.mono ?_
      rintro e u3 ⟨rfl, hb3⟩
      replace hbW := hbW.trans (hb3.mono hbW.size)
      clear hb3 hfi
      go_wp2_with fail
      refine (awake8_any _).mono ?_
      rintro e u4 ⟨rfl, hb4⟩
      replace hbW := hbW.trans (hb4.mono hbW.size)
      clear hb4
      go_wp2
      go_ret
      exact ⟨rfl, hbW⟩
    | true =>
      rw [hf] at hfi
      by_cases hl0 : l.length = 0 ∨ ps.length < l.length
      · have hff : ∀ u3, Box 35 u3 w.heap.size (.slice pa ps.length pc) (.int .u8 ax) (.int .i64 vl) → True := fun _ _ => trivial
        clear hff h hm hp hf
        by_cases hl1 : l.length = 0
        · have g0 : ((l.length : Int) == 0) = true := by simp [hl1]
          clear hl1 hl0
          go_wp2_with fail
          refine hfi.mono ?_
          rintro e u3 ⟨rfl, hb3⟩
          replace hbW := hbW.trans (hb3.mono hbW.size)
          clear hb3 hfi
          go_wp2_with fail
          refine (awake8_any _).mono ?_
          rintro e u4 ⟨rfl, hb4⟩
          replace hbW := hbW.trans (hb4.mono hbW.size)
          clear hb4
          go_wp2
          go_ret
          exact ⟨rfl, hbW⟩
        · have g0 : ((l.length : Int) == 0) = false := beq_eq_false_iff_ne.2 (by omega)
          have hl2 : (ps.length : Int) < (l.length : Int) := by omega
          clear hl1 hl0
          go_wp2_with fail
          refine hfi.mono ?_
          rintro e u3 ⟨rfl, hb3⟩
          replace hbW := hbW.trans (hb3.mono hbW.size)
          replace X1 := X1.below hb3
          obtain ⟨p0, p1, p2, _⟩ := X1.cells
          clear hb3 hfi
          go_wp2_with fail
          refine (awake8_any _).mono ?_
          rintro e u4 ⟨rfl, hb4⟩
          replace hbW := hbW.trans (hb4.mono hbW.size)
          clear hb4
          go_wp2
          go_ret
          exact ⟨rfl, hbW⟩
      have hl1 : 0 < l.length := by omega
      have hl2 : ¬ (ps.length : Int) < (l.length : Int) := by omega
      have hl3 : l.length ≤ ps.length := by omega
      have g0 : ((l.length : Int) == 0) = false := beq_eq_false_iff_ne.2 (by omega)
      clear hl0
      have m1 := Int.emod_nonneg ax (show (l.length : Int) ≠ 0 by omega)
      have m2 := Int.emod_lt_of_pos ax (show (0 : Int) < (l.length : Int) by omega)
      rw [← Int.tmod_eq_emod_of_nonneg hax.1] at m1 m2
      obtain ⟨k, hk⟩ : ∃ k : Nat, ax.tmod (l.length : Int) = (k : Int) := ⟨(ax.tmod (l.length : Int)).toNat, by omega⟩
      rw [hk] at m1 m2
      have hkl : k < l.length := by omega
      have hkp : k < ps.length := by omega
      have HE : Hid (exE l m = 0) := exE_yes hf
      have HLA : Hid (∀ ps, (atL l m ps).length = l.length) := fun ps => atL_yes hf ps
      obtain ⟨z, hz⟩ : ∃ z, max (ps.getD k 0) vl = z := ⟨_, rfl⟩
      have hzi : I64 z := by
        have := hp.i64 hkp
        unfold I64 at this hvl ⊢
        omega
      have HAI : Hid (∀ i, i < l.length → crd ((atL l m ps).getD i 0) = true ∧ (i ≠ k → (atL l m ps).getD i 0 = (atL l m (ps.set k z)).getD i 0) ∧ (atL l m ps).getD i 0 ≤ (atL l m (ps.set k z)).getD i 0) := fun i hi => by
        rw [atL_get hf _ hi, atL_get hf _ hi]
        exact ⟨t14_crd _, fun hne => by rw [exQ_ne l m ps z hne], exQ_le' hf ps z i hkp (by omega)⟩
      have HMX : Hid (max (ps.getD k 0) vl = z) := hz
      clear hf hz
      have j1 : IntKind.i64.wrap ax = ax := wrapi64 (by omega) (by omega)
      have hne0 : ¬ (l.length : Int) = 0 := by omega
      have hpn : ps ≠ [] := by intro e; rw [e] at hkp; simp at hkp
      go_wp2_with fail
      refine hfi.mono ?_
      rintro e u3 ⟨rfl, hb3⟩
      replace h := h.below hb3
      replace hm := hm.below hb3
      replace hp := hp.below hb3
      replace X1 := X1.below hb3
      replace hbW := hbW.trans (hb3.mono hbW.size)
      obtain ⟨p0, p1, p2, _⟩ := X1.cells
      clear hb3 hfi
      have hI0 : Io u3.heap.size u3 (.slice none 0 0) [] := Io.nil _ _
      go_wp2_with (at_builtin; refine wpList_append_ris rfl _ _ rfl u3.heap.size _ [] rfl hI0 pa pc ps.length ps rfl rfl hp hpn (by simp; omega) (Nat.le_refl _) ?_)
      intro v' u4 hO hgrow
      have hb4 : Below u3.heap.size u3 u4 := (Below.refl _ _).grown hgrow (Nat.le_refl _) (fun k hk => by cases hk)
      obtain ⟨g, oc, rfl, hgb, hgl, hgc, hgx, hgf, hgs⟩ := hO.own hpn
      obtain ⟨pb, poff, ep, hpb, dz⟩ := hp.at hb4 k hkp
      have hO2 := hgs k z hkp hzi
      have hgk := hgx k hkp
      have hgf1 := hgf k
      obtain ⟨y, hy⟩ : ∃ y, ps.getD k 0 = y := ⟨_, rfl⟩
      have HYD : Hid (ps.getD k 0 = y) := hy
      rw [hy] at dz hgk HMX
      clear hy
      subst ep
      clear hgrow hI0 p0 p1 p2 hgx hgf hgs
      have X4 := X1.below hb4
      have hxl := X1.lt
      obtain ⟨p0, p1, p2, _⟩ := X4.cells
      go_wp2_with fail
      refine wp_region_held_drew (S := (fun u => u.cell? ⟨w.heap.size, 0, none⟩ = some (.slice (some ⟨pb, poff, none⟩) ps.length pc) ∧ u.cell? ⟨w.heap.size, 2, none⟩ = some (.int .i64 vl) ∧ u.cell? ⟨pb, poff + k, none⟩ = some (.int .i64 y))) (by kernel_rfl) ?_ (fun hHeld => ?_)
      · (try dsimp only)
        go_keep
      have hdr : Below u4.heap.size u4 u4.drew := Below.drew1
      have hO3 := hO.below hdr
      generalize u4.drew = u5 at hdr hHeld hO3 ⊢
      have hb5 : Below u3.heap.size u3 u5 := hb4.trans (hdr.mono hb4.size)
      clear hO hO2 hgk hgf1
      obtain ⟨g2, oc2, eo, _, hgl, _, hgx, hgf, hgs⟩ := hO3.own hpn
      simp only [Value.slice.injEq, Option.some.injEq, Addr.mk.injEq, and_true, true_and] at eo
      obtain ⟨rfl, rfl⟩ := eo
      have hO2 := hgs k z hkp hzi
      have hgk := hgx k hkp
      have hgf1 := hgf k
      clear hgx hgf hgs hdr X4 p0 p1 p2 dz
      refine hT 0 hHeld ?_
      refine hT 1 hHeld ?_
      refine hT 2 hHeld ?_
      refine hT 3 hHeld ?_
      refine hT 4 hHeld ?_
      refine hT 5 hHeld ?_
      refine hT 6 hHeld ?_
      refine hT 7 hHeld ?_
      refine hT 8 hHeld ?_
      refine hT 9 hHeld ?_
      refine hT 10 hHeld ?_
      refine hCall (i := 11) rfl (by kernel_rfl) (by rfl) (fun K hK => ?_)
      go_simp
      rw [HMX.out]
      obtain ⟨U6, hU6⟩ : ∃ U, u5.setCell ⟨g, k, none⟩ (.int .i64 z) = U := ⟨_, rfl⟩
      have hb6 : Below u3.heap.size u3 U6 := by rw [← hU6]; exact hb5.setCell (p := ⟨g, k, none⟩) hgb _
      rw [hU6] at hO2 ⊢
      have hbX := hbW.trans (hb6.mono hbW.size)
      replace X1 := X1.below hb6
      obtain ⟨p0, p1, p2, _⟩ := X1.cells
      obtain ⟨pb2, poff2, ep, _, dz⟩ := hp.at hb6 k hkp
      obtain ⟨y2, hy2⟩ : ∃ y, ps.getD k 0 = y := ⟨_, rfl⟩
      simp only [Option.some.injEq, Addr.mk.injEq, and_true, true_and] at ep
      obtain ⟨rfl, rfl⟩ := ep
      rw [HYD.out] at dz
      refine hK.out _ _ ?_ (fun hHeld => ?_)
      · (try dsimp only)
        exact ⟨p0, p2, dz⟩
      clear hK K hHeld dz hy2
      try simp only [Act.put, List.setIfInBounds_toArray, List.set_cons_zero, List.set_cons_succ]
      refine wpAnyH_done (by kernel_rfl) ?_ _
      replace h := h.below hb6
      replace hm := hm.below hb6
      replace hp := hp.below hb6
      obtain ⟨oa, oc3, eo, hoR⟩ := hO2.slice
      simp only [Value.slice.injEq] at eo
      obtain ⟨rfl, hlx, rfl⟩ := eo
      clear hlx
      have hat := cat_any a cap l b bc m (some ⟨pb, poff, none⟩) pc ps U6 h hm hp (by omega)
      rw [HE.out, HLA.out] at hat
      clear hb4 hb5 hb6 hbW hO3 hO2 hU6 hgk hgf1 hgl
      go_wp2_with fail
      refine hat.mono ?_
      rintro e u7 ⟨ra, rc, rfl, hR1, hb7⟩
      replace h := h.below hb7
      replace hm := hm.below hb7
      replace hoR := hoR.below hb7
      have hbW := hbX.trans (hb7.mono hbX.size)
      clear hb7 hat hp X1 p0 p1 p2 hbX
      have hat := cat_any a cap l b bc m (some ⟨g, 0, none⟩) oc (ps.set k z) u7 h hm hoR (by rw [List.length_set]; omega)
      rw [HE.out, HLA.out, List.length_set] at hat
      go_wp2_with fail
      refine hat.mono ?_
      rintro e u8 ⟨sa, sc, rfl, hR2, hb8⟩
      have HR1 : Hid (Ri u8 ra rc (atL l m ps)) := hR1.below hb8
      have HR2 : Hid (Ri u8 sa sc (atL l m (ps.set k z))) := hR2
      have HBW : Hid (Below w.heap.size w u8) := hbW.trans (hb8.mono hbW.size)
      clear hb8 hat h hm hoR hR1 hR2 hbW
      have g9 : ((l.length : Int) != (l.length : Int)) = false := by simp
      go_wp2
      go_loopw [13] (fun i wr => ∃ k : Nat, k ≤ l.length ∧ i = .int .i64 k ∧ Below u8.heap.size u8 wr) (fun i _ => l.length - (intOf i).toNat)
      case atStart => exact ⟨0, Nat.zero_le _, rfl, Below.refl _ _⟩
      case round =>
        obtain ⟨j, hj, rfl, hB⟩ := hrel
        by_cases hjn : j < l.length
        · have hbW : Below w.heap.size w wr := HBW.out.trans (hB.mono HBW.out.size)
          have hbR : Below wr.heap.size wr wr := Below.refl _ _
          obtain ⟨b1, o1, e1, q1, x1⟩ := HR1.out.at hB j (by rw [HLA.out]; exact hjn)
          subst e1
          obtain ⟨b2, o2, e2, q2, x2⟩ := HR2.out.at hB j (by rw [HLA.out]; exact hjn)
          subst e2
          obtain ⟨hcr, hce, hcl⟩ := HAI.out j hjn
          generalize (atL l m ps).getD j 0 = c1 at *
          generalize (atL l m (ps.set k z)).getD j 0 = c2 at *
          have HCR : Hid (crd c1 = true) := hcr
          have gl : decide (c2 < c1) = false := decide_eq_false (by omega)
          have hwr : IntKind.i64.wrap (j : Int) = j := wrapi64 (by omega) (by omega)
          have C0 : Cl wr b1 (o1 + j) (.int .i64 c1) := ⟨Nat.lt_of_lt_of_le q1 hB.size, x1⟩
          have C1 : Cl wr b2 (o2 + j) (.int .i64 c2) := ⟨Nat.lt_of_lt_of_le q2 hB.size, x2⟩
          clear q1 q2 hcr hcl
          by_cases hjk : j = k
          · have gk : ((j : Int) != (k : Int)) = false := by simp [hjk]
            clear hce hjk
            go_wp2_with fail
            refine wp_region_held_drew (S := (fun u => u.cell? ⟨b1, o1 + j, none⟩ = some (.int .i64 c1) ∧ u.cell? ⟨b2, o2 + j, none⟩ = some (.int .i64 c2))) (by kernel_rfl) ?_ (fun hHeld => ?_)
            · (try dsimp only)
              go_keep
            have hdr : Below wr.heap.size wr wr.drew := Below.drew1
            generalize wr.drew = ud3 at hdr hHeld ⊢
            replace C0 := C0.below hdr
            replace C1 := C1.below hdr
            replace hbW : Below w.heap.size w ud3 := hbW.trans (hdr.mono hbW.size)
            replace hbR : Below wr.heap.size wr ud3 := hbR.trans (hdr.mono hbR.size)
            clear hdr
            refine hT 0 hHeld ?_
            refine hT 1 hHeld ?_
            refine hT 2 hHeld ?_
            refine hT 3 hHeld ?_
            refine hCall (i := 4) rfl (by kernel_rfl) (by rfl) (fun K hK => ?_)
            go_simp
            refine (coordB_any c1 _).mono ?_
            rintro e u1 ⟨rfl, hb1⟩
            replace C0 := C0.below hb1
            replace C1 := C1.below hb1
            replace hbW : Below w.heap.size w u1 := hbW.trans (hb1.mono hbW.size)
            replace hbR : Below wr.heap.size wr u1 := hbR.trans (hb1.mono hbR.size)
            clear hb1
            rw [HCR.out]
            go_wp2_with fail
            refine hK.out _ _ ?_ (fun hHeld => ?_)
            · (try dsimp only)
              exact ⟨C0.2, C1.2⟩
            clear hK K
            try simp only [Act.put, List.setIfInBounds_toArray, List.set_cons_zero, List.set_cons_succ]
            refine hT 5 hHeld ?_
            refine hT 6 hHeld ?_
            refine hT 7 hHeld ?_
            refine hT 8 hHeld ?_
            refine hT 9 hHeld ?_
            refine hT 10 hHeld ?_
            refine hN 11 hHeld ?_
            refine hN 12 hHeld ?_
            refine hN 13 hHeld ?_
            refine hN 14 hHeld ?_
            refine hN 15 hHeld ?_
            refine hN 16 hHeld ?_
            refine hN 17 hHeld ?_
            refine hN 18 hHeld ?_
            refine hN 19 hHeld ?_
            refine hT 20 hHeld ?_
            refine hT 21 hHeld ?_
            refine hT 22 hHeld ?_
            refine hT 23 hHeld ?_
            refine hT 24 hHeld ?_
            refine hT 25 hHeld ?_
            refine hT 26 hHeld ?_
            refine hT 27 hHeld ?_
            refine hT 28 hHeld ?_
            refine hT 29 hHeld ?_
            refine hT 30 hHeld ?_
            refine hT 31 hHeld ?_
            refine hT 32 hHeld ?_
            refine wpAnyH_done (by kernel_rfl) ?_ _
            clear hHeld
            go_wp2
            go_roundw
            case rel => exact ⟨j + 1, by omega, by go_num, hB.trans (hbR.mono hB.size)⟩
            case measure => simp [intOf]; omega
          · have gk : ((j : Int) != (k : Int)) = true := by simp; omega
            have gce : (c1 != c2) = false := by simp [hce hjk]
            clear hce hjk
            go_wp2_with fail
            refine wp_region_held_drew (S := (fun u => u.cell? ⟨b1, o1 + j, none⟩ = some (.int .i64 c1) ∧ u.cell? ⟨b2, o2 + j, none⟩ = some (.int .i64 c2))) (by kernel_rfl) ?_ (fun hHeld => ?_)
            · (try dsimp only)
              go_keep
            have hdr : Below wr.heap.size wr wr.drew := Below.drew1
            generalize wr.drew = ud4 at hdr hHeld ⊢
            replace C0 := C0.below hdr
            replace C1 := C1.below hdr
            replace hbW : Below w.heap.size w ud4 := hbW.trans (hdr.mono hbW.size)
            replace hbR : Below wr.heap.size wr ud4 := hbR.trans (hdr.mono hbR.size)
            clear hdr
            refine hT 0 hHeld ?_
            refine hT 1 hHeld ?_
            refine hT 2 hHeld ?_
            refine hT 3 hHeld ?_
            refine hCall (i := 4) rfl (by kernel_rfl) (by rfl) (fun K hK => ?_)
            go_simp
            refine (coordB_any c1 _).mono ?_
            rintro e u1 ⟨rfl, hb1⟩
            replace C0 := C0.below hb1
            replace C1 := C1.below hb1
            replace hbW : Below w.heap.size w u1 := hbW.trans (hb1.mono hbW.size)
            replace hbR : Below wr.heap.size wr u1 := hbR.trans (hb1.mono hbR.size)
            clear hb1
            rw [HCR.out]
            go_wp2_with fail
            refine hK.out _ _ ?_ (fun hHeld => ?_)
            · (try dsimp only)
              exact ⟨C0.2, C1.2⟩
            clear hK K
            try simp only [Act.put, List.setIfInBounds_toArray, List.set_cons_zero, List.set_cons_succ]
            refine hT 5 hHeld ?_
            refine hT 6 hHeld ?_
            refine hT 7 hHeld ?_
            refine hT 8 hHeld ?_
            refine hT 9 hHeld ?_
            refine hT 10 hHeld ?_
            refine hT 11 hHeld ?_
            refine hT 12 hHeld ?_
            refine hT 13 hHeld ?_
            refine hT 14 hHeld ?_
            refine hT 15 hHeld ?_
            refine hT 16 hHeld ?_
            refine hT 17 hHeld ?_
            refine hT 18 hHeld ?_
            refine hT 19 hHeld ?_
            refine hT 20 hHeld ?_
            refine hT 21 hHeld ?_
            refine hT 22 hHeld ?_
            refine hT 23 hHeld ?_
            refine hT 24 hHeld ?_
            refine hT 25 hHeld ?_
            refine hT 26 hHeld ?_
            refine hT 27 hHeld ?_
            refine hT 28 hHeld ?_
            refine hT 29 hHeld ?_
            refine hT 30 hHeld ?_
            refine hT 31 hHeld ?_
            refine hT 32 hHeld ?_
            refine wpAnyH_done (by kernel_rfl) ?_ _
            clear hHeld
            go_wp2
            go_roundw
            case rel => exact ⟨j + 1, by omega, by go_num, hB.trans (hbR.mono hB.size)⟩
            case measure => simp [intOf]; omega
        · obtain rfl : j = l.length := by omega
          have hbX := HBW.out.trans (hB.mono HBW.out.size)
          go_wp2
          go_ret
          exact ⟨rfl, hbX⟩

end Go.Proofs.Ytdpafdeoepbhaaa
