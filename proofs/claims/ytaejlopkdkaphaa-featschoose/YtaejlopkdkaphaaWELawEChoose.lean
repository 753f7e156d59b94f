/-
  foundrylaw22: the walk of a law.
-/
import Derived.Test.YtaejlopkdkaphaaZE11
import Derived.Test.YtaejlopkdkaphaaZE12
namespace Go.Proofs.Ytaejlopkdkaphaa
open Go.RowKit Go.Maps
set_option linter.unusedSimpArgs false
set_option linter.unusedVariables false

theorem Gr.anyStr {S S' : Nat → Prop} {w : World} {a : Option Addr} {cap : Nat} {l : List ByteArray} (h : Gr El.str S w a cap l) : Gr El.str S' w a cap l :=
  ⟨h.1, h.2.1, h.2.2.1, fun i hi => by
    obtain ⟨b, off, vs, e, hb, hr, hc⟩ := h.2.2.2 i hi
    exact ⟨b, off, vs, e, hb, hr, hc⟩⟩


set_option maxHeartbeats 8000000 in
set_option maxRecDepth 100000 in
theorem featsChoose_any (S : Nat → Prop) (a : Option Addr) (ca : Nat) (l : List Ft) (b : Option Addr) (cb : Nat) (s : List Sw) (n ax : Int) (c : Option Addr) (cc : Nat) (cs : List Int) (d : Option Addr) (cd : Nat) (on : List ByteArray) (w : World) (hS : ∀ k, S k → k < w.heap.size) (hl : FtE.row.rep S w [.slice a l.length ca] l) (hs : SwE.row.rep S w [.slice b s.length cb] s) (hn : I64 n) (hax : I64 ax) (hc : Gr El.int S w c cc cs) (ho : Gr El.str S w d cd on) :
    Calls Try.prog 3 #[.agg #[.slice a l.length ca, .slice b s.length cb, .int .i64 n, .int .i64 ax], .slice c cs.length cc, .slice d on.length cd] w fun e w' => e = .returned (.bool true) ∧ Below w.heap.size w w' := by
  have kl := (rowF_rep hl).2.1
  have ks := (rowF_rep hs).2.1
  obtain ⟨W, hW, X1, hbW⟩ : ∃ W, W = w.alloc (.cells #[.slice a l.length ca, .slice b s.length cb, .int .i64 n, .int .i64 ax] 25) ∧ Bk 25 W w.heap.size [.slice a l.length ca, .slice b s.length cb, .int .i64 n, .int .i64 ax] ∧ Below w.heap.size w W := ⟨_, rfl, Bk.new _ _ _, bl1 _⟩
  have HX : Hid (∀ U, Below W.heap.size W U → U.cell? ⟨w.heap.size, 0, none⟩ = some (.slice a l.length ca) ∧ U.cell? ⟨w.heap.size, 1, none⟩ = some (.slice b s.length cb) ∧ U.cell? ⟨w.heap.size, 2, none⟩ = some (.int .i64 n) ∧ U.cell? ⟨w.heap.size, 3, none⟩ = some (.int .i64 ax)) := fun U hU => by
    obtain ⟨e0, e1, e2, e3, -⟩ := (X1.below hU).four
    exact ⟨e0, e1, e2, e3⟩
  have HL : Hid (∀ U, Below w.heap.size w U → FtE.row.rep S U [.slice a l.length ca] l) := fun U hU => FtE.row.stay hl hU.size (fun k hk hlt => ⟨hk, hU.block k hlt⟩)
  have HS : Hid (∀ U, Below w.heap.size w U → SwE.row.rep S U [.slice b s.length cb] s) := fun U hU => SwE.row.stay hs hU.size (fun k hk hlt => ⟨hk, hU.block k hlt⟩)
  have HSS : Hid (∀ k, S k → k < w.heap.size) := hS
  have HNI : Hid (I64 n) := hn
  have HAX : Hid (I64 ax) := hax
  have HBW : Hid (Below w.heap.size w W) := hbW
  have kc := hc.lenB
  have ko := ho.lenB
  have HC : Hid (∀ U, Below w.heap.size w U → Gr El.int S U c cc cs) := fun U hU => hc.below hU
  have HO : Hid (∀ U, Below w.heap.size w U → Gr El.str S U d cd on) := fun U hU => ho.below hU
  clear hc ho
  clear hl hs hS hn hax
  go_enter Try.func3, Try.ntmps3
  go_upto_region 1 with fail
  rw [← hW]
  clear hW X1
  go_wp2_with fail
  refine (awake22_any _).mono ?_
  rintro e y1 ⟨rfl, hy1⟩
  have hb1 := hbW.trans (hy1.mono hbW.size)
  obtain ⟨p0, p1, p2, p3⟩ := HX.out y1 hy1
  have hfe := few22_any S S a ca l b cb s n ax c cc cs.length y1 (rowF_rep (HL.out y1 hb1)).1 (rowF_rep (HS.out y1 hb1)).1 kl ks kc
  go_wp2_with fail
  refine hfe.mono ?_
  rintro e y2 ⟨hbo, hc2⟩
  obtain ⟨qf, rfl, hqf⟩ := hbo.out
  have hy2 := hy1.trans (hc2.mono hy1.size)
  replace hbW := hb1.trans (hc2.mono hb1.size)
  clear hfe hc2 hb1 hy1 hbo p0 p1 p2 p3
  cases qf with
  | false =>
    clear hqf
    go_wp2_with fail
    refine (awake22_any _).mono ?_
    rintro e uz ⟨rfl, hbz⟩
    have hfin := hbW.trans (hbz.mono hbW.size)
    clear hbz
    go_wp2
    go_ret
    exact ⟨rfl, hfin⟩
  | true =>
  obtain ⟨hfew, hcl⟩ := hqf rfl
  have HFW : Hid (FewF l s) := hfew
  clear hqf hfew
  by_cases hx2 : 50 < on.length
  · have g2 : decide ((50 : Int) < (on.length : Int)) = true := decide_eq_true (by omega)
    have g2n : decide (50 < on.length) = true := decide_eq_true hx2
    clear hcl
    go_wp2_with fail
    refine (awake22_any _).mono ?_
    rintro e uz ⟨rfl, hbz⟩
    have hfin := hbW.trans (hbz.mono hbW.size)
    clear hbz
    go_wp2
    go_ret
    exact ⟨rfl, hfin⟩
  have g2 : decide ((50 : Int) < (on.length : Int)) = false := decide_eq_false (by omega)
  have g2n : decide (50 < on.length) = false := decide_eq_false hx2
  have hll : l.length ≤ 300 := by have := HFW.out.len; omega
  have HLK : Hid (∀ (z : Int) (U : World), Below w.heap.size w U → I64 z → (Calls Try.prog 11 #[.slice a l.length ca, .slice b s.length cb, .int .i64 z, .slice c cs.length cc] U fun e w' => RowF (lkQ l s z cs) U.heap.size w' e ∧ Below U.heap.size U w') ∧ Calls Try.prog 12 #[.slice a l.length ca, .slice b s.length cb, .int .i64 z, .slice c cs.length cc] U fun e w' => RowF (lkQ l s z cs) U.heap.size w' e ∧ Below U.heap.size U w') := fun z U hU hz =>
    ⟨looksF_any S a ca l b cb s z c cc cs U (rowF_rep (HL.out U hU)).1 (rowF_rep (HS.out U hU)).1 (HC.out U hU) hz HFW.out.lkM HFW.out.swM, slooks22_any S a ca l b cb s z c cc cs U (rowF_rep (HL.out U hU)).1 (rowF_rep (HS.out U hU)).1 (HC.out U hU) hz HFW.out.lkM HFW.out.swM⟩
  have HCH : Hid (∀ (U : World), Below w.heap.size w U → (Calls Try.prog 13 #[.slice a l.length ca, .slice b s.length cb, .slice c cs.length cc, .slice d on.length cd] U fun e w' => RowF (chFt l s cs on) U.heap.size w' e ∧ Below U.heap.size U w') ∧ Calls Try.prog 14 #[.slice a l.length ca, .slice b s.length cb, .slice c cs.length cc, .slice d on.length cd] U fun e w' => RowF (chFt l s cs on) U.heap.size w' e ∧ Below U.heap.size U w') := fun U hU =>
    ⟨chosenF_any S a ca l b cb s c cc cs d cd on U (rowF_rep (HL.out U hU)).1 (rowF_rep (HS.out U hU)).1 (HC.out U hU) (HO.out U hU) HFW.out.lkM HFW.out.swM (by have := HFW.out.len; omega), schosen22_any S a ca l b cb s c cc cs d cd on U (rowF_rep (HL.out U hU)).1 (rowF_rep (HS.out U hU)).1 (HC.out U hU) (HO.out U hU) HFW.out.lkM HFW.out.swM (by have := HFW.out.len; omega)⟩
  have HY2 : Hid (Below W.heap.size W y2) := hy2
  clear hy2 hbW hcl hx2
  go_wp2
  clear g2 g2n
  go_loopw [7] (fun v wr => ∃ z : Int, v = .int .i64 z ∧ -1 ≤ z ∧ z ≤ (l.length : Int) + 1 ∧ Below W.heap.size W wr) (fun v _ => ((l.length : Int) + 1 - intOf v).toNat)
  case atStart => exact ⟨-1, rfl, by omega, by omega, HY2.out⟩
  case round =>
    clear HY2
    obtain ⟨z, rfl, hz1, hz2, hy⟩ := hrel
    have hbw := HBW.out.trans (hy.mono HBW.out.size)
    obtain ⟨p0, p1, p2, p3⟩ := HX.out wr hy
    by_cases hz : z ≤ (l.length : Int)
    · have d1 : decide (z ≤ (l.length : Int)) = true := decide_eq_true hz
      have hIz : I64 z := ⟨by omega, by omega⟩
      have HFA : Hid (_) := fun (U : World) (hU : Below w.heap.size w U) => HLK.out z U hU hIz
      go_upto_region 6 with fail
      refine wp_region_held_drew (S := fun u9 => u9.cell? ⟨w.heap.size, 0, none⟩ = some (.slice a l.length ca) ∧ u9.cell? ⟨w.heap.size, 1, none⟩ = some (.slice b s.length cb)) (by kernel_rfl) ⟨p0, p1⟩ (fun hHeld => ?_)
      have hdr : Below wr.heap.size wr wr.drew := Below.drew1
      generalize wr.drew = Z at hdr hHeld ⊢
      replace hy := hy.trans (hdr.mono hy.size)
      clear hdr p0 p1 p2 p3
      refine hT 0 hHeld ?_
      refine hT 1 hHeld ?_
      refine hT 2 hHeld ?_
      refine hT 3 hHeld ?_
      refine hT 4 hHeld ?_
      refine hT 5 hHeld ?_
      refine hT 7 hHeld ?_
      refine hT 8 hHeld ?_
      refine hT 9 hHeld ?_
      refine hT 10 hHeld ?_
      refine hT 11 hHeld ?_
      refine hT 12 hHeld ?_
      refine hCall (i := 6) rfl (by kernel_rfl) (by rfl) (fun K hK => ?_)
      go_simp
      refine ((HFA.out Z (HBW.out.trans (hy.mono HBW.out.size))).1).mono ?_
      rintro e v1 ⟨hr1, hc1⟩
      obtain ⟨va, rfl, hG1⟩ := hr1.out
      obtain ⟨oa, oc, rfl, R1, -⟩ := hG1.slice
      have hyv1 := hy.trans (hc1.mono hy.size)
      clear hr1 hG1 hc1 hHeld hy
      go_wp2_with fail
      refine hK.out _ _ ?_ (fun hHeld => ?_)
      · (try dsimp only)
        obtain ⟨q0, q1, -⟩ := HX.out v1 hyv1
        exact ⟨q0, q1⟩
      clear hK K
      try simp only [Act.put, List.setIfInBounds_toArray, List.set_cons_zero, List.set_cons_succ]
      refine hCall (i := 13) rfl (by kernel_rfl) (by rfl) (fun K hK => ?_)
      go_simp
      refine ((HFA.out v1 (HBW.out.trans (hyv1.mono HBW.out.size))).2).mono ?_
      rintro e v2 ⟨hr2, hc2⟩
      obtain ⟨vb, rfl, hG2⟩ := hr2.out
      obtain ⟨ob, od, rfl, R2, -⟩ := hG2.slice
      replace R1 := R1.below hc2
      have hyv2 := hyv1.trans (hc2.mono hyv1.size)
      clear hr2 hG2 hc2 hHeld hyv1 HFA
      go_wp2_with fail
      refine hK.out _ _ ?_ (fun hHeld => ?_)
      · (try dsimp only)
        obtain ⟨q0, q1, -⟩ := HX.out v2 hyv2
        exact ⟨q0, q1⟩
      clear hK K
      try simp only [Act.put, List.setIfInBounds_toArray, List.set_cons_zero, List.set_cons_succ]
      have hsm := ssameI_any oa ob oc od (lkQ l s z cs) v2 R1 R2
      clear R1 R2
      generalize (lkQ l s z cs).length = m9 at hsm hHeld ⊢
      refine hCall (i := 14) rfl (by kernel_rfl) (by rfl) (fun K hK => ?_)
      go_simp
      refine hsm.mono ?_
      rintro e v3 ⟨rfl, hc3⟩
      have hyv3 := hyv2.trans (hc3.mono hyv2.size)
      clear hsm hc3 hHeld hyv2
      go_wp2_with fail
      refine hK.out _ _ ?_ (fun hHeld => ?_)
      · (try dsimp only)
        obtain ⟨q0, q1, -⟩ := HX.out v3 hyv3
        exact ⟨q0, q1⟩
      clear hK K
      try simp only [Act.put, List.setIfInBounds_toArray, List.set_cons_zero, List.set_cons_succ]
      refine hT 15 hHeld ?_
      refine wpAnyH_done (by kernel_rfl) ?_ _
      clear hHeld
      go_wp2
      go_roundw
      case rel => exact ⟨z + 1, by go_num, by omega, by omega, hyv3⟩
      case measure => simp [intOf]; omega
    · have d1 : decide (z ≤ (l.length : Int)) = false := decide_eq_false hz
      have HFA : Hid (_) := fun (U : World) (hU : Below w.heap.size w U) => HCH.out U hU
      go_upto_region 8 with fail
      refine wp_region_held_drew (S := fun u9 => u9.cell? ⟨w.heap.size, 0, none⟩ = some (.slice a l.length ca) ∧ u9.cell? ⟨w.heap.size, 1, none⟩ = some (.slice b s.length cb)) (by kernel_rfl) ⟨p0, p1⟩ (fun hHeld => ?_)
      have hdr : Below wr.heap.size wr wr.drew := Below.drew1
      generalize wr.drew = Z at hdr hHeld ⊢
      replace hy := hy.trans (hdr.mono hy.size)
      clear hdr p0 p1 p2 p3
      refine hT 0 hHeld ?_
      refine hT 1 hHeld ?_
      refine hT 2 hHeld ?_
      refine hT 3 hHeld ?_
      refine hT 4 hHeld ?_
      refine hT 5 hHeld ?_
      refine hT 7 hHeld ?_
      refine hT 8 hHeld ?_
      refine hT 9 hHeld ?_
      refine hT 10 hHeld ?_
      refine hT 11 hHeld ?_
      refine hT 12 hHeld ?_
      refine hCall (i := 6) rfl (by kernel_rfl) (by rfl) (fun K hK => ?_)
      go_simp
      refine ((HFA.out Z (HBW.out.trans (hy.mono HBW.out.size))).1).mono ?_
      rintro e v1 ⟨hr1, hc1⟩
      obtain ⟨va, rfl, hG1⟩ := hr1.out
      obtain ⟨oa, oc, rfl, R1, -⟩ := hG1.slice
      have hyv1 := hy.trans (hc1.mono hy.size)
      clear hr1 hG1 hc1 hHeld hy
      go_wp2_with fail
      refine hK.out _ _ ?_ (fun hHeld => ?_)
      · (try dsimp only)
        obtain ⟨q0, q1, -⟩ := HX.out v1 hyv1
        exact ⟨q0, q1⟩
      clear hK K
      try simp only [Act.put, List.setIfInBounds_toArray, List.set_cons_zero, List.set_cons_succ]
      refine hCall (i := 13) rfl (by kernel_rfl) (by rfl) (fun K hK => ?_)
      go_simp
      refine ((HFA.out v1 (HBW.out.trans (hyv1.mono HBW.out.size))).2).mono ?_
      rintro e v2 ⟨hr2, hc2⟩
      obtain ⟨vb, rfl, hG2⟩ := hr2.out
      obtain ⟨ob, od, rfl, R2, -⟩ := hG2.slice
      replace R1 := R1.below hc2
      have hyv2 := hyv1.trans (hc2.mono hyv1.size)
      clear hr2 hG2 hc2 hHeld hyv1 HFA
      go_wp2_with fail
      refine hK.out _ _ ?_ (fun hHeld => ?_)
      · (try dsimp only)
        obtain ⟨q0, q1, -⟩ := HX.out v2 hyv2
        exact ⟨q0, q1⟩
      clear hK K
      try simp only [Act.put, List.setIfInBounds_toArray, List.set_cons_zero, List.set_cons_succ]
      have hsm := ssameI_any oa ob oc od (chFt l s cs on) v2 R1 R2
      clear R1 R2
      generalize (chFt l s cs on).length = m9 at hsm hHeld ⊢
      refine hCall (i := 14) rfl (by kernel_rfl) (by rfl) (fun K hK => ?_)
      go_simp
      refine hsm.mono ?_
      rintro e v3 ⟨rfl, hc3⟩
      have hyv3 := hyv2.trans (hc3.mono hyv2.size)
      clear hsm hc3 hHeld hyv2
      go_wp2_with fail
      refine hK.out _ _ ?_ (fun hHeld => ?_)
      · (try dsimp only)
        obtain ⟨q0, q1, -⟩ := HX.out v3 hyv3
        exact ⟨q0, q1⟩
      clear hK K
      try simp only [Act.put, List.setIfInBounds_toArray, List.set_cons_zero, List.set_cons_succ]
      refine hT 15 hHeld ?_
      refine wpAnyH_done (by kernel_rfl) ?_ _
      clear hHeld
      have hfin := HBW.out.trans (hyv3.mono HBW.out.size)
      go_wp2
      go_ret
      exact ⟨rfl, hfin⟩

end Go.Proofs.Ytaejlopkdkaphaa
