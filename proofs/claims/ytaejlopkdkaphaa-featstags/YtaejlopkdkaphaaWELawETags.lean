/-
  foundrylaw22: the walk of a law.
-/
import Derived.Test.YtaejlopkdkaphaaZE11
import Derived.Test.YtaejlopkdkaphaaZE12
import Derived.Test.YtaejlopkdkaphaaZE16
namespace Go.Proofs.Ytaejlopkdkaphaa
open Go.RowKit Go.Maps
set_option linter.unusedSimpArgs false
set_option linter.unusedVariables false

theorem Gr.anyStr {S S' : Nat → Prop} {w : World} {a : Option Addr} {cap : Nat} {l : List ByteArray} (h : Gr El.str S w a cap l) : Gr El.str S' w a cap l :=
  ⟨h.1, h.2.1, h.2.2.1, fun i hi => by
    obtain ⟨b, off, vs, e, hb, hr, hc⟩ := h.2.2.2 i hi
    exact ⟨b, off, vs, e, hb, hr, hc⟩⟩


theorem turn_more {on : List ByteArray} {m : Nat} (h : m < on.length) : (on.drop (m + 1)).reverse ++ [on.getD m ⟨#[]⟩] = (on.drop m).reverse := by
  rw [List.drop_eq_getElem_cons h, List.reverse_cons, List.getD_eq_getElem?_getD, List.getElem?_eq_getElem h]
  rfl
theorem info_stF : (Try.prog.info? 9).map (fun i => (i.zero, i.size, i.bytes)) = some (some (.string ByteArray.empty), 1, 16) := by kernel_rfl


set_option maxHeartbeats 8000000 in
set_option maxRecDepth 100000 in
theorem featsTags_any (S : Nat → Prop) (a : Option Addr) (ca : Nat) (l : List Ft) (b : Option Addr) (cb : Nat) (s : List Sw) (n ax : Int) (c : Option Addr) (cc : Nat) (cs : List Int) (d : Option Addr) (cd : Nat) (on : List ByteArray) (w : World) (hS : ∀ k, S k → k < w.heap.size) (hl : FtE.row.rep S w [.slice a l.length ca] l) (hs : SwE.row.rep S w [.slice b s.length cb] s) (hn : I64 n) (hax : I64 ax) (hc : Gr El.int S w c cc cs) (ho : Gr El.str S w d cd on) :
    Calls Try.prog 6 #[.agg #[.slice a l.length ca, .slice b s.length cb, .int .i64 n, .int .i64 ax], .slice c cs.length cc, .slice d on.length cd] w fun e w' => e = .returned (.bool true) ∧ Below w.heap.size w w' := by
  have kl := (rowF_rep hl).2.1
  have ks := (rowF_rep hs).2.1
  obtain ⟨W, hW, X1, hbW⟩ : ∃ W, W = w.alloc (.cells #[.slice a l.length ca, .slice b s.length cb, .int .i64 n, .int .i64 ax] 25) ∧ Bk 25 W w.heap.size [.slice a l.length ca, .slice b s.length cb, .int .i64 n, .int .i64 ax] ∧ Below w.heap.size w W := ⟨_, rfl, Bk.new _ _ _, bl1 _⟩
  have HX : Hid (∀ U, Below W.heap.size W U → U.cell? ⟨w.heap.size, 0, none⟩ = some (.slice a l.length ca) ∧ U.cell? ⟨w.heap.size, 1, none⟩ = some (.slice b s.length cb) ∧ U.cell? ⟨w.heap.size, 2, none⟩ = some (.int .i64 n) ∧ U.cell? ⟨w.heap.size, 3, none⟩ = some (.int .i64 ax)) := fun U hU => by
    obtain ⟨e0, e1, e2, e3, -⟩ := (X1.below hU).four
    exact ⟨e0, e1, e2, e3⟩
  have HL : Hid (∀ U, Below w.heap.size w U → FtE.row.rep S U [.slice a l.length ca] l) := fun U hU => FtE.row.stay hl hU.size (fun k hk hlt => ⟨hk, hU.block k hlt⟩)
  have HS : Hid (∀ U, Below w.heap.size w U → SwE.row.rep S U [.slice b s.length cb] s) := fun U hU => SwE.row.stay hs hU.size (fun k hk hlt => ⟨hk, hU.block k hlt⟩)
  have HSS : Hid (∀ k, S k → k < w.heap.size) := hS
  have HNI : Hid (I64 n) := hn
  have HAX : Hid (I64 ax) := hax
  have HBW : Hid (Below w.heap.size w W) := hbW
  have kc := hc.lenB
  have ko := ho.lenB
  have HC : Hid (∀ U, Below w.heap.size w U → Gr El.int S U c cc cs) := fun U hU => hc.below hU
  have HO : Hid (∀ U, Below w.heap.size w U → Gr El.str S U d cd on) := fun U hU => ho.below hU
  clear hc ho
  clear hl hs hS hn hax
  go_enter Try.func6, Try.ntmps6
  go_upto_region 1 with fail
  rw [← hW]
  clear hW X1
  go_wp2_with fail
  refine (awake22_any _).mono ?_
  rintro e y1 ⟨rfl, hy1⟩
  have hb1 := hbW.trans (hy1.mono hbW.size)
  obtain ⟨p0, p1, p2, p3⟩ := HX.out y1 hy1
  have hfe := few22_any S S a ca l b cb s n ax c cc cs.length y1 (rowF_rep (HL.out y1 hb1)).1 (rowF_rep (HS.out y1 hb1)).1 kl ks kc
  go_wp2_with fail
  refine hfe.mono ?_
  rintro e y2 ⟨hbo, hc2⟩
  obtain ⟨qf, rfl, hqf⟩ := hbo.out
  have hy2 := hy1.trans (hc2.mono hy1.size)
  replace hbW := hb1.trans (hc2.mono hb1.size)
  clear hfe hc2 hb1 hy1 hbo p0 p1 p2 p3
  cases qf with
  | false =>
    clear hqf
    go_wp2_with fail
    refine (awake22_any _).mono ?_
    rintro e uz ⟨rfl, hbz⟩
    have hfin := hbW.trans (hbz.mono hbW.size)
    clear hbz
    go_wp2
    go_ret
    exact ⟨rfl, hfin⟩
  | true =>
  obtain ⟨hfew, hcl⟩ := hqf rfl
  have HFW : Hid (FewF l s) := hfew
  clear hqf hfew
  by_cases hx2 : 50 < on.length
  · have g2 : decide ((50 : Int) < (on.length : Int)) = true := decide_eq_true (by omega)
    have g2n : decide (50 < on.length) = true := decide_eq_true hx2
    clear hcl
    go_wp2_with fail
    refine (awake22_any _).mono ?_
    rintro e uz ⟨rfl, hbz⟩
    have hfin := hbW.trans (hbz.mono hbW.size)
    clear hbz
    go_wp2
    go_ret
    exact ⟨rfl, hfin⟩
  have g2 : decide ((50 : Int) < (on.length : Int)) = false := decide_eq_false (by omega)
  have g2n : decide (50 < on.length) = false := decide_eq_false hx2
  have hll : l.length ≤ 300 := by have := HFW.out.len; omega
  have HCH : Hid (∀ (U : World) (d2 : Option Addr) (cd2 : Nat) (on2 : List ByteArray), Below w.heap.size w U → Gr El.str S U d2 cd2 on2 → Calls Try.prog 13 #[.slice a l.length ca, .slice b s.length cb, .slice c cs.length cc, .slice d2 on2.length cd2] U fun e w' => RowF (chFt l s cs on2) U.heap.size w' e ∧ Below U.heap.size U w') := fun U d2 cd2 on2 hU hO =>
    chosenF_any S a ca l b cb s c cc cs d2 cd2 on2 U (rowF_rep (HL.out U hU)).1 (rowF_rep (HS.out U hU)).1 (HC.out U hU) hO HFW.out.lkM HFW.out.swM (by have := HFW.out.len; omega)
  have HON : Hid (on.length ≤ 50) := by show _ ≤ _; omega
  have HY2 : Hid (Below W.heap.size W y2) := hy2
  obtain ⟨B, hBB⟩ : ∃ g, y2.heap.size = g := ⟨_, rfl⟩
  have HBB : Hid (y2.heap.size = B) := hBB
  clear hy2 hbW hcl hBB
  go_wp2
  clear g2 g2n
  go_loopw [7, 8] (fun v i wr => ∃ (z : Int) (R : List ByteArray), i = .int .i64 z ∧ -1 ≤ z ∧ z < (on.length : Int) ∧ Hid (R = (on.drop (z + 1).toNat).reverse) ∧ Hid (Gw El.str 9 B (fun _ => False) wr v R) ∧ Below y2.heap.size y2 wr) (fun _ i _ => (intOf i + 1).toNat)
  case atStart => exact ⟨(on.length : Int) - 1, [], by go_num, by omega, by omega, (by show [] = _; rw [show ((on.length : Int) - 1 + 1).toNat = on.length by omega, List.drop_length]; rfl), Gw.nil _ _ _ _ _, Below.refl _ _⟩
  case round =>
    obtain ⟨z, R, rfl, hz1, hz2, HR, HGW, hB⟩ := hrel
    obtain ⟨a7, c7, e7, -, -⟩ := HGW.out.slice
    subst e7
    by_cases hz : 0 ≤ z
    · obtain ⟨m, rfl⟩ : ∃ m : Nat, z = (m : Int) := ⟨z.toNat, by omega⟩
      have hml : m < on.length := by omega
      have HR2 : Hid (R ++ [on.getD m ⟨#[]⟩] = (on.drop m).reverse) := by show _ = _; rw [HR.out, show ((m : Int) + 1).toNat = m + 1 by omega]; exact turn_more hml
      have hbw := HBW.out.trans ((HY2.out.trans (hB.mono HY2.out.size)).mono HBW.out.size)
      obtain ⟨b1, off, ea, hb1, hsz, d0⟩ := (HO.out wr hbw).st1 (Below.refl _ _) m hml
      have hrl : R.length ≤ 50 := by have h1 := HON.out; rw [HR.out, List.length_reverse, List.length_drop]; omega
      generalize on.getD m ⟨#[]⟩ = x at *
      have i1 : (0 : Int) ≤ (m : Int) := hz
      have i2 : (m : Int) < (on.length : Int) := hz2
      subst ea
      obtain ⟨V9, hV9, Y9, hb9⟩ : ∃ V, V = wr.alloc (.cells #[.string x] 9) ∧ Bk 9 V wr.heap.size [.string x] ∧ Below wr.heap.size wr V := ⟨_, rfl, Bk.new _ _ _, bl1 _⟩
      have hrep : El.str.rep (fun q => False ∧ (Value.slice a7 R.length c7).ownBlock ≠ some q) V9 [.string x] x := ⟨rfl, hsz⟩
      have hone := Gr.one (E := El.str) hrep Y9.lt (fun j hj => Y9.cell j hj)
      have hGb := HGW.out.below hb9
      have hBb := hB.trans (hb9.mono hB.size)
      have hbs : B ≤ V9.heap.size := by rw [← HBB.out]; exact hBb.size
      have hlm : R.length + 1 ≤ 1000000 := by omega
      have HOW : Hid (∀ q, (Value.slice a7 R.length c7).ownBlock = some q → B ≤ q) := fun q e => (HGW.out.lo e).1
      clear hrep HGW hB HR hbw hsz hml hrl
      go_wp2_with (at_builtin; rw [← hV9]; refine wpList_append_el (E := El.str) 27 9 Try.underlying27 info_stF rfl (by decide) (by decide) rfl _ _ rfl B (fun _ => False) _ R rfl hGb (some ⟨wr.heap.size, 0, none⟩) 1 1 [x] rfl rfl hone hlm hbs ?_)
      intro v9 w9 hT9 hgrow _
      try rw [← hV9] at hgrow
      have hB9 : Below y2.heap.size y2 w9 := hBb.grown hgrow hBb.size (fun q hq => by rw [HBB.out]; exact HOW.out q hq)
      have HT9 : Hid (Gw El.str 9 B (fun _ => False) w9 v9 (R ++ [x])) := hT9
      have HR3 : Hid (R ++ [x] = (on.drop ((m : Int) - 1 + 1).toNat).reverse) := by show _ = _; rw [show ((m : Int) - 1 + 1).toNat = m by omega]; exact HR2.out
      clear hT9 hgrow hGb hone hbs hlm hV9 Y9 hb9 hBb HOW HR2 d0
      go_wp2
      go_roundw
      case rel => exact ⟨(m : Int) - 1, R ++ [x], by go_num, by omega, by omega, HR3, HT9, hB9⟩
      case measure => simp [intOf] <;> omega
    · have hz3 : z = -1 := by omega
      have HRR : Hid (R = on.reverse) := by show _ = _; rw [HR.out, hz3]; rfl
      have hbw := HBW.out.trans ((HY2.out.trans (hB.mono HY2.out.size)).mono HBW.out.size)
      have hrl : R.length + on.length ≤ 1000000 := by have h1 := HON.out; rw [HRR.out, List.length_reverse]; omega
      have hsrc : Gr El.str (fun k => False ∧ (Value.slice a7 R.length c7).ownBlock ≠ some k) wr d cd on := (HO.out wr hbw).anyStr
      have hGb := HGW.out
      have hbs : B ≤ wr.heap.size := by rw [← HBB.out]; exact hB.size
      have HOW : Hid (∀ q, (Value.slice a7 R.length c7).ownBlock = some q → B ≤ q) := fun q e => (HGW.out.lo e).1
      have g5 : ¬ 0 ≤ z := hz
      clear HGW HR hz3 hbw
      go_wp2_with (at_builtin; refine wpList_append_el (E := El.str) 27 9 Try.underlying27 info_stF rfl (by decide) (by decide) rfl _ _ rfl B (fun _ => False) _ R rfl hGb d cd _ on rfl rfl hsrc hrl hbs ?_)
      intro v9 w9 hT9 hgrow _
      have hB9 : Below y2.heap.size y2 w9 := hB.grown hgrow hB.size (fun q hq => by rw [HBB.out]; exact HOW.out q hq)
      have HCE : Hid (chFt l s cs (R ++ on) = chFt l s cs on) := by show _ = _; rw [HRR.out]; exact chFt_turned
      obtain ⟨a8, c8, e8, hgr8, -⟩ := hT9.slice
      subst e8
      obtain ⟨TT, hTT⟩ : ∃ T, R ++ on = T := ⟨_, rfl⟩
      rw [hTT] at hgr8 HCE ⊢
      have HTR : Hid (∀ U, Below w9.heap.size w9 U → Gr El.str S U a8 c8 TT) := fun U hU => (hgr8.below hU).anyStr
      have kt := hgr8.lenB
      have hy := HY2.out.trans (hB9.mono HY2.out.size)
      have hbw := HBW.out.trans (hy.mono HBW.out.size)
      clear hT9 hgrow hGb hbs hrl hsrc HOW HRR hgr8 hTT hB9 hB g5
      -- a
      obtain ⟨p0, p1, -⟩ := HX.out w9 hy
      have hc1 := HCH.out w9 d cd on hbw (HO.out w9 hbw)
      go_wp2_with fail
      refine hc1.mono ?_
      rintro e v1 ⟨hr1, hb1⟩
      obtain ⟨va, rfl, hG1⟩ := hr1.out
      obtain ⟨oa, oc, rfl, hga, -⟩ := Gw.slice hG1
      have HA : Hid (∀ U, Below v1.heap.size v1 U → Gr El.int (fun _ => False) U oa oc (chFt l s cs on)) := fun U hU => hga.below hU
      have ka := hga.lenB
      replace hy := hy.trans (hb1.mono hy.size)
      replace hbw := hbw.trans (hb1.mono hbw.size)
      have HT1 : Hid (Gr El.str S v1 a8 c8 TT) := HTR.out v1 hb1
      clear hc1 hr1 hG1 hga p0 p1 HTR hb1
      -- turned
      obtain ⟨p0, p1, -⟩ := HX.out v1 hy
      have hc2 := HCH.out v1 a8 c8 TT hbw HT1.out
      rw [HCE.out] at hc2
      go_wp2_with fail
      refine hc2.mono ?_
      rintro e v2 ⟨hr2, hb2⟩
      obtain ⟨vb, rfl, hG2⟩ := hr2.out
      obtain ⟨ob, od, rfl, R2, -⟩ := hG2.slice
      replace hy := hy.trans (hb2.mono hy.size)
      replace hbw := hbw.trans (hb2.mono hbw.size)
      have hsm := ssameI_any oa ob oc od (chFt l s cs on) v2 (HA.out v2 hb2).ri R2
      clear hc2 hr2 hG2 R2 HT1 HCE p0 p1
      have HRI : Hid (riT (chFt l s cs on)) := chFt_ri ..
      have HMO : Hid (∀ q ∈ chFt l s cs (on.take (on.length / 2)), q ∈ chFt l s cs on) := chFt_more (fun q hq => List.mem_of_mem_take hq)
      have HRL : Hid (riT (chFt l s cs (on.take (on.length / 2)))) := chFt_ri ..
      obtain ⟨A, hA⟩ : ∃ A, chFt l s cs on = A := ⟨_, rfl⟩
      rw [hA] at hsm HA ka HRI HMO ⊢
      clear hA
      go_wp2_with fail
      refine hsm.mono ?_
      rintro e v3 ⟨rfl, hb3⟩
      have hva := hb2.trans (hb3.mono hb2.size)
      replace hy := hy.trans (hb3.mono hy.size)
      replace hbw := hbw.trans (hb3.mono hbw.size)
      clear hsm hb2 hb3
      -- less
      obtain ⟨p0, p1, -⟩ := HX.out v3 hy
      have hc4 : ∀ U, Below w.heap.size w U → Calls Try.prog 13 #[.slice a l.length ca, .slice b s.length cb, .slice c cs.length cc, .slice d (on.length / 2) cd] U fun e w' => RowF (chFt l s cs (on.take (on.length / 2))) U.heap.size w' e ∧ Below U.heap.size U w' := fun U hU => by
        have h := HCH.out U d cd (on.take (on.length / 2)) hU ((HO.out U hU).take _)
        rw [List.length_take, show min (on.length / 2) on.length = on.length / 2 by omega] at h
        exact h
      have hcap := (HO.out v3 hbw).1
      have hcap2 := (HO.out v3 hbw).2.1
      unfold maxLen at hcap2
      obtain ⟨hf, hhf⟩ : ∃ h, on.length / 2 = h := ⟨_, rfl⟩
      have hhalf : hf ≤ cd := by omega
      have HWR : Hid (IntKind.i64.wrap ((on.length : Int) / 2) = (hf : Int)) := by
        show _ = _
        rw [wrapi64F (by omega) (by omega)]
        omega
      rw [hhf] at hc4 HMO HRL
      clear hhf
      go_upto_region 12 with fail
      refine wp_region_held_drew (S := fun u9 => u9.cell? ⟨w.heap.size, 0, none⟩ = some (.slice a l.length ca) ∧ u9.cell? ⟨w.heap.size, 1, none⟩ = some (.slice b s.length cb)) (by kernel_rfl) ⟨p0, p1⟩ (fun hHeld => ?_)
      have hdr : Below v3.heap.size v3 v3.drew := Below.drew1
      generalize v3.drew = Z at hdr hHeld ⊢
      replace hva := hva.trans (hdr.mono hva.size)
      replace hy := hy.trans (hdr.mono hy.size)
      replace hbw := hbw.trans (hdr.mono hbw.size)
      clear hdr p0 p1
      refine hT 0 hHeld ?_
      refine hT 1 hHeld ?_
      refine hT 2 hHeld ?_
      refine hT 3 hHeld ?_
      refine hT 4 hHeld ?_
      refine hT 5 hHeld ?_
      refine hT 6 hHeld ?_
      refine hT 7 hHeld ?_
      refine hT 8 hHeld ?_
      rw [HWR.out]
      clear HWR
      refine hT 9 hHeld ?_
      refine hCall (i := 10) rfl (by kernel_rfl) (by rfl) (fun K hK => ?_)
      go_simp
      refine (hc4 Z hbw).mono ?_
      rintro e v4 ⟨hr4, hb4⟩
      obtain ⟨vl, rfl, hG4⟩ := hr4.out
      obtain ⟨la, lc, rfl, hgl, -⟩ := Gw.slice hG4
      have hhy := hy.trans (hb4.mono hy.size)
      clear hc4 hr4 hG4
      go_wp2_with fail
      refine hK.out _ _ ?_ (fun hHeld => ?_)
      · (try dsimp only)
        obtain ⟨q0, q1, -⟩ := HX.out v4 hhy
        exact ⟨q0, q1⟩
      clear hK K
      try simp only [Act.put, List.setIfInBounds_toArray, List.set_cons_zero, List.set_cons_succ]
      refine hT 11 hHeld ?_
      refine wpAnyH_done (by kernel_rfl) ?_ _
      have hva4 := hva.trans (hb4.mono hva.size)
      have hbw4 := hbw.trans (hb4.mono hbw.size)
      have kml := hgl.lenB
      obtain ⟨M, hM⟩ : ∃ M, chFt l s cs (on.take hf) = M := ⟨_, rfl⟩
      rw [hM] at hgl kml HMO HRL ⊢
      have HM4 : Hid (∀ U, Below v4.heap.size v4 U → Gr El.int (fun _ => False) U la lc M) := fun U hU => hgl.below hU
      have HA4 : Hid (∀ U, Below v4.heap.size v4 U → Gr El.int (fun _ => False) U oa oc A) := fun U hU => HA.out U (hva4.trans (hU.mono hva4.size))
      have HW4 : Hid (Below w.heap.size w v4) := hbw4
      clear hHeld hb4 hgl hM hva hbw hy hhy hva4 hbw4 hcap hcap2 hhalf HA HCH
      go_wp2
      go_loopw [11, 12] (fun vk vi wx => ∃ (k i : Nat), vk = .int .i64 (k : Int) ∧ vi = .int .i64 (i : Int) ∧ i ≤ A.length ∧ Hid (GrT A M i k) ∧ Below v4.heap.size v4 wx) (fun _ vi _ => A.length - (intOf vi).toNat)
      case atStart => exact ⟨0, 0, rfl, rfl, Nat.zero_le _, GrT.zero A M, Below.refl _ _⟩
      case round =>
        rename World => wx
        obtain ⟨k, i, rfl, rfl, hi, HGT, hB⟩ := hrel
        by_cases hin : i < A.length
        · obtain ⟨b1, o1, ea, hb1, hI1, d0⟩ := (HA4.out wx hB).in1 (Below.refl _ _) i hin
          have i1 : (0 : Int) ≤ (i : Int) := by omega
          have i2 : (i : Int) < (A.length : Int) := by omega
          have HST : Hid (GrT A M (i + 1) (if k < M.length ∧ M.getD k 0 = A.getD i 0 then k + 1 else k)) := HGT.out.step HRI.out HRL.out HMO.out hin
          have HPV : Hid (∀ j, j + 1 = i → wx.cell? ⟨b1, o1 + j, none⟩ = some (.int .i64 (A.getD j 0)) ∧ A.getD j 0 < A.getD i 0 ∧ I64 (A.getD j 0)) := fun j hj => by
            obtain ⟨b2, o2, e2, _, r1, r2⟩ := (HA4.out wx hB).in1 (Below.refl _ _) j (by omega)
            rw [ea] at e2
            cases e2
            exact ⟨r2, riT_lt HRI.out (by omega) hin, r1⟩
          have hkl := HGT.out.le
          clear HGT
          have HCX : Hid (∀ U, Below v4.heap.size v4 U → U.cell? ⟨b1, o1 + i, none⟩ = some (.int .i64 (A.getD i 0))) := fun U hU => by
            obtain ⟨b2, o2, e2, _, _, r2⟩ := (HA4.out U hU).in1 (Below.refl _ _) i hin
            rw [ea] at e2
            cases e2
            exact r2
          subst ea
          generalize A.getD i 0 = x at *
          rcases Nat.eq_zero_or_pos i with hi0 | hi0
          · have d1 : decide ((0 : Int) < (i : Int)) = false := decide_eq_false (by omega)
            have d1n : decide (0 < i) = false := decide_eq_false (by omega)
            clear HPV hi0
            go_wp2_with fail
            go_quiet (fail)
            have hB2 := hB.trans ((below_drewN (Below.refl wx.heap.size wx) nq).mono hB.size)
            generalize wx.drewN nq = uf at hB2
            clear d0 hB d1 d1n
            have d0 := HCX.out uf hB2
            by_cases hkm : k < M.length
            rotate_left
            · have g1 : decide ((k : Int) < (M.length : Int)) = false := decide_eq_false (by omega)
              have g1n : decide (k < M.length) = false := decide_eq_false hkm
              have HS2 : Hid (GrT A M (i + 1) k) := by have h := HST.out; rw [if_neg (fun h => hkm h.1)] at h; exact h
              clear HST HCX
              go_wp2_with fail
              go_quiet (fail)
              have hB3 := hB2.trans ((below_drewN (Below.refl uf.heap.size uf) nq).mono hB2.size)
              generalize uf.drewN nq = ug at hB3
              clear d0 hB2
              go_wp2
              go_roundw
              case rel => exact ⟨k, i + 1, rfl, by go_num, by omega, HS2, hB3⟩
              case measure => simp [intOf]; omega
            have g1 : decide ((k : Int) < (M.length : Int)) = true := decide_eq_true (by omega)
            have g1n : decide (k < M.length) = true := decide_eq_true hkm
            obtain ⟨b5, o5, eb, hb5, hI5, d5⟩ := (HM4.out uf hB2).in1 (Below.refl _ _) k hkm
            have i7 : (0 : Int) ≤ (k : Int) := by omega
            have i8 : (k : Int) < (M.length : Int) := by omega
            subst eb
            by_cases heq : M.getD k 0 = x
            · have HS2 : Hid (GrT A M (i + 1) (k + 1)) := by have h := HST.out; rw [if_pos ⟨hkm, heq⟩] at h; exact h
              rw [heq] at d5
              clear HST HCX heq
              go_wp2_with fail
              go_quiet (fail)
              have hB3 := hB2.trans ((below_drewN (Below.refl uf.heap.size uf) nq).mono hB2.size)
              generalize uf.drewN nq = ug at hB3
              clear d0 d5 hB2
              go_wp2
              go_roundw
              case rel => exact ⟨k + 1, i + 1, by go_num, by go_num, by omega, HS2, hB3⟩
              case measure => simp [intOf]; omega
            · have HS2 : Hid (GrT A M (i + 1) k) := by have h := HST.out; rw [if_neg (fun h => heq h.2)] at h; exact h
              generalize M.getD k 0 = y9 at *
              have g6 : (y9 == x) = false := beq_eq_false_iff_ne.2 heq
              clear HST HCX heq
              go_wp2_with fail
              go_quiet (fail)
              have hB3 := hB2.trans ((below_drewN (Below.refl uf.heap.size uf) nq).mono hB2.size)
              generalize uf.drewN nq = ug at hB3
              clear d0 d5 hB2
              go_wp2
              go_roundw
              case rel => exact ⟨k, i + 1, rfl, by go_num, by omega, HS2, hB3⟩
              case measure => simp [intOf]; omega
          · have d1 : decide ((0 : Int) < (i : Int)) = true := decide_eq_true (by omega)
            have d1n : decide (0 < i) = true := decide_eq_true hi0
            obtain ⟨j, hj⟩ : ∃ j, j + 1 = i := ⟨i - 1, by omega⟩
            obtain ⟨d3, hlt, hIj⟩ := HPV.out j hj
            generalize A.getD j 0 = y at *
            have d2 : decide (x ≤ y) = false := decide_eq_false (by omega)
            have hji : (i : Int) - 1 = (j : Int) := by omega
            have i5 : (0 : Int) ≤ (j : Int) := by omega
            have i6 : (j : Int) < (A.length : Int) := by omega
            have HJ : Hid (i = j + 1) := hj.symm
            clear HPV hi0 hlt hj
            go_wp2_with fail
            go_quiet (fail)
            have hB2 := hB.trans ((below_drewN (Below.refl wx.heap.size wx) nq).mono hB.size)
            generalize wx.drewN nq = uf at hB2
            clear d0 d3 hB d1 d1n d2 hji
            have d0 := HCX.out uf hB2
            by_cases hkm : k < M.length
            rotate_left
            · have g1 : decide ((k : Int) < (M.length : Int)) = false := decide_eq_false (by omega)
              have g1n : decide (k < M.length) = false := decide_eq_false hkm
              have HS2 : Hid (GrT A M (i + 1) k) := by have h := HST.out; rw [if_neg (fun h => hkm h.1)] at h; exact h
              clear HST HCX
              go_wp2_with fail
              go_quiet (fail)
              have hB3 := hB2.trans ((below_drewN (Below.refl uf.heap.size uf) nq).mono hB2.size)
              generalize uf.drewN nq = ug at hB3
              clear d0 hB2
              go_wp2
              go_roundw
              case rel => exact ⟨k, i + 1, rfl, by go_num, by omega, HS2, hB3⟩
              case measure => simp [intOf]; omega
            have g1 : decide ((k : Int) < (M.length : Int)) = true := decide_eq_true (by omega)
            have g1n : decide (k < M.length) = true := decide_eq_true hkm
            obtain ⟨b5, o5, eb, hb5, hI5, d5⟩ := (HM4.out uf hB2).in1 (Below.refl _ _) k hkm
            have i7 : (0 : Int) ≤ (k : Int) := by omega
            have i8 : (k : Int) < (M.length : Int) := by omega
            subst eb
            by_cases heq : M.getD k 0 = x
            · have HS2 : Hid (GrT A M (i + 1) (k + 1)) := by have h := HST.out; rw [if_pos ⟨hkm, heq⟩] at h; exact h
              rw [heq] at d5
              clear HST HCX heq
              go_wp2_with fail
              go_quiet (fail)
              have hB3 := hB2.trans ((below_drewN (Below.refl uf.heap.size uf) nq).mono hB2.size)
              generalize uf.drewN nq = ug at hB3
              clear d0 d5 hB2
              go_wp2
              go_roundw
              case rel => exact ⟨k + 1, i + 1, by go_num, by go_num, by omega, HS2, hB3⟩
              case measure => simp [intOf]; omega
            · have HS2 : Hid (GrT A M (i + 1) k) := by have h := HST.out; rw [if_neg (fun h => heq h.2)] at h; exact h
              generalize M.getD k 0 = y9 at *
              have g6 : (y9 == x) = false := beq_eq_false_iff_ne.2 heq
              clear HST HCX heq
              go_wp2_with fail
              go_quiet (fail)
              have hB3 := hB2.trans ((below_drewN (Below.refl uf.heap.size uf) nq).mono hB2.size)
              generalize uf.drewN nq = ug at hB3
              clear d0 d5 hB2
              go_wp2
              go_roundw
              case rel => exact ⟨k, i + 1, rfl, by go_num, by omega, HS2, hB3⟩
              case measure => simp [intOf]; omega
        · have HK : Hid (k = M.length) := GrT.all (by have h := HGT.out; rw [show i = A.length by omega] at h; exact h) HMO.out
          have g4 : ¬ (i : Int) < (A.length : Int) := by omega
          have g5 : ((k : Int) == (M.length : Int)) = true := by rw [HK.out]; simp
          have hfin := HW4.out.trans (hB.mono HW4.out.size)
          clear HGT
          go_wp2
          go_ret
          exact ⟨rfl, hfin⟩

end Go.Proofs.Ytaejlopkdkaphaa
