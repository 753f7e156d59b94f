/-
  nat.divideLong: the walk.
-/
import Derived.Test.YtefdkajjdaplbabDoorDivD
import Derived.Test.YtefdkajjdaplbabDoorDivO
import Derived.Test.YtefdkajjdaplbabDoorMul
import Derived.Outline
namespace Go.Proofs.YtefdkajjdaplbabDoor
open Go.RowKit
set_option linter.unusedSimpArgs false
set_option linter.unusedVariables false

theorem Blk.set_other {e : TypeId} {w : World} {g k : Nat} {zs : List Nat} (h : Blk e w g zs) (hne : g ≠ k) (i : Nat) (v : Value) : Blk e (w.setCell ⟨k, i, none⟩ v) g zs := by
  obtain ⟨cur, h1, h2⟩ := h
  exact ⟨cur, (Below.heap_setCell w ⟨k, i, none⟩ v g hne).trans h1, h2⟩

theorem Rd.set_other {w : World} {g o k cap : Nat} {zs : List Nat} (h : Rd w (some ⟨g, o, none⟩) cap zs) (hne : g ≠ k) (i : Nat) (v : Value) : Rd (w.setCell ⟨k, i, none⟩ v) (some ⟨g, o, none⟩) cap zs :=
  h.keep (by simp [World.setCell]) fun b _ hb => by
    obtain ⟨o', e⟩ := hb
    simp at e
    exact Below.heap_setCell w ⟨k, i, none⟩ v b (by rw [← e.1]; exact hne)

theorem shdn_n (a : Option Addr) (cap n : Nat) (xs : List Nat) (s : Nat) (w : World) (hn : n = xs.length) (h : Rd w a cap xs) (hl : xs.length ≤ 500000000) (hs : s < 32) :
    Calls Tryd.prog 55 #[.slice a n cap, .int .i64 (s : Int)] w fun e w' =>
      ∃ g zs, e = .returned (.slice (some ⟨g, 0, none⟩) n n) ∧ zs.length = n ∧ V zs = V xs / 2 ^ s ∧ Rd w' (some ⟨g, 0, none⟩) n zs ∧ Below w.heap.size w w' := by
  subst hn; exact shdn_any a cap xs s w h hl hs

theorem V_of_zeros {cs : List Nat} {n : Nat} (h : n ≤ cs.length) (hz : ∀ i, n ≤ i → cs.getD i 0 = 0) : V cs = Sv (fun i => cs.getD i 0) n := by
  rw [V_Sv, show cs.length = n + (cs.length - n) by omega, Sv_add, Sv_zero (f := fun i => cs.getD (n + i) 0) (fun i _ => hz (n + i) (by omega)), Nat.mul_zero, Nat.add_zero]

set_option maxHeartbeats 4000000 in
theorem divlong_any (a : Option Addr) (cap : Nat) (xs : List Nat) (b : Option Addr) (cb : Nat) (ys : List Nat) (w : World) (ha : Rd w a cap xs) (hb : Rd w b cb ys) (ta : Tr xs) (tb : Tr ys) (h2 : 2 ≤ ys.length) (hle : V ys ≤ V xs) (hla : xs.length ≤ 400000000) (hlb : ys.length ≤ 400000000) :
    Calls Tryd.prog 44 #[.slice a xs.length cap, .slice b ys.length cb] w fun e w' =>
      ∃ a1 c1 z1 a2 c2 z2, e = .returned (.tuple #[.slice a1 z1.length c1, .slice a2 z2.length c2]) ∧ V z1 = V xs / V ys ∧ V z2 = V xs % V ys ∧ Tr z1 ∧ Tr z2 ∧ Res 33 w.heap.size w' a1 c1 z1 ∧ Res 33 w.heap.size w' a2 c2 z2 ∧ Below w.heap.size w w' := by
  obtain ⟨i0, hi, hz0, hz1, hz2⟩ := info_parts info_limb
  have hll : ys.length ≤ xs.length := by
    rcases Nat.lt_or_ge xs.length ys.length with h | h
    · have := V_lt_of_length ha.lim tb h; omega
    · exact h
  have ly := hb.lim
  have hyl := hb.le
  have hyc := hb.cap
  unfold maxLen at hyc
  obtain ⟨b1, o1, rfl, hb1, hcb⟩ := hb.fm.at (Below.refl _ _) (ys.length - 1) (by omega)
  obtain ⟨x, hx⟩ : ∃ x, ys.getD (ys.length - 1) 0 = x := ⟨_, rfl⟩
  have hx0 : x ≠ 0 := by rw [← hx]; exact tb.last (by intro e; rw [e] at h2; simp at h2)
  have hxb : x < 4294967296 := by rw [← hx]; exact ly.getD _
  rw [hx] at hcb
  obtain ⟨s, hs, hs1, hs2, hs3⟩ := lz_spec hx0 hxb
  have HX : Hid (ys.getD (ys.length - 1) 0 = x) := hx
  have HS1 : Hid ((32 - (Lib.bitLen x : Int)) = (s : Int)) := hs1
  have HS2 : Hid (2147483648 ≤ x * 2 ^ s ∧ x * 2 ^ s < 4294967296) := ⟨hs2, hs3⟩
  have HLE : Hid (V ys ≤ V xs) := hle
  have HA : Hid (V xs < 4294967296 ^ xs.length) := V_lt ha.lim
  clear hx hs1 hs2 hs3 hle
  go_enter Tryd.func44, Tryd.ntmps44
  go_wp2_with fail
  refine (lz32_any x _ hxb).mono ?_
  rintro e w' ⟨rfl, rfl⟩
  rw [HS1.out]
  clear HS1
  go_wp2_with fail
  refine (shup_any a cap xs s _ ha (by omega) hs).mono ?_
  rintro e w1 ⟨aL, capL, L, rfl, hLl, hLv, hLr, hb1'⟩
  have hbw1 := hb.below hb1'
  have HLV : Hid (V L = V xs * 2 ^ s) := hLv
  have HLL : Hid (L.length = xs.length + 1) := hLl
  clear hLv hb
  go_wp2_with fail
  refine (shup_any _ cb ys s _ hbw1 (by omega) hs).mono ?_
  rintro e w2 ⟨aB, capB, Bs, rfl, hBl, hBv, hBr, hb2'⟩
  have hL2 := hLr.below hb2'
  have hbb2 : Below w.heap.size w w2 := hb1'.trans (hb2'.mono hb1'.size)
  have HBV : Hid (V Bs = V ys * 2 ^ s) := hBv
  have hBl2 : Bs.length ≤ 1000000000 := by omega
  clear hBv hbw1 hBl
  go_wp2_with fail
  refine (trim_any _ _ Bs _ hBr.rd hBl2).mono ?_
  rintro e w3 ⟨aT, capT, rfl, hTr, hb3'⟩
  have hL3 := hL2.below hb3'
  have hbb3 : Below w.heap.size w w3 := hbb2.trans (hb3'.mono hbb2.size)
  have HTV : Hid (V (strip Bs) = V ys * 2 ^ s) := by show _ = _; rw [V_strip]; exact HBV.out
  have tT := tr_strip Bs
  generalize strip Bs = T at hTr HTV tT ⊢
  obtain ⟨hT1, hT2, hT3⟩ := long_by ly hTr.lim tT rfl (by omega) HX.out hs HS2.out.1 HS2.out.2 HTV.out
  have HT1 : Hid (T.length = ys.length) := hT1
  have HT2 : Hid (2147483648 ≤ T.getD (ys.length - 1) 0) := hT2
  have HT3 : Hid (2147483648 * 4294967296 ^ (ys.length - 1) ≤ V T) := hT3
  -- the blocks
  obtain ⟨gL, rfl, hgL1, hBL⟩ : ∃ g, aL = some ⟨g, 0, none⟩ ∧ w.heap.size ≤ g ∧ Blk 33 w1 g L := by
    rcases hLr.blk with h | h
    · rw [h] at hLl; simp at hLl
    · exact h
  have hgLlt := hBL.lt
  obtain ⟨gT, rfl, hgT1, hBT⟩ : ∃ g, aT = some ⟨g, 0, none⟩ ∧ w2.heap.size ≤ g ∧ Blk 33 w3 g T := by
    rcases hTr.blk with h | h
    · rw [h] at hT1; simp at hT1; omega
    · exact h
  have hgTlt := hBT.lt
  have s12 := hb2'.size
  have s23 := hb3'.size
  have s01 := hb1'.size
  have hBL3 : Blk 33 w3 gL L := (hBL.below hb2').below hb3'
  have hTrd := hTr.rd
  have hTc := hTrd.cap
  have hTle := hTrd.le
  have lL := hLr.lim
  have hLcap := hLr.rd.cap
  have hLle := hLr.rd.le
  unfold maxLen at hTc hLcap
  clear hT1 hT2 hT3 hLr hTr hBr hL2 hL3 hBL hBT hb1' hb2' hb3' hLl
  go_wp2_with (at_make; refine wpList_make_full _ rfl _ _ 27 rfl w3.heap.size 33 i0 (.int .u32 0) 1 Tryd.underlying27 hi hz0 hz1 _ _ _ _ (xs.length - ys.length + 1) rfl rfl (by omega) (by omega) (by rw [hz2]; omega) (by unfold maxLen; omega) (Nat.le_refl _) ?_)
  intro w4 hown4 hgrow4
  have hbb4 : Below w3.heap.size w3 w4 := (Below.refl _ _).grown hgrow4 (Nat.le_refl _) (fun k h => by cases h)
  have hBQ4 := blk_made hown4
  have hBL4 := hBL3.below hbb4
  have hT4 := hTrd.below hbb4
  have hw4 : Below w.heap.size w w4 := hbb3.trans (hbb4.mono hbb3.size)
  have hgTL : gT ≠ gL := by omega
  have hgQL : w3.heap.size ≠ gL := by omega
  have hgQT : gT ≠ w3.heap.size := by omega
  have hT2l : 2 ≤ T.length := by rw [HT1.out]; exact h2
  have hTx : T.length ≤ xs.length := by rw [HT1.out]; exact hll
  have hstart : Sv (fun j => L.getD (xs.length - ys.length + 1 + j) 0) T.length < V T := by
    refine long_start (f := fun j => L.getD j 0) (K := xs.length - ys.length + 1) (n := T.length) (la := xs.length) (VA := V xs * 2 ^ s) (s := s) (by rw [HT1.out]; omega) (by omega) ?_ (Nat.mul_lt_mul_of_pos_right HA.out (Nat.pow_pos (by decide))) ?_
    · rw [show xs.length - ys.length + 1 + T.length = L.length by rw [HT1.out, HLL.out]; omega, ← V_Sv]; exact HLV.out
    · rw [HT1.out]
      have h31 : 2 ^ s ≤ 2147483648 := Nat.pow_le_pow_right (n := 2) (by decide) (show s ≤ 31 by omega)
      exact Nat.le_trans (Nat.mul_le_mul_right _ h31) HT3.out
  have HST : Hid (Sv (fun j => L.getD (xs.length - ys.length + 1 + j) 0) T.length < V T) := hstart
  clear hstart hown4 hgrow4 hBL3 hTrd hbb4
  go_wp2
  go_loopw [10] (fun i wr => ∃ (k : Nat) (q : Int) (cs Q : List Nat), k ≤ xs.length - ys.length + 1 ∧ q = (k : Int) - 1 ∧ i = .int .i64 q ∧ cs.length = xs.length + 1 ∧ Lim cs ∧ Q.length = xs.length - ys.length + 1 ∧ Lim Q ∧
      Sv (fun j => cs.getD j 0) (k + T.length) + 4294967296 ^ k * V (Q.drop k) * V T = V xs * 2 ^ s ∧ Sv (fun j => cs.getD (k + j) 0) T.length < V T ∧ (∀ j, k + T.length ≤ j → cs.getD j 0 = 0) ∧ Blk 33 wr gL cs ∧ Blk 33 wr w3.heap.size Q ∧ Rd wr (some ⟨gT, 0, none⟩) capT T ∧ Below w.heap.size w wr) (fun i _ => (intOf i + 1).toNat)
  case atStart =>
    refine ⟨xs.length - ys.length + 1, _, L, _, Nat.le_refl _, ?_, rfl, HLL.out, lL, List.length_replicate, fun x hx => by rw [List.eq_of_mem_replicate hx]; decide, ?_, HST.out, fun j hj => getD_past _ _ ?_, hBL4, hBQ4, hT4, hw4⟩
    · omega
    · rw [List.drop_eq_nil_of_le (by simp), V_nil, Nat.mul_zero, Nat.zero_mul, Nat.add_zero, show xs.length - ys.length + 1 + T.length = L.length by rw [HT1.out, HLL.out]; omega, ← V_Sv]; exact HLV.out
    · rw [HLL.out]; rw [HT1.out] at hj; omega
  case round =>
    obtain ⟨k, q, cs, Q, hk, hq, rfl, hcl, lc, hQl, lQ, hinv, hseg, hzer, hBL, hBQ, hT, hnx⟩ := hrel
    have HC : Hid (cs.length = xs.length + 1) := hcl
    have HQ : Hid (Q.length = xs.length - ys.length + 1) := hQl
    have HI : Hid (Sv (fun j => cs.getD j 0) (k + T.length) + 4294967296 ^ k * V (Q.drop k) * V T = V xs * 2 ^ s) := hinv
    have HSG : Hid (Sv (fun j => cs.getD (k + j) 0) T.length < V T) := hseg
    have HZ : Hid (∀ j, k + T.length ≤ j → cs.getD j 0 = 0) := hzer
    have hsz := hnx.size
    clear hcl hQl hinv hseg hzer
    by_cases hk0 : k = 0
    · subst hk0
      obtain rfl : q = -1 := by omega
      clear hq
      have hr := hBQ.rd lQ 0 (xs.length - ys.length + 1) (xs.length - ys.length + 1) (by rw [HQ.out]; omega) (Nat.le_refl _) (by unfold maxLen; omega)
      rw [List.drop_zero, List.take_of_length_le (by rw [HQ.out]; exact Nat.le_refl _)] at hr
      have hr2 := hBL.rd lc 0 (xs.length + 1) capL (by rw [HC.out]; omega) (by have := HLL.out; omega) (by unfold maxLen; omega)
      rw [List.drop_zero, List.take_of_length_le (by rw [HC.out]; exact Nat.le_refl _)] at hr2
      have hfin := long_end (R := V cs) (Q := V Q) (A := V xs) (B := V ys) (S := 2 ^ s) (Nat.pow_pos (by decide))
        (by
          have h1 := HI.out
          rw [List.drop_zero, Nat.pow_zero, Nat.one_mul, Nat.zero_add, ← V_of_zeros (by rw [HC.out]; omega) (fun i hi => HZ.out i (by omega)), HTV.out] at h1
          exact h1)
        (by
          have h1 := HSG.out
          rw [Sv_congr (g := fun i => cs.getD i 0) (fun i _ => by rw [Nat.zero_add]), ← V_of_zeros (by rw [HC.out]; omega) (fun i hi => HZ.out i (by omega)), HTV.out] at h1
          exact h1)
      have HF : Hid (V Q = V xs / V ys ∧ V cs / 2 ^ s = V xs % V ys) := hfin
      clear hfin
      go_wp2_with fail
      refine (trim_n _ _ (xs.length - ys.length + 1) Q _ HQ.out.symm hr (by rw [HQ.out]; omega)).mono ?_
      rintro e v1 ⟨a1, c1, rfl, hr1, hv1⟩
      have hbv1 : Below w.heap.size w v1 := hnx.trans (hv1.mono hsz)
      obtain ⟨z1, hz1'⟩ : ∃ z1, strip Q = z1 := ⟨_, rfl⟩
      have tz1 : Tr z1 := by rw [← hz1']; exact tr_strip Q
      have HV1 : Hid (V z1 = V xs / V ys) := by show _ = _; rw [← hz1', V_strip]; exact HF.out.1
      rw [hz1'] at hr1 ⊢
      have hr2' := hr2.below hv1
      clear hr hz1'
      go_wp2_with fail
      refine (shdn_n _ _ (xs.length + 1) cs s _ HC.out.symm hr2' (by rw [HC.out]; omega) hs).mono ?_
      rintro e v2 ⟨g2, ds, rfl, hdl, hdv, hdr, hv2⟩
      have hbv2 : Below w.heap.size w v2 := hbv1.trans (hv2.mono hbv1.size)
      have hr1' := hr1.below hv2
      have HDV : Hid (V ds = V xs % V ys) := by show _ = _; rw [hdv]; exact HF.out.2
      have HDL : Hid (ds.length = xs.length + 1) := hdl
      clear hdl hdv hr1 hr2 hr2' hv1 hv2
      go_wp2_with fail
      refine (trim_n _ _ (xs.length + 1) ds _ HDL.out.symm hdr (by rw [HDL.out]; omega)).mono ?_
      rintro e v3 ⟨a2, c2, rfl, hr3, hv3⟩
      have hr1'' := hr1'.below hv3
      have hs1 := hbv2.size
      have hbv3 : Below w.heap.size w v3 := hbv2.trans (hv3.mono hbv2.size)
      go_wp2
      go_ret2
      exact ⟨a1, c1, z1, a2, c2, strip ds, rfl, HV1.out, by rw [V_strip]; exact HDV.out, tz1, tr_strip _, hr1''.mono hsz, hr3.mono hs1, hbv3⟩
    · obtain ⟨j, rfl⟩ : ∃ j, k = j + 1 := ⟨k - 1, by omega⟩
      obtain rfl : q = (j : Int) := by omega
      clear hq
      have hsl : j + T.length + 1 ≤ capL := by have := HLL.out; rw [HT1.out]; omega
      have hjc : j + T.length + 1 ≤ cs.length := by rw [HC.out, HT1.out]; omega
      have hsmall : Sv (fun i => cs.getD (j + i) 0) (T.length + 1) < 4294967296 * V T := long_small (f := fun i => cs.getD i 0) (lc.getD j) HSG.out
      have hTlt : V T < 4294967296 ^ T.length := V_lt hT.lim
      go_wp2_with fail
      rw [show j + T.length + 1 - j = T.length + 1 by omega]
      refine (divstep_any gL j (capL - j) cs gT 0 capT T wr hBL lc hT hgTL hT2l hjc (by rw [HC.out]; omega) (by omega) (by omega) (by rw [HT1.out]; exact HT2.out) hsmall).mono ?_
      rintro e v1 ⟨ds, qd, rfl, hqd, hqlt, hdl, ld, hsame, hrem, hB1, hg1⟩
      have hb1'' : Below w.heap.size w v1 := hnx.grown hg1 hsz (fun k hk => by cases hk; exact hgL1)
      have hBQ1 := hBQ.other hg1 hgQL
      have hT1' : Rd v1 (some ⟨gT, 0, none⟩) capT T := hT.other hg1 (fun k o e _ => by simp at e; rw [← e.1]; exact hgTL)
      have c2 := hBQ1.cell j (by rw [HQ.out]; omega)
      have c3 := hBQ1.frozen j
      obtain ⟨o, ho⟩ : ∃ o, Q.getD j 0 = o := ⟨_, rfl⟩
      rw [ho] at c2
      have hmod : Sv (fun i => cs.getD (j + i) 0) (T.length + 1) % V T < V T := Nat.mod_lt _ (by omega)
      obtain ⟨htop, hlow⟩ := long_top (d := fun i => ds.getD i 0) hrem hmod hTlt
      have hdm := Nat.div_add_mod (Sv (fun i => cs.getD (j + i) 0) (T.length + 1)) (V T)
      rw [← hqd] at hdm
      have HSTEP : Hid (Sv (fun i => ds.getD i 0) (j + T.length) + 4294967296 ^ j * V ((Q.set j qd).drop j) * V T = V xs * 2 ^ s) := by
        refine long_step (c := fun i => cs.getD i 0) (q := qd) HI.out (fun i hi => hsame i (by omega)) hlow hdm ?_
        rw [V_drop, getD_set_eq _ _ _ (by rw [HQ.out]; omega), List.drop_set_of_lt (by omega)]
      have HSEG : Hid (Sv (fun i => ds.getD (j + i) 0) T.length < V T) := by show _ < _; rw [hlow]; exact hmod
      have HZZ : Hid (∀ i, j + T.length ≤ i → ds.getD i 0 = 0) := fun i hi => by
        rcases Nat.lt_or_eq_of_le hi with h | h
        · rw [hsame i (by omega)]; exact HZ.out i (by omega)
        · rw [← h]; exact htop
      have HDL : Hid (ds.length = cs.length) := hdl
      clear hmod htop hlow hdm hsame hrem hqd hsmall hTlt hdl ho hBQ hT hjc
      go_wp2
      go_roundw
      case rel =>
        exact ⟨j, _, ds, Q.set j qd, by omega, rfl, by go_num, by rw [HDL.out]; exact HC.out, ld, by rw [List.length_set]; exact HQ.out, lQ.set _ hqlt, HSTEP.out, HSEG.out, HZZ.out, hB1.set_other hgQL.symm _ _, hBQ1.set _ _ _ (by rw [HQ.out]; omega) rfl, hT1'.set_other hgQT _ _, hb1''.setCell (Nat.le_trans hbb3.size (Nat.le_refl _)) _⟩
      case measure => simp [intOf]

end Go.Proofs.YtefdkajjdaplbabDoor
