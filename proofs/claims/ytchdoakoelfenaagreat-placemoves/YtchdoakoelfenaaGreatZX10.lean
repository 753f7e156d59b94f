/-
  nat.divideLong: the walk.
  nat.Sub: the walk.
  nat.Div: the walk.
  nat.gcdSmall, nat.Gcd: the walks.
-/
import Derived.Test.YtchdoakoelfenaaGreatZX9
import Derived.Test.YtchdoakoelfenaaGreatZX8
import Derived.Outline
import Derived.Test.YtchdoakoelfenaaGreatZX7
import Derived.Deep.LoopGhost
namespace Go.Proofs.YtchdoakoelfenaaGreat
open Go.RowKit
set_option linter.unusedSimpArgs false
set_option linter.unusedVariables false

theorem Blk.set_other {e : TypeId} {w : World} {g k : Nat} {zs : List Nat} (h : Blk e w g zs) (hne : g ≠ k) (i : Nat) (v : Value) : Blk e (w.setCell ⟨k, i, none⟩ v) g zs := by
  obtain ⟨cur, h1, h2⟩ := h
  exact ⟨cur, (Below.heap_setCell w ⟨k, i, none⟩ v g hne).trans h1, h2⟩

theorem Rd.set_other {w : World} {g o k cap : Nat} {zs : List Nat} (h : Rd w (some ⟨g, o, none⟩) cap zs) (hne : g ≠ k) (i : Nat) (v : Value) : Rd (w.setCell ⟨k, i, none⟩ v) (some ⟨g, o, none⟩) cap zs :=
  h.keep (by simp [World.setCell]) fun b _ hb => by
    obtain ⟨o', e⟩ := hb
    simp at e
    exact Below.heap_setCell w ⟨k, i, none⟩ v b (by rw [← e.1]; exact hne)

theorem shdn_n (a : Option Addr) (cap n : Nat) (xs : List Nat) (s : Nat) (w : World) (hn : n = xs.length) (h : Rd w a cap xs) (hl : xs.length ≤ 500000000) (hs : s < 32) :
    Calls Tryz.prog 130 #[.slice a n cap, .int .i64 (s : Int)] w fun e w' =>
      ∃ g zs, e = .returned (.slice (some ⟨g, 0, none⟩) n n) ∧ zs.length = n ∧ V zs = V xs / 2 ^ s ∧ Rd w' (some ⟨g, 0, none⟩) n zs ∧ Below w.heap.size w w' := by
  subst hn; exact shdn_any a cap xs s w h hl hs

theorem V_of_zeros {cs : List Nat} {n : Nat} (h : n ≤ cs.length) (hz : ∀ i, n ≤ i → cs.getD i 0 = 0) : V cs = Sv (fun i => cs.getD i 0) n := by
  rw [V_Sv, show cs.length = n + (cs.length - n) by omega, Sv_add, Sv_zero (f := fun i => cs.getD (n + i) 0) (fun i _ => hz (n + i) (by omega)), Nat.mul_zero, Nat.add_zero]

set_option maxHeartbeats 4000000 in
set_option maxRecDepth 100000 in
theorem divlong_any (a : Option Addr) (cap : Nat) (xs : List Nat) (b : Option Addr) (cb : Nat) (ys : List Nat) (w : World) (ha : Rd w a cap xs) (hb : Rd w b cb ys) (ta : Tr xs) (tb : Tr ys) (h2 : 2 ≤ ys.length) (hle : V ys ≤ V xs) (hla : xs.length ≤ 400000000) (hlb : ys.length ≤ 400000000) :
    Calls Tryz.prog 117 #[.slice a xs.length cap, .slice b ys.length cb] w fun e w' =>
      ∃ a1 c1 z1 a2 c2 z2, e = .returned (.tuple #[.slice a1 z1.length c1, .slice a2 z2.length c2]) ∧ V z1 = V xs / V ys ∧ V z2 = V xs % V ys ∧ Tr z1 ∧ Tr z2 ∧ Res 136 w.heap.size w' a1 c1 z1 ∧ Res 136 w.heap.size w' a2 c2 z2 ∧ Below w.heap.size w w' := by
  obtain ⟨i0, hi, hz0, hz1, hz2⟩ := info_parts info_limb
  have hll : ys.length ≤ xs.length := by
    rcases Nat.lt_or_ge xs.length ys.length with h | h
    · have := V_lt_of_length ha.lim tb h; omega
    · exact h
  have ly := hb.lim
  have hyl := hb.le
  have hyc := hb.cap
  unfold maxLen at hyc
  obtain ⟨b1, o1, rfl, hb1, hcb⟩ := hb.fm.at (Below.refl _ _) (ys.length - 1) (by omega)
  obtain ⟨x, hx⟩ : ∃ x, ys.getD (ys.length - 1) 0 = x := ⟨_, rfl⟩
  have hx0 : x ≠ 0 := by rw [← hx]; exact tb.last (by intro e; rw [e] at h2; simp at h2)
  have hxb : x < 4294967296 := by rw [← hx]; exact ly.getD _
  rw [hx] at hcb
  obtain ⟨s, hs, hs1, hs2, hs3⟩ := lz_spec hx0 hxb
  have HX : Hid (ys.getD (ys.length - 1) 0 = x) := hx
  have HS1 : Hid ((32 - (Lib.bitLen x : Int)) = (s : Int)) := hs1
  have HS2 : Hid (2147483648 ≤ x * 2 ^ s ∧ x * 2 ^ s < 4294967296) := ⟨hs2, hs3⟩
  have HLE : Hid (V ys ≤ V xs) := hle
  have HA : Hid (V xs < 4294967296 ^ xs.length) := V_lt ha.lim
  clear hx hs1 hs2 hs3 hle
  go_enter Tryz.func117, Tryz.ntmps117
  go_wp2_with fail
  refine (lz32_any x _ hxb).mono ?_
  rintro e w' ⟨rfl, rfl⟩
  rw [HS1.out]
  clear HS1
  go_wp2_with fail
  refine (shup_any a cap xs s _ ha (by omega) hs).mono ?_
  rintro e w1 ⟨aL, capL, L, rfl, hLl, hLv, hLr, hb1'⟩
  have hbw1 := hb.below hb1'
  have HLV : Hid (V L = V xs * 2 ^ s) := hLv
  have HLL : Hid (L.length = xs.length + 1) := hLl
  clear hLv hb
  go_wp2_with fail
  refine (shup_any _ cb ys s _ hbw1 (by omega) hs).mono ?_
  rintro e w2 ⟨aB, capB, Bs, rfl, hBl, hBv, hBr, hb2'⟩
  have hL2 := hLr.below hb2'
  have hbb2 : Below w.heap.size w w2 := hb1'.trans (hb2'.mono hb1'.size)
  have HBV : Hid (V Bs = V ys * 2 ^ s) := hBv
  have hBl2 : Bs.length ≤ 1000000000 := by omega
  clear hBv hbw1 hBl
  go_wp2_with fail
  refine (trim_any _ _ Bs _ hBr.rd hBl2).mono ?_
  rintro e w3 ⟨aT, capT, rfl, hTr, hb3'⟩
  have hL3 := hL2.below hb3'
  have hbb3 : Below w.heap.size w w3 := hbb2.trans (hb3'.mono hbb2.size)
  have HTV : Hid (V (strip Bs) = V ys * 2 ^ s) := by show _ = _; rw [V_strip]; exact HBV.out
  have tT := tr_strip Bs
  generalize strip Bs = T at hTr HTV tT ⊢
  obtain ⟨hT1, hT2, hT3⟩ := long_by ly hTr.lim tT rfl (by omega) HX.out hs HS2.out.1 HS2.out.2 HTV.out
  have HT1 : Hid (T.length = ys.length) := hT1
  have HT2 : Hid (2147483648 ≤ T.getD (ys.length - 1) 0) := hT2
  have HT3 : Hid (2147483648 * 4294967296 ^ (ys.length - 1) ≤ V T) := hT3
  -- the blocks
  obtain ⟨gL, rfl, hgL1, hBL⟩ : ∃ g, aL = some ⟨g, 0, none⟩ ∧ w.heap.size ≤ g ∧ Blk 136 w1 g L := by
    rcases hLr.blk with h | h
    · rw [h] at hLl; simp at hLl
    · exact h
  have hgLlt := hBL.lt
  obtain ⟨gT, rfl, hgT1, hBT⟩ : ∃ g, aT = some ⟨g, 0, none⟩ ∧ w2.heap.size ≤ g ∧ Blk 136 w3 g T := by
    rcases hTr.blk with h | h
    · rw [h] at hT1; simp at hT1; omega
    · exact h
  have hgTlt := hBT.lt
  have s12 := hb2'.size
  have s23 := hb3'.size
  have s01 := hb1'.size
  have hBL3 : Blk 136 w3 gL L := (hBL.below hb2').below hb3'
  have hTrd := hTr.rd
  have hTc := hTrd.cap
  have hTle := hTrd.le
  have lL := hLr.lim
  have hLcap := hLr.rd.cap
  have hLle := hLr.rd.le
  unfold maxLen at hTc hLcap
  clear hT1 hT2 hT3 hLr hTr hBr hL2 hL3 hBL hBT hb1' hb2' hb3' hLl
  go_wp2_with (at_make; refine wpList_make_full _ rfl _ _ 107 rfl w3.heap.size 136 i0 (.int .u32 0) 1 Tryz.underlying107 hi hz0 hz1 _ _ _ _ (xs.length - ys.length + 1) rfl rfl (by omega) (by omega) (by rw [hz2]; omega) (by unfold maxLen; omega) (Nat.le_refl _) ?_)
  intro w4 hown4 hgrow4
  have hbb4 : Below w3.heap.size w3 w4 := (Below.refl _ _).grown hgrow4 (Nat.le_refl _) (fun k h => by cases h)
  have hBQ4 := blk_made hown4
  have hBL4 := hBL3.below hbb4
  have hT4 := hTrd.below hbb4
  have hw4 : Below w.heap.size w w4 := hbb3.trans (hbb4.mono hbb3.size)
  have hgTL : gT ≠ gL := by omega
  have hgQL : w3.heap.size ≠ gL := by omega
  have hgQT : gT ≠ w3.heap.size := by omega
  have hT2l : 2 ≤ T.length := by rw [HT1.out]; exact h2
  have hTx : T.length ≤ xs.length := by rw [HT1.out]; exact hll
  have hstart : Sv (fun j => L.getD (xs.length - ys.length + 1 + j) 0) T.length < V T := by
    refine long_start (f := fun j => L.getD j 0) (K := xs.length - ys.length + 1) (n := T.length) (la := xs.length) (VA := V xs * 2 ^ s) (s := s) (by rw [HT1.out]; omega) (by omega) ?_ (Nat.mul_lt_mul_of_pos_right HA.out (Nat.pow_pos (by decide))) ?_
    · rw [show xs.length - ys.length + 1 + T.length = L.length by rw [HT1.out, HLL.out]; omega, ← V_Sv]; exact HLV.out
    · rw [HT1.out]
      have h31 : 2 ^ s ≤ 2147483648 := Nat.pow_le_pow_right (n := 2) (by decide) (show s ≤ 31 by omega)
      exact Nat.le_trans (Nat.mul_le_mul_right _ h31) HT3.out
  have HST : Hid (Sv (fun j => L.getD (xs.length - ys.length + 1 + j) 0) T.length < V T) := hstart
  clear hstart hown4 hgrow4 hBL3 hTrd hbb4
  go_wp2
  go_loopw [10] (fun i wr => ∃ (k : Nat) (q : Int) (cs Q : List Nat), k ≤ xs.length - ys.length + 1 ∧ q = (k : Int) - 1 ∧ i = .int .i64 q ∧ cs.length = xs.length + 1 ∧ Lim cs ∧ Q.length = xs.length - ys.length + 1 ∧ Lim Q ∧
      Sv (fun j => cs.getD j 0) (k + T.length) + 4294967296 ^ k * V (Q.drop k) * V T = V xs * 2 ^ s ∧ Sv (fun j => cs.getD (k + j) 0) T.length < V T ∧ (∀ j, k + T.length ≤ j → cs.getD j 0 = 0) ∧ Blk 136 wr gL cs ∧ Blk 136 wr w3.heap.size Q ∧ Rd wr (some ⟨gT, 0, none⟩) capT T ∧ Below w.heap.size w wr) (fun i _ => (intOf i + 1).toNat)
  case atStart =>
    refine ⟨xs.length - ys.length + 1, _, L, _, Nat.le_refl _, ?_, rfl, HLL.out, lL, List.length_replicate, fun x hx => by rw [List.eq_of_mem_replicate hx]; decide, ?_, HST.out, fun j hj => getD_past _ _ ?_, hBL4, hBQ4, hT4, hw4⟩
    · omega
    · rw [List.drop_eq_nil_of_le (by simp), V_nil, Nat.mul_zero, Nat.zero_mul, Nat.add_zero, show xs.length - ys.length + 1 + T.length = L.length by rw [HT1.out, HLL.out]; omega, ← V_Sv]; exact HLV.out
    · rw [HLL.out]; rw [HT1.out] at hj; omega
  case round =>
    obtain ⟨k, q, cs, Q, hk, hq, rfl, hcl, lc, hQl, lQ, hinv, hseg, hzer, hBL, hBQ, hT, hnx⟩ := hrel
    have HC : Hid (cs.length = xs.length + 1) := hcl
    have HQ : Hid (Q.length = xs.length - ys.length + 1) := hQl
    have HI : Hid (Sv (fun j => cs.getD j 0) (k + T.length) + 4294967296 ^ k * V (Q.drop k) * V T = V xs * 2 ^ s) := hinv
    have HSG : Hid (Sv (fun j => cs.getD (k + j) 0) T.length < V T) := hseg
    have HZ : Hid (∀ j, k + T.length ≤ j → cs.getD j 0 = 0) := hzer
    have hsz := hnx.size
    clear hcl hQl hinv hseg hzer
    by_cases hk0 : k = 0
    · subst hk0
      obtain rfl : q = -1 := by omega
      clear hq
      have hr := hBQ.rd lQ 0 (xs.length - ys.length + 1) (xs.length - ys.length + 1) (by rw [HQ.out]; omega) (Nat.le_refl _) (by unfold maxLen; omega)
      rw [List.drop_zero, List.take_of_length_le (by rw [HQ.out]; exact Nat.le_refl _)] at hr
      have hr2 := hBL.rd lc 0 (xs.length + 1) capL (by rw [HC.out]; omega) (by have := HLL.out; omega) (by unfold maxLen; omega)
      rw [List.drop_zero, List.take_of_length_le (by rw [HC.out]; exact Nat.le_refl _)] at hr2
      have hfin := long_end (R := V cs) (Q := V Q) (A := V xs) (B := V ys) (S := 2 ^ s) (Nat.pow_pos (by decide))
        (by
          have h1 := HI.out
          rw [List.drop_zero, Nat.pow_zero, Nat.one_mul, Nat.zero_add, ← V_of_zeros (by rw [HC.out]; omega) (fun i hi => HZ.out i (by omega)), HTV.out] at h1
          exact h1)
        (by
          have h1 := HSG.out
          rw [Sv_congr (g := fun i => cs.getD i 0) (fun i _ => by rw [Nat.zero_add]), ← V_of_zeros (by rw [HC.out]; omega) (fun i hi => HZ.out i (by omega)), HTV.out] at h1
          exact h1)
      have HF : Hid (V Q = V xs / V ys ∧ V cs / 2 ^ s = V xs % V ys) := hfin
      clear hfin
      go_wp2_with fail
      refine (trim_n _ _ (xs.length - ys.length + 1) Q _ HQ.out.symm hr (by rw [HQ.out]; omega)).mono ?_
      rintro e v1 ⟨a1, c1, rfl, hr1, hv1⟩
      have hbv1 : Below w.heap.size w v1 := hnx.trans (hv1.mono hsz)
      obtain ⟨z1, hz1'⟩ : ∃ z1, strip Q = z1 := ⟨_, rfl⟩
      have tz1 : Tr z1 := by rw [← hz1']; exact tr_strip Q
      have HV1 : Hid (V z1 = V xs / V ys) := by show _ = _; rw [← hz1', V_strip]; exact HF.out.1
      rw [hz1'] at hr1 ⊢
      have hr2' := hr2.below hv1
      clear hr hz1'
      go_wp2_with fail
      refine (shdn_n _ _ (xs.length + 1) cs s _ HC.out.symm hr2' (by rw [HC.out]; omega) hs).mono ?_
      rintro e v2 ⟨g2, ds, rfl, hdl, hdv, hdr, hv2⟩
      have hbv2 : Below w.heap.size w v2 := hbv1.trans (hv2.mono hbv1.size)
      have hr1' := hr1.below hv2
      have HDV : Hid (V ds = V xs % V ys) := by show _ = _; rw [hdv]; exact HF.out.2
      have HDL : Hid (ds.length = xs.length + 1) := hdl
      clear hdl hdv hr1 hr2 hr2' hv1 hv2
      go_wp2_with fail
      refine (trim_n _ _ (xs.length + 1) ds _ HDL.out.symm hdr (by rw [HDL.out]; omega)).mono ?_
      rintro e v3 ⟨a2, c2, rfl, hr3, hv3⟩
      have hr1'' := hr1'.below hv3
      have hs1 := hbv2.size
      have hbv3 : Below w.heap.size w v3 := hbv2.trans (hv3.mono hbv2.size)
      go_wp2
      go_ret2
      exact ⟨a1, c1, z1, a2, c2, strip ds, rfl, HV1.out, by rw [V_strip]; exact HDV.out, tz1, tr_strip _, hr1''.mono hsz, hr3.mono hs1, hbv3⟩
    · obtain ⟨j, rfl⟩ : ∃ j, k = j + 1 := ⟨k - 1, by omega⟩
      obtain rfl : q = (j : Int) := by omega
      clear hq
      have hsl : j + T.length + 1 ≤ capL := by have := HLL.out; rw [HT1.out]; omega
      have hjc : j + T.length + 1 ≤ cs.length := by rw [HC.out, HT1.out]; omega
      have hsmall : Sv (fun i => cs.getD (j + i) 0) (T.length + 1) < 4294967296 * V T := long_small (f := fun i => cs.getD i 0) (lc.getD j) HSG.out
      have hTlt : V T < 4294967296 ^ T.length := V_lt hT.lim
      go_wp2_with fail
      rw [show j + T.length + 1 - j = T.length + 1 by omega]
      refine (divstep_any gL j (capL - j) cs gT 0 capT T wr hBL lc hT hgTL hT2l hjc (by rw [HC.out]; omega) (by omega) (by omega) (by rw [HT1.out]; exact HT2.out) hsmall).mono ?_
      rintro e v1 ⟨ds, qd, rfl, hqd, hqlt, hdl, ld, hsame, hrem, hB1, hg1⟩
      have hb1'' : Below w.heap.size w v1 := hnx.grown hg1 hsz (fun k hk => by cases hk; exact hgL1)
      have hBQ1 := hBQ.other hg1 hgQL
      have hT1' : Rd v1 (some ⟨gT, 0, none⟩) capT T := hT.other hg1 (fun k o e _ => by simp at e; rw [← e.1]; exact hgTL)
      have c2 := hBQ1.cell j (by rw [HQ.out]; omega)
      have c3 := hBQ1.frozen j
      obtain ⟨o, ho⟩ : ∃ o, Q.getD j 0 = o := ⟨_, rfl⟩
      rw [ho] at c2
      have hmod : Sv (fun i => cs.getD (j + i) 0) (T.length + 1) % V T < V T := Nat.mod_lt _ (by omega)
      obtain ⟨htop, hlow⟩ := long_top (d := fun i => ds.getD i 0) hrem hmod hTlt
      have hdm := Nat.div_add_mod (Sv (fun i => cs.getD (j + i) 0) (T.length + 1)) (V T)
      rw [← hqd] at hdm
      have HSTEP : Hid (Sv (fun i => ds.getD i 0) (j + T.length) + 4294967296 ^ j * V ((Q.set j qd).drop j) * V T = V xs * 2 ^ s) := by
        refine long_step (c := fun i => cs.getD i 0) (q := qd) HI.out (fun i hi => hsame i (by omega)) hlow hdm ?_
        rw [V_drop, getD_set_eq _ _ _ (by rw [HQ.out]; omega), List.drop_set_of_lt (by omega)]
      have HSEG : Hid (Sv (fun i => ds.getD (j + i) 0) T.length < V T) := by show _ < _; rw [hlow]; exact hmod
      have HZZ : Hid (∀ i, j + T.length ≤ i → ds.getD i 0 = 0) := fun i hi => by
        rcases Nat.lt_or_eq_of_le hi with h | h
        · rw [hsame i (by omega)]; exact HZ.out i (by omega)
        · rw [← h]; exact htop
      have HDL : Hid (ds.length = cs.length) := hdl
      clear hmod htop hlow hdm hsame hrem hqd hsmall hTlt hdl ho hBQ hT hjc
      go_wp2
      go_roundw
      case rel =>
        exact ⟨j, _, ds, Q.set j qd, by omega, rfl, by go_num, by rw [HDL.out]; exact HC.out, ld, by rw [List.length_set]; exact HQ.out, lQ.set _ hqlt, HSTEP.out, HSEG.out, HZZ.out, hB1.set_other hgQL.symm _ _, hBQ1.set _ _ _ (by rw [HQ.out]; omega) rfl, hT1'.set_other hgQT _ _, hb1''.setCell (Nat.le_trans hbb3.size (Nat.le_refl _)) _⟩
      case measure => simp [intOf]

end Go.Proofs.YtchdoakoelfenaaGreat

namespace Go.Proofs.YtchdoakoelfenaaGreat
open Go.RowKit
set_option linter.unusedSimpArgs false
set_option linter.unusedVariables false

theorem u64_eq {a b : Int} (h : a = b) : Value.int .u64 a = Value.int .u64 b := by rw [h]

theorem wrap_u64_sub (n : Int) : IntKind.u64.wrap n = n % 18446744073709551616 := by simp [IntKind.wrap, IntKind.bits, IntKind.signed]

/-- One round of a subtraction. -/
theorem sub_step {zs L S : List Nat} {k cy x y t : Nat} (hz : zs.length = k) (he : V zs + V (S.take k) = V (L.take k) + 4294967296 ^ k * cy) (hx : L.getD k 0 = x) (hy : S.getD k 0 = y) (ht : t = x + 4294967296 - cy - y) (hc : cy ≤ 1) (hb : y < 4294967296) (hxb : x < 4294967296) :
    V (zs ++ [t % 4294967296]) + V (S.take (k + 1)) = V (L.take (k + 1)) + 4294967296 ^ (k + 1) * (1 - t / 4294967296) := by
  rw [V_snoc, hz, V_take_succ, V_take_succ, hx, hy, Nat.pow_succ]
  have e : t % 4294967296 + y + cy = x + 4294967296 * (1 - t / 4294967296) := by omega
  · generalize t % 4294967296 = r at e ⊢
    generalize 1 - t / 4294967296 = d at e ⊢
    generalize 4294967296 ^ k = p at he ⊢
    generalize V zs = o at he ⊢
    generalize V (L.take k) = A at he ⊢
    generalize V (S.take k) = C at he ⊢
    grind

theorem V_take_all {S : List Nat} {n : Nat} (h : V S < 4294967296 ^ n) : V (S.take n) = V S := by
  have e := V_take_drop S n
  rcases Nat.eq_zero_or_pos (V (S.drop n)) with h0 | h0
  · rw [h0] at e; omega
  · have : 4294967296 ^ n * 1 ≤ 4294967296 ^ n * V (S.drop n) := Nat.mul_le_mul_left _ h0
    omega

/-- The end of a subtraction: nothing is borrowed. -/
theorem sub_end {zs L S : List Nat} {cy : Nat} (lz : Lim zs) (hz : zs.length = L.length) (he : V zs + V (S.take L.length) = V (L.take L.length) + 4294967296 ^ L.length * cy) (lL : Lim L) (hv : V S < V L) : V zs = V L - V S := by
  have hL := V_lt lL
  rw [List.take_length, V_take_all (by omega)] at he
  have hzs := V_lt lz
  rw [hz] at hzs
  rcases Nat.eq_zero_or_pos cy with h0 | h0
  · rw [h0] at he; omega
  · have : 4294967296 ^ L.length * 1 ≤ 4294967296 ^ L.length * cy := Nat.mul_le_mul_left _ h0
    omega

theorem cmpN_le {x y : Nat} (h : x ≤ y) : cmpN x y ≤ 0 := by unfold cmpN; split <;> (try split) <;> omega
theorem cmpN_gt {x y : Nat} (h : y < x) : cmpN x y = 1 := by unfold cmpN; rw [if_neg (by omega), if_pos h]

set_option maxHeartbeats 1600000 in
set_option maxRecDepth 100000 in
theorem sub_any (a : Option Addr) (cap : Nat) (xs : List Nat) (b : Option Addr) (cbp : Nat) (ys : List Nat) (w : World) (ha : Rd w a cap xs) (hb : Rd w b cbp ys) (hla : xs.length ≤ 500000000) (hlb : ys.length ≤ 500000000) :
    Calls Tryz.prog 108 #[.slice a xs.length cap, .slice b ys.length cbp] w fun e w' =>
      ∃ a' cap' zs, e = .returned (.slice a' zs.length cap') ∧ V zs = V xs - V ys ∧ Tr zs ∧ Res 136 w.heap.size w' a' cap' zs ∧ Below w.heap.size w w' := by
  obtain ⟨i0, hi, hz0, hz1, hz2⟩ := info_parts info_limb
  by_cases hle : V xs ≤ V ys
  · have hc := cmpN_le hle
    go_enter Tryz.func108, Tryz.ntmps108
    go_wp2_with fail
    refine (cmp_any _ _ _ _ _ _ _ ha hb).mono ?_
    rintro e w1 ⟨rfl, hb1⟩
    generalize cmpN (V xs) (V ys) = q at hc ⊢
    go_wp2
    go_ret
    refine ⟨some ⟨w1.heap.size, 0, none⟩, 0, [], rfl, ?_, tr_nil, ?_, hb1.alloc hb1.size _⟩
    · show 0 = _; omega
    · exact ⟨Lim.nil, ownsRow_mono (World.ownsRow_made w1 #[] 0 (Nat.le_refl _) (Nat.zero_le _) rfl) hb1.size⟩
  · have hc := cmpN_gt (Nat.lt_of_not_le hle)
    have HC : Hid (cmpN (V xs) (V ys) = 1) := hc
    clear hc
    go_enter Tryz.func108, Tryz.ntmps108
    go_wp2_with fail
    refine (cmp_any _ _ _ _ _ _ _ ha hb).mono ?_
    rintro e w0 ⟨rfl, hb0⟩
    rw [HC.out]
    have ha0 := ha.below hb0
    have hb00 := hb.below hb0
    clear ha hb
    have Xr := ha0.strip
    have Yr := hb00.strip
    have lx := strip_length_le xs
    have ly := strip_length_le ys
    go_wp2_with fail
    refine (sig_any a cap xs _ ha0).mono ?_
    rintro e w' ⟨rfl, rfl⟩
    go_wp2_with fail
    refine (sig_any b cbp ys _ hb00).mono ?_
    rintro e w' ⟨rfl, rfl⟩
    clear ha0 hb00
    have HV : Hid (V (strip ys) < V (strip xs) ∧ V (strip xs) = V xs ∧ V (strip ys) = V ys) := by show _ ∧ _; rw [V_strip, V_strip]; exact ⟨by omega, rfl, rfl⟩
    generalize strip xs = X at Xr lx HV ⊢
    generalize strip ys = Y at Yr ly HV ⊢
    have hL2 := Xr.le
    have hL3 := Xr.cap
    unfold maxLen at hL3
    have lL := Xr.lim
    have lS := Yr.lim
    have fL := Xr.fm
    have fS := Yr.fm
    clear Xr Yr
    have hs0 := hb0.size
    go_wp2_with (at_make; refine wpList_make_own _ rfl _ _ 107 rfl w0.heap.size 136 i0 (.int .u32 0) 1 Tryz.underlying107 hi hz0 hz1 _ _ _ X.length rfl rfl (by omega) (by rw [hz2]; omega) (by unfold maxLen; omega) (Nat.le_refl _) ?_)
    intro u0 hown0 hgrow0
    have hbu : Below w0.heap.size w0 u0 := (Below.refl _ _).grown hgrow0 (Nat.le_refl _) (fun k h => by cases h)
    go_wp2
    go_loopw [5, 6, 24] (fun out c i wr => ∃ (k : Nat) (zs : List Nat) (cy : Nat), k ≤ X.length ∧ i = .int .i64 k ∧ c = .int .u64 cy ∧ cy ≤ 1 ∧ zs.length = k ∧ Lim zs ∧ V zs + V (Y.take k) = V (X.take k) + 4294967296 ^ k * cy ∧ wr.ownsRow w0.heap.size 136 1 out k (zs.map U) ∧ Below w0.heap.size w0 wr) (fun _ _ i _ => X.length - (intOf i).toNat)
    case atStart => exact ⟨0, [], 0, Nat.zero_le _, rfl, rfl, Nat.zero_le _, rfl, Lim.nil, by simp [V], hown0, hbu⟩
    case round =>
      obtain ⟨k, zs, cy, hk, rfl, rfl, hcy, hzl, lz, heq, hown, hnx⟩ := hrel
      have HE : Hid (V zs + V (Y.take k) = V (X.take k) + 4294967296 ^ k * cy) := heq
      have HZ : Hid (zs.length = k) := hzl
      have hsz := hnx.size
      clear heq hzl
      by_cases hkn : k < X.length
      · obtain ⟨bl, ol, rfl, _, hcl⟩ := fL.at hnx k hkn
        obtain ⟨x, hx⟩ : ∃ x, X.getD k 0 = x := ⟨_, rfl⟩
        obtain ⟨y, hy⟩ : ∃ y, Y.getD k 0 = y := ⟨_, rfl⟩
        have bx : x < 4294967296 := by rw [← hx]; exact lL.getD k
        have byy : y < 4294967296 := by rw [← hy]; exact lS.getD k
        rw [hx] at hcl
        have HX : Hid (X.getD k 0 = x) := hx
        have HY : Hid (Y.getD k 0 = y) := hy
        clear hx hy
        by_cases hkm : k < Y.length
        · obtain ⟨bs, os, rfl, _, hcs⟩ := fS.at hnx k hkm
          rw [HY.out] at hcs
          go_wp2_with (at_builtin; refine wpList_append_one rfl _ _ 107 rfl w0.heap.size 136 i0 Tryz.underlying107 hi hz0 hz1 hz2 _ k zs rfl (hown.alloc _) wr.heap.size ((x + 4294967296 - cy - y) % 4294967296) rfl (cell_new1 _ _ _ _ (by simp only [wrap_u64_sub]; omega)) (by omega) (by simp; omega) ?_)
          intro v' w1 hown1 hgrow1
          have hb1 : Below w0.heap.size w0 w1 := (hnx.alloc hsz _).grown hgrow1 (by simp; omega) (fun k hk => (hown.lt k hk).1)
          clear hown
          go_wp2
          go_roundw
          case rel =>
            exact ⟨k + 1, zs ++ [(x + 4294967296 - cy - y) % 4294967296], 1 - (x + 4294967296 - cy - y) / 4294967296, by omega, by go_num, u64_eq (by simp only [wrap_u64_sub]; omega), by omega, by simp [HZ.out], lz.snoc (by omega), sub_step HZ.out HE.out HX.out HY.out (by omega) hcy byy bx, own_snoc hown1, hb1⟩
          case measure => simp [intOf]; omega
        · have y0 : y = 0 := by rw [← HY.out]; exact getD_past _ _ (by omega)
          subst y0
          go_wp2_with (at_builtin; refine wpList_append_one rfl _ _ 107 rfl w0.heap.size 136 i0 Tryz.underlying107 hi hz0 hz1 hz2 _ k zs rfl (hown.alloc _) wr.heap.size ((x + 4294967296 - cy) % 4294967296) rfl (cell_new1 _ _ _ _ (by simp only [wrap_u64_sub]; omega)) (by omega) (by simp; omega) ?_)
          intro v' w1 hown1 hgrow1
          have hb1 : Below w0.heap.size w0 w1 := (hnx.alloc hsz _).grown hgrow1 (by simp; omega) (fun k hk => (hown.lt k hk).1)
          clear hown
          go_wp2
          go_roundw
          case rel =>
            exact ⟨k + 1, zs ++ [(x + 4294967296 - cy) % 4294967296], 1 - (x + 4294967296 - cy) / 4294967296, by omega, by go_num, u64_eq (by simp only [wrap_u64_sub]; omega), by omega, by simp [HZ.out], lz.snoc (by omega), sub_step HZ.out HE.out HX.out HY.out (by omega) hcy byy bx, own_snoc hown1, hb1⟩
          case measure => simp [intOf]; omega
      · obtain rfl : k = X.length := by omega
        obtain ⟨a', cap', rfl, hres⟩ := Res.of lz hown
        clear hown
        go_wp2_with fail
        refine (trim_any _ _ _ _ hres.rd (by rw [HZ.out]; omega)).mono ?_
        rintro e w2 ⟨a2, c2, rfl, hr2, hb2⟩
        go_wp2
        go_ret
        refine ⟨a2, c2, _, rfl, ?_, tr_strip _, hr2.mono (Nat.le_trans hs0 hsz), hb0.trans ((hnx.trans (hb2.mono hsz)).mono hs0)⟩
        rw [V_strip, ← HV.out.2.1, ← HV.out.2.2]
        exact sub_end lz HZ.out HE.out lL HV.out.1

end Go.Proofs.YtchdoakoelfenaaGreat

namespace Go.Proofs.YtchdoakoelfenaaGreat
open Go.RowKit
set_option linter.unusedSimpArgs false
set_option linter.unusedVariables false

/-- What is left; 0, if the divisor is 0. -/
def remN (x y : Nat) : Nat := if y = 0 then 0 else x % y
theorem remN_zero (x : Nat) {y : Nat} (h : y = 0) : remN x y = 0 := by unfold remN; rw [if_pos h]
theorem remN_pos (x : Nat) {y : Nat} (h : 0 < y) : remN x y = x % y := by unfold remN; rw [if_neg (by omega)]

theorem V_one {ys : List Nat} (h : ys.length = 1) : V ys = ys.getD 0 0 := by
  match ys, h with
  | [y], _ => simp [V]

set_option maxHeartbeats 2000000 in
set_option maxRecDepth 100000 in
theorem div_any (a : Option Addr) (cap : Nat) (xs : List Nat) (b : Option Addr) (cbp : Nat) (ys : List Nat) (w : World) (ha : Rd w a cap xs) (hb : Rd w b cbp ys) (hla : xs.length ≤ 400000000) (hlb : ys.length ≤ 400000000) :
    Calls Tryz.prog 103 #[.slice a xs.length cap, .slice b ys.length cbp] w fun e w' =>
      ∃ a1 c1 z1 a2 c2 z2, e = .returned (.tuple #[.slice a1 z1.length c1, .slice a2 z2.length c2]) ∧ V z1 = V xs / V ys ∧ V z2 = remN (V xs) (V ys) ∧ Tr z1 ∧ Tr z2 ∧ Res 136 w.heap.size w' a1 c1 z1 ∧ Res 136 w.heap.size w' a2 c2 z2 ∧ Below w.heap.size w w' := by
  have Xr := ha.strip
  have Yr := hb.strip
  have lx := strip_length_le xs
  have ly := strip_length_le ys
  have tX := tr_strip xs
  have tY := tr_strip ys
  go_enter Tryz.func103, Tryz.ntmps103
  go_wp2_with fail
  refine (sig_any a cap xs _ ha).mono ?_
  rintro e w' ⟨rfl, rfl⟩
  go_wp2_with fail
  refine (sig_any b cbp ys _ hb).mono ?_
  rintro e w' ⟨rfl, rfl⟩
  clear ha hb
  have HV : Hid (V (strip xs) = V xs ∧ V (strip ys) = V ys) := ⟨V_strip xs, V_strip ys⟩
  generalize strip xs = X at Xr lx HV tX ⊢
  generalize strip ys = Y at Yr ly HV tY ⊢
  have hx2 := Xr.cap
  have hx1 := Xr.le
  have hy2 := Yr.cap
  have hy1 := Yr.le
  unfold maxLen at hx2 hy2
  by_cases h0 : Y.length = 0
  · have hY0 : V ys = 0 := by rw [← HV.out.2, List.length_eq_zero_iff.1 h0]; rfl
    have HY0 : Hid (V ys = 0) := hY0
    have hq : ((Y.length : Int) == 0) = true := beq_iff_eq.2 (by omega)
    have H0 : Hid (Y.length = 0) := h0
    clear hY0 h0
    go_wp2
    go_ret2
    refine ⟨some ⟨w.heap.size, 0, none⟩, 0, [], some ⟨w.heap.size + 1, 0, none⟩, 0, [], rfl, by rw [HY0.out, Nat.div_zero]; rfl, by rw [remN_zero _ HY0.out]; rfl, tr_nil, tr_nil, ?_, ?_, ?_⟩
    · exact ⟨Lim.nil, (World.ownsRow_made w #[] 0 (Nat.le_refl _) (Nat.zero_le _) rfl).alloc _⟩
    · have := World.ownsRow_made (e := 136) (size := 1) (base := w.heap.size) (w.alloc (.cells #[] 136)) #[] 0 (by simp) (Nat.zero_le _) rfl
      simp at this
      exact ⟨Lim.nil, by simpa using this⟩
    · exact ((Below.refl _ _).alloc (Nat.le_refl _) _).alloc (by simp) _
  · have hq : ((Y.length : Int) == 0) = false := beq_eq_false_iff_ne.2 (by omega)
    have hYpos : 0 < V ys := by
      rw [← HV.out.2]
      rcases Nat.eq_zero_or_pos (V Y) with h | h
      · exact absurd (by rw [eq_nil_of_V tY h]; rfl) h0
      · exact h
    have HYP : Hid (0 < V ys) := hYpos
    clear hYpos
    go_wp2_with fail
    refine (cmp_any _ _ _ _ _ _ _ Xr Yr).mono ?_
    rintro e w1 ⟨rfl, hb1⟩
    rw [HV.out.1, HV.out.2]
    have Xr1 := Xr.below hb1
    have Yr1 := Yr.below hb1
    have hs1 := hb1.size
    clear Xr Yr
    by_cases hlt : V xs < V ys
    · have hc : cmpN (V xs) (V ys) = -1 := by simp [cmpN, hlt]
      rw [hc]
      have HL : Hid (V xs < V ys) := hlt
      clear hc hlt
      go_wp2_with fail
      refine (trim_any _ _ X _ (Xr1.below ((Below.refl _ _).alloc (Nat.le_refl _) _)) (by omega)).mono ?_
      rintro e w2 ⟨a2, c2, rfl, hr2, hb2⟩
      have hba : Below w.heap.size w (w1.alloc (.cells #[] 136)) := hb1.alloc hs1 _
      have hbw : Below w.heap.size w w2 := hba.trans (hb2.mono hba.size)
      have hown : (w1.alloc (.cells #[] 136)).ownsRow w1.heap.size 136 1 (.slice (some ⟨w1.heap.size, 0, none⟩) 0 0) 0 [] := World.ownsRow_made w1 #[] 0 (Nat.le_refl _) (Nat.zero_le _) rfl
      have hR1 : Res 136 w1.heap.size (w1.alloc (.cells #[] 136)) (some ⟨w1.heap.size, 0, none⟩) 0 [] := ⟨Lim.nil, hown⟩
      have hR1' := hR1.below hb2
      go_wp2
      go_ret2
      refine ⟨some ⟨w1.heap.size, 0, none⟩, 0, [], a2, c2, strip X, rfl, ?_, ?_, tr_nil, tr_strip _, hR1'.mono hs1, hr2.mono hba.size, hbw⟩
      · rw [Nat.div_eq_of_lt HL.out]; rfl
      · rw [remN_pos _ HYP.out, Nat.mod_eq_of_lt HL.out, V_strip, HV.out.1]
    · have hc : 0 ≤ cmpN (V xs) (V ys) := by unfold cmpN; rw [if_neg hlt]; split <;> omega
      have HL : Hid (V ys ≤ V xs) := Nat.le_of_not_lt hlt
      generalize cmpN (V xs) (V ys) = cc at hc ⊢
      clear hlt
      by_cases hone : Y.length = 1
      · have hone' : ((Y.length : Int) == 1) = true := beq_iff_eq.2 (by omega)
        obtain ⟨y, hy⟩ : ∃ y, Y.getD 0 0 = y := ⟨_, rfl⟩
        have hVy : V Y = y := by rw [V_one hone, hy]
        have hyb : y < 4294967296 := by rw [← hy]; exact Yr1.lim.getD 0
        have hyp : 1 ≤ y := by have := HYP.out; rw [← HV.out.2, hVy] at this; exact this
        obtain ⟨b1, o1, rfl, hb1lt, hcy⟩ := Yr1.fm.at (Below.refl _ _) 0 (by omega)
        rw [hy] at hcy
        have HVY : Hid (V ys = y) := by show _ = _; rw [← HV.out.2, hVy]
        have H1 : Hid (Y.length = 1) := hone
        have hYl1 : (0 : Int) < (Y.length : Int) := by omega
        clear hone hy hVy h0
        go_wp2_with fail
        refine (trim_any _ _ X _ Xr1 (by omega)).mono ?_
        rintro e w2 ⟨a2, c2, rfl, hr2, hb2⟩
        have hbw2 : Below w.heap.size w w2 := hb1.trans (hb2.mono hs1)
        have hcy2 : w2.cell? ⟨b1, o1 + 0, none⟩ = some (.int .u32 (y : Int)) := (hb2.cell (p := ⟨b1, o1 + 0, none⟩) hb1lt).trans hcy
        have hXs : strip X = X := tX
        rw [hXs] at hr2 ⊢
        have hs2 := hbw2.size
        rcases hr2.blk with h | ⟨g, rfl, hg1, hB2⟩
        · exfalso
          have h1 := HL.out
          rw [← HV.out.1, h] at h1
          have h2 := HYP.out
          have h3 : V [] = 0 := rfl
          omega
        · have hsep : b1 ≠ g := by omega
          clear hcy
          simp only [Nat.add_zero] at hcy2
          go_wp2_with fail
          refine (divl_any g _ X y _ hB2 hr2.lim hyp hyb (by omega)).mono ?_
          rintro e w3 ⟨cs, r, rfl, hr, hcl, lc, heq, hB3, hg3⟩
          have hbw3 : Below w.heap.size w w3 := hbw2.grown hg3 hs2 (fun k hk => by cases hk; omega)
          have hs3 := hbw3.size
          have hcc1 := hr2.rd.cap
          have hcc2 := hr2.rd.le
          have hrd := hB3.rd lc 0 X.length c2 (by omega) hcc2 hcc1
          rw [List.drop_zero, List.take_of_length_le (by omega)] at hrd
          have hdm : V cs = V xs / y ∧ r = V xs % y := by
            rw [← HV.out.1, ← heq]
            exact ⟨by rw [Nat.mul_comm, Nat.add_comm, Nat.add_mul_div_left _ _ (by omega), Nat.div_eq_of_lt hr, Nat.zero_add], by rw [Nat.mul_comm, Nat.add_comm, Nat.add_mul_mod_self_left, Nat.mod_eq_of_lt hr]⟩
          have HDM : Hid (V cs = V xs / y ∧ r = V xs % y) := hdm
          have HCL : Hid (cs.length = X.length) := hcl
          clear hdm heq hcl hcc1 hcc2 hr2
          unfold maxLen at *
          go_wp2_with fail
          refine (trim_n _ _ X.length cs _ HCL.out.symm hrd (by rw [HCL.out]; omega)).mono ?_
          rintro e w4 ⟨a4, c4, rfl, hr4, hb4⟩
          have hbw4 : Below w.heap.size w w4 := hbw3.trans (hb4.mono hs3)
          have hs4 := hbw4.size
          go_wp2_with fail
          refine (of_any r _ (by omega)).mono ?_
          rintro e w5 ⟨a5, c5, z5, rfl, hv5, ht5, hr5, hb5⟩
          have hbw5 : Below w.heap.size w w5 := hbw4.trans (hb5.mono hs4)
          have hr4' := hr4.below hb5
          go_wp2
          go_ret2
          refine ⟨a4, c4, strip cs, a5, c5, z5, rfl, ?_, ?_, tr_strip _, ht5, hr4'.mono hs3, hr5.mono hs4, hbw5⟩
          · rw [V_strip, HDM.out.1, HVY.out]
          · rw [remN_pos _ HYP.out, hv5, HDM.out.2, HVY.out]
      · have hone' : ((Y.length : Int) == 1) = false := beq_eq_false_iff_ne.2 (by omega)
        go_wp2_with fail
        refine (divlong_any _ _ X _ _ Y _ Xr1 Yr1 tX tY (by omega) (by rw [HV.out.1, HV.out.2]; exact HL.out) (by omega) (by omega)).mono ?_
        rintro e w2 ⟨a1, c1, z1, a2, c2, z2, rfl, hv1, hv2, ht1, ht2, hr1, hr2, hb2⟩
        go_wp2
        go_ret2
        refine ⟨a1, c1, z1, a2, c2, z2, rfl, ?_, ?_, ht1, ht2, hr1.mono hs1, hr2.mono hs1, hb1.trans (hb2.mono hs1)⟩
        · rw [hv1, HV.out.1, HV.out.2]
        · rw [remN_pos _ HYP.out, hv2, HV.out.1, HV.out.2]

end Go.Proofs.YtchdoakoelfenaaGreat

namespace Go.Proofs.YtchdoakoelfenaaGreat
open Go.RowKit
set_option linter.unusedSimpArgs false
set_option linter.unusedVariables false

theorem gcd_step (x y : Nat) : Nat.gcd y (x % y) = Nat.gcd x y := by
  rw [Nat.gcd_comm x y, Nat.gcd_rec y x, Nat.gcd_comm]

theorem ret_u64 {a b : Int} (h : a = b) : Ending.returned (.int .u64 a) = .returned (.int .u64 b) := by rw [h]

set_option maxHeartbeats 800000 in
set_option maxRecDepth 100000 in
theorem gcds_any (x y : Nat) (w : World) (hx : x < 18446744073709551616) (hy : y < 18446744073709551616) :
    Calls Tryz.prog 123 #[.int .u64 (x : Int), .int .u64 (y : Int)] w fun e w' => e = .returned (.int .u64 (Nat.gcd x y : Nat)) ∧ Below w.heap.size w w' := by
  go_enter Tryz.func123, Tryz.ntmps123
  go_wp2
  go_loopw [0, 1] (fun a b wr => ∃ p q : Nat, a = .int .u64 p ∧ b = .int .u64 q ∧ p < 18446744073709551616 ∧ q < 18446744073709551616 ∧ Nat.gcd p q = Nat.gcd x y ∧ Below w.heap.size w wr) (fun _ b _ => (intOf b).toNat)
  case atStart => exact ⟨x, y, rfl, rfl, hx, hy, rfl, Below.refl _ _⟩
  case round =>
    obtain ⟨p, q, rfl, rfl, hp, hq, hg, hnx⟩ := hrel
    have HG : Hid (Nat.gcd p q = Nat.gcd x y) := hg
    clear hg
    by_cases hq0 : q = 0
    · subst hq0
      go_wp2
      go_ret
      refine ⟨ret_u64 ?_, hnx⟩
      rw [← HG.out, Nat.gcd_zero_right]
    · have hne : ((q : Int) != 0) = true := by rw [bne_iff_ne]; omega
      have hq1 : (1 : Int) ≤ (q : Int) := by omega
      have hq2 : (0 : Int) ≤ (p : Int) := by omega
      obtain ⟨r, hr⟩ : ∃ r, p % q = r := ⟨_, rfl⟩
      have hri : (p : Int) % (q : Int) = (r : Int) := by rw [← hr]; simp
      have hrb : r < q := by rw [← hr]; exact Nat.mod_lt _ (by omega)
      have HG2 : Hid (Nat.gcd q r = Nat.gcd x y) := by show _ = _; rw [← hr, gcd_step]; exact HG.out
      have HRI : Hid ((p : Int) % (q : Int) = (r : Int)) := hri
      clear hr
      go_wp2_with fail
      go_quiet (fail)
      go_wp2
      go_roundw
      case rel => exact ⟨q, r, rfl, congrArg (Value.int .u64) (by first | rfl | exact HRI.out), hq, by omega, HG2.out, below_drewN hnx _⟩
      case measure => first | (simp [intOf]; omega) | (have := HRI.out; simp [intOf]; omega)

set_option maxHeartbeats 2000000 in
set_option maxRecDepth 100000 in
theorem gcd_any (a : Option Addr) (cap : Nat) (xs : List Nat) (b : Option Addr) (cbp : Nat) (ys : List Nat) (w : World) (ha : Rd w a cap xs) (hb : Rd w b cbp ys) (hla : xs.length ≤ 400000000) (hlb : ys.length ≤ 400000000) :
    Calls Tryz.prog 110 #[.slice a xs.length cap, .slice b ys.length cbp] w fun e w' =>
      ∃ a' cap' zs, e = .returned (.slice a' zs.length cap') ∧ V zs = Nat.gcd (V xs) (V ys) ∧ Tr zs ∧ Res 136 w.heap.size w' a' cap' zs ∧ Below w.heap.size w w' := by
  go_enter Tryz.func110, Tryz.ntmps110
  go_wp2
  go_loopg [0, 1] (V ys) (fun k p q wr => ∃ (aA : Option Addr) (cA : Nat) (X : List Nat) (aB : Option Addr) (cB : Nat) (Y : List Nat), p = .slice aA X.length cA ∧ q = .slice aB Y.length cB ∧ X.length ≤ 400000000 ∧ Y.length ≤ 400000000 ∧ V Y = k ∧ Rd wr aA cA X ∧ Rd wr aB cB Y ∧ Nat.gcd (V X) (V Y) = Nat.gcd (V xs) (V ys) ∧ Below w.heap.size w wr)
  case atStart => exact ⟨a, cap, xs, b, cbp, ys, rfl, rfl, hla, hlb, rfl, ha, hb, rfl, Below.refl _ _⟩
  case round =>
    obtain ⟨aA, cA, X, aB, cB, Y, rfl, rfl, hX, hY, hk, rX, rY, hg, hnx⟩ := hrel
    have HG : Hid (Nat.gcd (V X) (V Y) = Nat.gcd (V xs) (V ys)) := hg
    have HK : Hid (V Y = gk) := hk
    have hsz := hnx.size
    clear hg hk
    go_wp2_with fail
    refine (small_any _ _ _ _ rX).mono ?_
    rintro e w' ⟨rfl, rfl⟩
    go_wp2_with fail
    refine (small_any _ _ _ _ rY).mono ?_
    rintro e w' ⟨rfl, rfl⟩
    by_cases hsY : V Y < 18446744073709551616
    · rw [smallN_lt hsY, isSmall_lt hsY]
      by_cases hsX : V X < 18446744073709551616
      · rw [smallN_lt hsX, isSmall_lt hsX]
        obtain ⟨vx, hvx⟩ : ∃ vx, V X = vx := ⟨_, rfl⟩
        obtain ⟨vy, hvy⟩ : ∃ vy, V Y = vy := ⟨_, rfl⟩
        rw [hvx, hvy]
        rw [hvx] at hsX
        rw [hvy] at hsY
        have HG2 : Hid (Nat.gcd vx vy = Nat.gcd (V xs) (V ys)) := by show _ = _; rw [← hvx, ← hvy]; exact HG.out
        clear hvx hvy HG
        go_wp2_with fail
        refine (gcds_any vx vy _ hsX hsY).mono ?_
        rintro e v1 ⟨rfl, hv1⟩
        have hgb : Nat.gcd vx vy < 18446744073709551616 := by
          rcases Nat.eq_zero_or_pos vx with h0 | h0
          · rw [h0, Nat.gcd_zero_left]; exact hsY
          · exact Nat.lt_of_le_of_lt (Nat.gcd_le_left _ h0) hsX
        have hb1 : Below w.heap.size w v1 := hnx.trans (hv1.mono hsz)
        obtain ⟨gg, hgg⟩ : ∃ gg, Nat.gcd vx vy = gg := ⟨_, rfl⟩
        rw [hgg] at hgb ⊢
        have HGG : Hid (gg = Nat.gcd (V xs) (V ys)) := by show _ = _; rw [← hgg]; exact HG2.out
        clear hgg HG2
        go_wp2_with fail
        refine (of_any gg _ hgb).mono ?_
        rintro e v2 ⟨a2, c2, z2, rfl, hz2, ht2, hr2, hb2⟩
        go_wp2
        go_ret
        exact ⟨a2, c2, z2, rfl, by rw [hz2]; exact HGG.out, ht2, hr2.mono hb1.size, hb1.trans (hb2.mono hb1.size)⟩
      · rw [smallN_ge hsX, isSmall_ge hsX]
        by_cases hy0 : V Y = 0
        · rw [hy0]
          have HY0 : Hid (V Y = 0) := hy0
          clear hy0 hsY hsX
          go_wp2_with fail
          refine (trim_any _ _ _ _ rX (by omega)).mono ?_
          rintro e v1 ⟨a1, c1, rfl, hr1, hb1⟩
          go_wp2
          go_ret
          refine ⟨a1, c1, strip X, rfl, ?_, tr_strip _, hr1.mono hsz, hnx.trans (hb1.mono hsz)⟩
          rw [V_strip, ← HG.out, HY0.out, Nat.gcd_zero_right]
        · obtain ⟨vy, hvy⟩ : ∃ vy, V Y = vy := ⟨_, rfl⟩
          rw [hvy] at hy0 hsY ⊢
          have hyb : ((vy : Int) == 0) = false := beq_eq_false_iff_ne.2 (by omega)
          have HVY : Hid (V Y = vy) := hvy
          clear hvy hsX
          go_wp2_with fail
          refine (div_any _ _ _ _ _ _ _ rX rY hX hY).mono ?_
          rintro e v1 ⟨a1, c1, z1, a2, c2, z2, rfl, hv1, hv2, ht1, ht2, hr1, hr2, hb1⟩
          have hpos : 0 < V Y := by rw [HVY.out]; omega
          rw [remN_pos _ hpos] at hv2
          have hlt : V z2 < V Y := by rw [hv2]; exact Nat.mod_lt _ hpos
          have HLT : Hid (V z2 < gk) := by show _ < _; rw [← HK.out]; exact hlt
          have hl2 : z2.length ≤ Y.length := by
            rcases Nat.lt_or_ge Y.length z2.length with h | h
            · have := V_lt_of_length rY.lim ht2 h; omega
            · exact h
          have HG2 : Hid (Nat.gcd (V Y) (V z2) = Nat.gcd (V xs) (V ys)) := by show _ = _; rw [hv2, gcd_step]; exact HG.out
          have rY' := rY.below hb1
          have r2 := hr2.rd
          have hbw : Below w.heap.size w v1 := hnx.trans (hb1.mono hsz)
          clear hv1 hv2 hpos hlt hr1 hr2
          go_wp2
          go_roundg (V z2)
          case measure => exact HLT.out
          case rel => exact ⟨aB, cB, Y, a2, c2, z2, rfl, rfl, hY, by omega, rfl, rY', r2, HG2.out, hbw⟩
    · rw [smallN_ge hsY, isSmall_ge hsY]
      have HB : Hid (¬ V Y < 18446744073709551616) := hsY
      clear hsY
      have fin : ∀ (vx : Nat) (bx : Bool), True := fun _ _ => trivial
      generalize smallN (V X) = sx
      generalize isSmall (V X) = ix
      cases ix
      all_goals
        go_wp2_with fail
        refine (div_any _ _ _ _ _ _ _ rX rY hX hY).mono ?_
        rintro e v1 ⟨a1, c1, z1, a2, c2, z2, rfl, hv1, hv2, ht1, ht2, hr1, hr2, hb1⟩
        have hpos : 0 < V Y := by have := HB.out; omega
        rw [remN_pos _ hpos] at hv2
        have hlt : V z2 < V Y := by rw [hv2]; exact Nat.mod_lt _ hpos
        have HLT : Hid (V z2 < gk) := by show _ < _; rw [← HK.out]; exact hlt
        have hl2 : z2.length ≤ Y.length := by
          rcases Nat.lt_or_ge Y.length z2.length with h | h
          · have := V_lt_of_length rY.lim ht2 h; omega
          · exact h
        have HG2 : Hid (Nat.gcd (V Y) (V z2) = Nat.gcd (V xs) (V ys)) := by show _ = _; rw [hv2, gcd_step]; exact HG.out
        have rY' := rY.below hb1
        have r2 := hr2.rd
        have hbw : Below w.heap.size w v1 := hnx.trans (hb1.mono hsz)
        clear hv1 hv2 hpos hlt hr1 hr2
        go_wp2
        go_roundg (V z2)
        case measure => exact HLT.out
        case rel => exact ⟨aB, cB, Y, a2, c2, z2, rfl, rfl, hY, by omega, rfl, rY', r2, HG2.out, hbw⟩

end Go.Proofs.YtchdoakoelfenaaGreat
