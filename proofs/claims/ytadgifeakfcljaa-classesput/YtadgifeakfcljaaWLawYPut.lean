/-
  foundrylaw19.ClassesPut: the walk.
-/
import Derived.Test.YtadgifeakfcljaaZ3
import Derived.Test.YtadgifeakfcljaaZ6
namespace Go.Proofs.Ytadgifeakfcljaa
open Go.RowKit Go.Maps
set_option linter.unusedSimpArgs false
set_option linter.unusedVariables false

theorem wrap_i64Y (z : Int) : I64 (IntKind.i64.wrap z) := by
  unfold I64
  simp only [IntKind.wrap, IntKind.bits, IntKind.signed]
  simp
  omega
theorem Gi.put {base : Nat} {w : World} {a : Option Addr} {n c : Nat} {zs : List Int} (h : Gi base w (.slice a n c) zs) {k : Nat} (hk : k < zs.length) :
    ∃ g, a = some ⟨g, 0, none⟩ ∧ base ≤ g ∧ g < w.heap.size ∧ w.frozen? ⟨g, k, none⟩ = false ∧ (∃ z, I64 z ∧ w.cell? ⟨g, k, none⟩ = some (.int .i64 z)) ∧ ∀ y, I64 y → Gi base (w.setCell ⟨g, k, none⟩ (.int .i64 y)) (.slice a n c) (zs.set k y) := by
  have hne : zs ≠ [] := fun e => by rw [e] at hk; cases hk
  obtain ⟨g, cap, e, hb, hlt, -, hfz, hel, hst⟩ := Gw.own h hne
  injection e with e1 e2 e3
  obtain ⟨vs, hr, hc⟩ := hel k hk
  obtain ⟨hvs, hi⟩ := El.int_rep.1 hr
  have h0 := hc 0 Nat.one_pos
  have hx : k * El.int.sz + 0 = k := by show k * 1 + 0 = k; omega
  rw [hx, hvs] at h0
  refine ⟨g, e1, hb, hlt, hfz k, ⟨_, hi, h0⟩, fun y hy => ?_⟩
  have := hst k 0 (.int .i64 y) y hk Nat.one_pos (fun S' vs hr => by
    obtain ⟨e, _⟩ := El.int_rep.1 hr
    rw [e]
    exact El.int_rep.2 ⟨rfl, hy⟩)
  rw [hx] at this
  exact this

set_option maxHeartbeats 8000000 in
set_option maxRecDepth 100000 in
theorem classesPut_any (S S2 : Nat → Prop) (a : Option Addr) (ca : Nat) (L : List Int) (b : Option Addr) (cb : Nat) (o : List Int) (f t : Int) (w : World) (hL : Gr El.int S w a ca L) (ho : Gr El.int S2 w b cb o) (hf : I64 f) (ht : I64 t) :
    Calls Try.prog 5 #[.slice a L.length ca, .slice b o.length cb, .agg #[.int .i64 f, .int .i64 t]] w fun e w' => e = .returned (.bool true) ∧ Below w.heap.size w w' := by
  have k1 := hL.lenB
  have k2 := ho.lenB
  obtain ⟨W0, hW0, X1, hbW⟩ : ∃ W0, W0 = w.alloc (.cells #[.int .i64 f, .int .i64 t] 38) ∧ Bk 38 W0 w.heap.size [.int .i64 f, .int .i64 t] ∧ Below w.heap.size w W0 := ⟨_, rfl, Bk.new _ _ _, bl1 _⟩
  have HL : Hid (∀ U, Below w.heap.size w U → Gr El.int S U a ca L) := fun U hU => hL.below hU
  have HO : Hid (∀ U, Below w.heap.size w U → Gr El.int S2 U b cb o) := fun U hU => ho.below hU
  have HF : Hid (I64 f) := hf
  have HT : Hid (I64 t) := ht
  clear hL ho hf ht
  go_enter Try.func5, Try.ntmps5
  go_upto_region 1 with fail
  rw [← hW0]
  clear hW0
  go_wp2_with fail
  refine (awake19_any _).mono ?_
  rintro e y1 ⟨rfl, hb1⟩
  replace hbW := hbW.trans (hb1.mono hbW.size)
  replace X1 := X1.below hb1
  clear hb1
  by_cases hA1 : 200 < L.length
  · have d1 : decide ((200 : Int) < (L.length : Int)) = true := decide_eq_true (by omega)
    have d1n : decide (200 < L.length) = true := decide_eq_true hA1
    clear hA1 X1
    go_wp2_with fail
    refine (awake19_any _).mono ?_
    rintro e y3 ⟨rfl, hb3⟩
    have hfin := hbW.trans (hb3.mono hbW.size)
    clear hb3
    go_wp2
    go_ret
    exact ⟨rfl, hfin⟩
  have d1 : decide ((200 : Int) < (L.length : Int)) = false := decide_eq_false (by omega)
  have d1n : decide (200 < L.length) = false := decide_eq_false hA1
  by_cases hA2 : 200 < o.length
  · have d2 : decide ((200 : Int) < (o.length : Int)) = true := decide_eq_true (by omega)
    have d2n : decide (200 < o.length) = true := decide_eq_true hA2
    clear hA1 hA2 X1
    go_wp2_with fail
    refine (awake19_any _).mono ?_
    rintro e y3 ⟨rfl, hb3⟩
    have hfin := hbW.trans (hb3.mono hbW.size)
    clear hb3
    go_wp2
    go_ret
    exact ⟨rfl, hfin⟩
  have d2 : decide ((200 : Int) < (o.length : Int)) = false := decide_eq_false (by omega)
  have d2n : decide (200 < o.length) = false := decide_eq_false hA2
  have hl1 : L.length ≤ 1000 := by omega
  have hl2 : o.length ≤ 1000 := by omega
  have hN0 : Gw El.int 3 w.heap.size (fun _ => False) y1 (.slice none 0 0) [] := Gw.nil _ _ _ _ _
  have hll : ([] : List Int).length + L.length ≤ 1000000 := by simp; omega
  have HLA : Hid (Gr El.int (fun k => False ∧ (Value.slice none 0 0).ownBlock ≠ some k) y1 a ca L) := (HL.out _ hbW).anyI
  have hW1 := hbW.size
  clear hA1 hA2
  go_wp2_with (at_builtin; refine wpList_append_el 22 3 Try.underlying22 infoG_i64 rfl (by decide) (by decide) rfl _ _ rfl w.heap.size (fun _ => False) _ [] rfl hN0 a ca _ L rfl rfl HLA.out hll hW1 ?_)
  intro v2 y2 hT2 hgrow _
  have hb2 : Below y1.heap.size y1 y2 := (Below.refl _ _).grown hgrow (Nat.le_refl _) (fun k hk => by cases hk)
  replace hbW := hbW.trans (hb2.mono hbW.size)
  replace X1 := X1.below hb2
  clear hgrow hN0 hll HLA hW1 hb2
  obtain ⟨a2, c2, rfl, G2, -⟩ := hT2.slice
  have HWAS : Hid (Ri y2 a2 c2 L) := (G2.anyI (S' := fun _ => True)).ri
  obtain ⟨x0, x1, -⟩ := X1.two
  have hcp := cput_any S S2 a ca L f t b cb o y2 (HL.out _ hbW) (HO.out _ hbW) HF.out HT.out hl1 hl2
  clear hT2 G2
  go_wp2_with fail
  refine hcp.mono ?_
  rintro e y3 ⟨⟨v3, rfl, hv3⟩, hb3⟩
  have HB3 : Hid (Below y2.heap.size y2 y3) := hb3
  have hbW3 := hbW.trans (hb3.mono hbW.size)
  replace X1 := X1.below hb3
  clear hcp hb3 x0 x1
  obtain ⟨x0, x1, -⟩ := X1.two
  obtain ⟨a3, c3, rfl, R3, -⟩ := Gi.slice hv3
  have hsp := sput_any S S2 a ca L f t b cb o y3 (HL.out _ hbW3) (HO.out _ hbW3) HF.out HT.out hl1 hl2
  have HV3 : Hid (Gi y2.heap.size y3 (.slice a3 (puL L f t o).length c3) (puL L f t o)) := hv3
  clear hv3 hbW3
  go_wp2_with fail
  refine hsp.mono ?_
  rintro e y4 ⟨⟨v4, rfl, hv4⟩, hb4⟩
  have HB4 : Hid (Below y2.heap.size y2 y4) := HB3.out.trans (hb4.mono HB3.out.size)
  have HV4 : Hid (Gi y2.heap.size y4 (.slice a3 (puL L f t o).length c3) (puL L f t o)) := HV3.out.below hb4
  replace R3 := R3.below hb4
  clear hsp hb4 x0 x1 X1
  obtain ⟨a4, c4, rfl, R4, -⟩ := Gi.slice hv4
  have hss := ssameI_any a3 a4 c3 c4 (puL L f t o) y4 R3 R4
  have hml := R3.lenB
  obtain ⟨M, hM⟩ : ∃ M, puL L f t o = M := ⟨_, rfl⟩
  rw [hM] at hss HV4 hml
  try rw [hM]
  clear hv4 R3 R4 hM HV3 HB3
  go_wp2_with fail
  refine hss.mono ?_
  rintro e y5 ⟨rfl, hb5⟩
  have HB5 : Hid (Below y2.heap.size y2 y5) := HB4.out.trans (hb5.mono HB4.out.size)
  have HV5 : Hid (Gi y2.heap.size y5 (.slice a3 M.length c3) M) := HV4.out.below hb5
  have HBW : Hid (Below w.heap.size w y2) := hbW
  clear hss hb5 HV4 HB4 hbW
  go_wp2
  go_loopw [9] (fun i wr => ∃ (k : Nat) (zs : List Int), k ≤ M.length ∧ i = .int .i64 k ∧ Hid (zs.length = M.length) ∧ Gi y2.heap.size wr (.slice a3 M.length c3) zs ∧ Below y2.heap.size y2 wr) (fun i _ => M.length - (intOf i).toNat)
  case atStart => exact ⟨0, M, Nat.zero_le _, rfl, rfl, HV5.out, HB5.out⟩
  case round =>
    clear HV5 HB5
    obtain ⟨k, zs, hk, rfl, HZ, hG, hB⟩ := hrel
    by_cases hkn : k < M.length
    · obtain ⟨g, rfl, hbg, hlt, hfz, ⟨z, hz, c0⟩, hput⟩ := Gi.put hG (show k < zs.length by rw [HZ.out]; exact hkn)
      obtain ⟨z2, hz2⟩ : ∃ y, IntKind.i64.wrap (z + 1) = y := ⟨_, rfl⟩
      have hG2 := hput z2 (by rw [← hz2]; exact wrap_i64Y _)
      have hB2 : Below y2.heap.size y2 (wr.setCell ⟨g, k, none⟩ (.int .i64 z2)) := hB.setCell (p := ⟨g, k, none⟩) hbg _
      have HZ2 : Hid ((zs.set k z2).length = M.length) := by show _ = _; rw [List.length_set]; exact HZ.out
      have i1 : (0 : Int) ≤ (k : Int) := by omega
      have i2 : (k : Int) < (M.length : Int) := by omega
      clear hG hput hB HZ
      go_wp2
      go_roundw
      case rel => exact ⟨k + 1, _, by omega, by go_num, HZ2, hG2, hB2⟩
      case measure => simp [intOf]; omega
    · have g4 : ¬ (k : Int) < (M.length : Int) := by omega
      have hbF := HBW.out.trans (hB.mono HBW.out.size)
      have hss := ssameI_any a a2 ca c2 L wr ((HL.out _ hbF).anyI (S' := fun _ => True)).ri (HWAS.out.below hB)
      clear hG hB
      go_wp2_with fail
      refine hss.mono ?_
      rintro e y6 ⟨rfl, hb6⟩
      have hfin := hbF.trans (hb6.mono hbF.size)
      clear hss hb6
      go_wp2
      go_ret
      exact ⟨rfl, hfin⟩

end Go.Proofs.Ytadgifeakfcljaa
