/-
  foundryref14.tuple: the walk.
-/
import Derived.Test.YtngmcghmniakeaaGreatZY39
import Derived.Test.YtngmcghmniakeaaGreatZY30
import Derived.Test.YtngmcghmniakeaaGreatZY28
set_option maxHeartbeats 8000000
set_option maxRecDepth 100000
set_option linter.unusedSimpArgs false
set_option linter.unusedVariables false
namespace Go.Proofs.YtngmcghmniakeaaGreat
open Go.RowKit Go.Maps
theorem rpO_pos {b : List Nat} {l : List Int} {q : Nat} (h : rpO b = some (l, q)) : 1 ≤ q := by
 unfold rpO at h
 split at h
 · cases hr : rdF RPt b (ptN b) (ptA b) (ptN b) with
   | none => rw [hr] at h; cases h
   | some r =>
    rw [hr] at h; dsimp only at h
    split at h
    · injection h with h
      injection h with h1 h2
      have := (rdF_len _ _ _ _ _ _ _ (show rdF RPt b (ptN b) (ptA b) (ptN b) = some (r.1, r.2) from hr)).2.1
      have hA : 1 ≤ ptA b := by unfold ptA; split <;> omega
      omega
    · cases h
 · cases h
theorem rpO_end {b : List Nat} {q : Nat} (h : b.length ≤ q) : rpO (b.drop q) = none := by
 rw [List.drop_eq_nil_of_le h]
 rfl
theorem nil_row (S : Nat → Prop) (w : World) : El.int.row.rep S w [.slice none 0 0] [] := ⟨none, 0, rfl, (fun b o e _ => by cases e), Gr.nil _ _ _ _ _ (Nat.zero_le _) (fun _ => rfl), Nat.zero_le _⟩
def TuR (w : World) (xs : List Nat) (p : Nat) (r : Option (Tu × Nat)) (e : Ending) (w' : World) : Prop :=
 match r with
 | some (t, q) => ∃ ra rc pa pc xa xc ya yc, e = .returned (.tuple #[.agg #[.slice ra t.rg.length rc, .bool t.al, .slice pa t.pts.length pc, .slice xa t.dx.length xc, .slice ya t.dy.length yc], .int .i64 ((q : Int) - (p : Int))]) ∧ TuC (fun k => w.heap.size + 2 ≤ k) w' ra rc pa pc xa xc ya yc t ∧ p < q ∧ q ≤ xs.length
 | none => ∃ t ra rc pa pc xa xc ya yc, e = .returned (.tuple #[.agg #[.slice ra t.rg.length rc, .bool t.al, .slice pa t.pts.length pc, .slice xa t.dx.length xc, .slice ya t.dy.length yc], .int .i64 0]) ∧ TuC (fun k => w.heap.size + 2 ≤ k) w' ra rc pa pc xa xc ya yc t
theorem below_k3 {n : Nat} {w w' : World} (h : Below w.heap.size w w') : K3 n w w' := Keep.of_below h (fun k hk => hk.2)
theorem stuple_any (ba : Option Addr) (bc : Nat) (xs : List Nat) (p A cnt : Nat) (axi : Int) (w : World) (h : Rb w ba bc xs) (hp : p ≤ xs.length) (hxl : xs.length ≤ 100000) (hax : A = axi.toNat) (hA4 : A ≤ 4) (hcnt : cnt ≤ 2000) (hi : I64 axi) :
    Calls Tryz.prog 53 #[.slice ba xs.length bc, .int .i64 (p : Int), .int .i64 (cnt : Int), .int .i64 axi] w fun e w' => TuR w xs p (rdTu xs A cnt p) e w' ∧ Below w.heap.size w w' := by
 obtain ⟨W, hW, hX6, hX8, hB⟩ : ∃ W, W = (w.alloc (.cells #[.slice none 0 0, .bool false, .slice none 0 0, .slice none 0 0, .slice none 0 0] 60)).alloc (.cells #[.slice none 0 0, .bool false, .slice none 0 0, .slice none 0 0, .slice none 0 0] 60) ∧ Bk 60 W w.heap.size [.slice none 0 0, .bool false, .slice none 0 0, .slice none 0 0, .slice none 0 0] ∧ Bk 60 W (w.heap.size + 1) [.slice none 0 0, .bool false, .slice none 0 0, .slice none 0 0, .slice none 0 0] ∧ Below w.heap.size w W :=
  ⟨_, rfl, (Bk.new _ _ [.slice none 0 0, .bool false, .slice none 0 0, .slice none 0 0, .slice none 0 0]).below (bl1 _), Bk.new1 _ _ _ [.slice none 0 0, .bool false, .slice none 0 0, .slice none 0 0, .slice none 0 0], (bl1 _).alloc (by simp) _⟩
 have HRB : Hid (Rb w ba bc xs) := h
 have hpc := h.le
 have hpm := h.cap
 unfold maxLen at hpm
 have HBY : Hid (Byt xs) := h.lim
 have HAX : Hid (A = axi.toNat) := hax
 clear h hax
 obtain ⟨gr, hgr⟩ : ∃ n, w.heap.size = n := ⟨_, rfl⟩
 obtain ⟨gt, hgt⟩ : ∃ n, gr + 1 = n := ⟨_, rfl⟩
 have HGR : Hid (w.heap.size = gr) := hgr
 have HGT : Hid (gr + 1 = gt) := hgt
 rw [hgr] at hX6 hX8; rw [hgt] at hX8
 have hrt : gr < gt := by omega
 go_enter Tryz.func53, Tryz.ntmps53
 go_upto_region 2 with fail
 rw [← hW]; clear hW hgr hgt
 have hG : Gw TeE 57 (gt + 1) (fun _ => False) W (.slice none 0 0) (tesAt xs p 0) := Gw.nil _ _ _ _ _
 go_wp2
 go_loopw [1, 12] (fun pp i wr => ∃ (k : Nat) (a8 : Option Addr) (c8 : Nat), k ≤ A ∧ pp = .int .i64 ((p + 6 * k : Nat) : Int) ∧ i = .int .i64 k ∧ p + 6 * k ≤ xs.length ∧ Bk 60 wr gt [.slice a8 k c8, .bool false, .slice none 0 0, .slice none 0 0, .slice none 0 0] ∧ Gw TeE 57 (gt + 1) (fun _ => False) wr (.slice a8 k c8) (tesAt xs p k) ∧ Bk 60 wr gr [.slice none 0 0, .bool false, .slice none 0 0, .slice none 0 0, .slice none 0 0] ∧ Below w.heap.size w wr) (fun _ i _ => A - (intOf i).toNat)
 case atStart => exact ⟨0, none, 0, Nat.zero_le _, rfl, rfl, hp, hX8, hG, hX6, hB⟩
 case round =>
  clear hX8 hX6 hB hG; obtain ⟨k, a8, c8, hk, rfl, rfl, hle, hX8, hG, hX6, hB⟩ := hrel
  by_cases hkn : k < A
  · have g4 : (k : Int) < axi := by have := HAX.out; omega
    obtain ⟨q, hq⟩ : ∃ q, p + 6 * k = q := ⟨_, rfl⟩
    have HMP : Hid (tesAt xs p (k + 1) = tesAt xs p k ++ [teAt xs (p + 6 * k)]) := tesAt_succ xs p k
    have HQK : Hid (p + 6 * (k + 1) = q + 6) := by show _ = _; omega
    have HTW : Hid (Tw (teAt xs q)) := teAt_w HBY.out q
    have HTZ : Hid (teAt xs q = ⟨sx16 (nmV xs (q : Int) 2), sx16 (nmV xs ((q : Int) + 2) 2), sx16 (nmV xs ((q : Int) + 4) 2)⟩) := rfl
    have hl7 : (tesAt xs p k).length + 1 ≤ 1000000 := by rw [tesAt_len]; omega
    rw [hq] at HMP hle ⊢
    have HQ0 : Hid (p + 6 * k = q) := hq
    clear hq
    have h0 := si16_any ba bc xs (q : Int) wr (HRB.out.below hB) ⟨by omega, by omega⟩
    have h1 := si16_any ba bc xs ((q : Int) + 2) wr (HRB.out.below hB) ⟨by omega, by omega⟩
    have h2 := si16_any ba bc xs ((q : Int) + 4) wr (HRB.out.below hB) ⟨by omega, by omega⟩
    have HIN : Hid (inB xs.length ((q : Int) + 4) 2 = decide (q + 6 ≤ xs.length)) := by
     show _ = _
     rw [Bool.eq_iff_iff]
     simp [inB]
     omega
    rw [HIN.out] at h2; rw [HTZ.out] at HTW HMP
    generalize sx16 (nmV xs (q : Int) 2) = z0 at *
    generalize sx16 (nmV xs ((q : Int) + 2) 2) = z1 at *
    generalize sx16 (nmV xs ((q : Int) + 4) 2) = z2 at *
    generalize inB xs.length (q : Int) 2 = b0 at h0
    generalize inB xs.length ((q : Int) + 2) 2 = b1 at h1
    clear HTZ HIN
    go_wp2_with fail
    refine h0.mono ?_
    rintro e u0 ⟨rfl, rfl⟩
    go_wp2_with fail
    refine h1.mono ?_
    rintro e u0 ⟨rfl, rfl⟩
    go_wp2_with fail
    refine h2.mono ?_
    rintro e u0 ⟨rfl, rfl⟩; clear h0 h1 h2
    by_cases hin : q + 6 ≤ xs.length
    rotate_left
    · have HNO : Hid (rdTu xs A cnt p = none) := rdTu_no1 (by have := HQ0.out; omega)
      rw [decide_eq_false hin]
      have hRT : TeE.row.rep (fun k => gt + 1 ≤ k) wr [.slice a8 k c8] (tesAt xs p k) := by
       have := Gw.rowU (l := tesAt xs p k) (a := a8) (c := c8) (by rw [tesAt_len]; exact hG) (by rw [tesAt_len]; omega)
       rw [tesAt_len] at this
       exact this
      clear hG HMP hl7 HTW hin
      generalize wr = wz at hX8 hX6 hB hRT ⊢
      obtain ⟨d0, d1, d2, d3, d4, -⟩ := hX8.five; obtain ⟨y0, y1, y2, y3, y4, f0, f1, f2, f3, f4⟩ := hX6.five
      have HA5 : Hid (_) := (hX6.set5U (.slice a8 k c8) (.bool false) (.slice none 0 0) (.slice none 0 0) (.slice none 0 0)).five
      have HBF : Hid (Below w.heap.size w (S5 wz gr (.slice a8 k c8) (.bool false) (.slice none 0 0) (.slice none 0 0) (.slice none 0 0))) := below_set5 (b := gr) hB (by have := HGR.out; omega) _ _ _ _ _
      have HTF : Hid (TeE.row.rep (fun k => w.heap.size + 2 ≤ k) (S5 wz gr (.slice a8 k c8) (.bool false) (.slice none 0 0) (.slice none 0 0) (.slice none 0 0)) [.slice a8 k c8] (tesAt xs p k) ∧ El.int.row.rep (fun k => w.heap.size + 2 ≤ k) (S5 wz gr (.slice a8 k c8) (.bool false) (.slice none 0 0) (.slice none 0 0) (.slice none 0 0)) [.slice none 0 0] [] ∧ El.int.row.rep (fun k => w.heap.size + 2 ≤ k) (S5 wz gr (.slice a8 k c8) (.bool false) (.slice none 0 0) (.slice none 0 0) (.slice none 0 0)) [.slice none 0 0] [] ∧ El.int.row.rep (fun k => w.heap.size + 2 ≤ k) (S5 wz gr (.slice a8 k c8) (.bool false) (.slice none 0 0) (.slice none 0 0) (.slice none 0 0)) [.slice none 0 0] []) := by
       show _ ∧ _
       rw [show w.heap.size + 2 = gt + 1 by have := HGR.out; have := HGT.out; omega]
       have hks := K3.set5 (n := gt + 1) wz (b := gr) (by omega) (.slice a8 k c8) (.bool false) (.slice none 0 0) (.slice none 0 0) (.slice none 0 0)
       exact ⟨row_k3 hRT hks, nil_row _ _, nil_row _ _, nil_row _ _⟩
      clear hX6 hX8 hB hRT; go_wp2
      refine bodyPost_ret (v := .tuple #[.agg #[.slice a8 k c8, .bool false, .slice none 0 0, .slice none 0 0, .slice none 0 0], .int .i64 0]) (by obtain ⟨r0, r1, r2, r3, r4, -⟩ := HA5.out; simp [results, Tryz.results53, go_sem, r0, r1, r2, r3, r4]) rfl ⟨by rw [HNO.out]; exact ⟨⟨(tesAt xs p k), false, [], [], []⟩, a8, c8, none, 0, none, 0, none, 0, by show _ = _; simp only [tesAt_len, List.length_nil], ⟨by first | exact HTF.out.1 | (rw [tesAt_len]; exact HTF.out.1), HTF.out.2.1, HTF.out.2.2.1, HTF.out.2.2.2⟩⟩, HBF.out⟩
    rw [decide_eq_true hin]; obtain ⟨y0, y1, y2, y3, y4, f0, -⟩ := hX8.five
    obtain ⟨V1, hV1, A1, hb1⟩ : ∃ U, U = wr.alloc (.cells #[.int .i64 z0, .int .i64 z1, .int .i64 z2] 57) ∧ Bk 57 U wr.heap.size [.int .i64 z0, .int .i64 z1, .int .i64 z2] ∧ Below wr.heap.size wr U := ⟨_, rfl, Bk.new _ _ _, bl1 _⟩
    have hGb := hG.below hb1
    have hone : Gr TeE (fun k => False ∧ (Value.slice a8 k c8).ownBlock ≠ some k) V1 (some ⟨wr.heap.size, 0, none⟩) 1 [⟨z0, z1, z2⟩] := Gr.one (E := TeE) (vs := teV ⟨z0, z1, z2⟩) (TeE_rep.2 ⟨rfl, HTW.out⟩) A1.lt (fun j hj => A1.cell j hj)
    have hX8b := hX8.below hb1
    have hX6b := hX6.below hb1
    have hBb := hB.trans (hb1.mono hB.size)
    have hbs : gt + 1 ≤ V1.heap.size := hX8b.lt
    clear hX8 hX6 hB hb1 hG HTW
    go_wp2_with (at_builtin; rw [← hV1]; refine wpList_append_el 58 57 Tryz.underlying58 info_te rfl (by decide) (by decide) rfl _ _ rfl (gt + 1) (fun _ => False) _ (tesAt xs p k) rfl hGb (some ⟨wr.heap.size, 0, none⟩) 1 1 [⟨z0, z1, z2⟩] rfl rfl hone hl7 hbs ?_)
    intro v9 w9 hT9 hgrow _
    rw [← hV1] at hgrow
    have hne : ∀ q, q ≤ gt → (Value.slice a8 k c8).ownBlock ≠ some q := fun q hq e => by have := (hGb.lo e).1; omega
    have hX9 := hX8b.grown hgrow (hne _ (by omega))
    have hX69 := hX6b.grown hgrow (hne _ (by omega))
    have hB9 := hBb.grown hgrow hBb.size (fun k hk => by have := (hGb.lo hk).1; have := HGR.out; omega)
    rw [← HMP.out] at hT9; obtain ⟨a9, c9, e9, -, -⟩ := hT9.slice; rw [tesAt_len] at e9; subst e9; clear hGb hX8b hX6b hBb hone hbs hgrow hne A1 hV1 y0 y1 y2 y3 y4 f0 HMP hl7; obtain ⟨y0, -, -, -, -, f0, -⟩ := hX9.five
    have HX10 : Hid (Bk 60 (w9.setCell ⟨gt, 0, none⟩ (.slice a9 (k + 1) c9)) gt [.slice a9 (k + 1) c9, .bool false, .slice none 0 0, .slice none 0 0, .slice none 0 0]) := hX9.set 0 (.slice a9 (k + 1) c9)
    have HX610 : Hid (Bk 60 (w9.setCell ⟨gt, 0, none⟩ (.slice a9 (k + 1) c9)) gr [.slice none 0 0, .bool false, .slice none 0 0, .slice none 0 0, .slice none 0 0]) := hX69.other 0 (.slice a9 (k + 1) c9) (b := gt) (by omega)
    have HB10 : Hid (Below w.heap.size w (w9.setCell ⟨gt, 0, none⟩ (.slice a9 (k + 1) c9))) := hB9.setCell (p := ⟨gt, 0, none⟩) (by show _ ≤ gt; have := HGR.out; omega) _
    have HG10 : Hid (Gw TeE 57 (gt + 1) (fun _ => False) (w9.setCell ⟨gt, 0, none⟩ (.slice a9 (k + 1) c9)) (.slice a9 (k + 1) c9) (tesAt xs p (k + 1))) := hT9.setB hX9 (by decide) 0 (.slice a9 (k + 1) c9)
    have hpn : (q : Int) + 6 = ((q + 6 : Nat) : Int) := by omega
    obtain ⟨m, hm⟩ : ∃ m, q + 6 = m := ⟨_, rfl⟩
    rw [hm] at hpn HQK hin; clear hm hX9 hX69 hB9 hT9; go_wp2
    go_roundw
    case rel => exact ⟨k + 1, a9, c9, by omega, by rw [HQK.out], by go_num, by rw [HQK.out]; exact hin, HX10.out, HG10.out, HX610.out, HB10.out⟩
    case measure => simp [intOf]; omega
  · have ek : k = A := by omega
    rw [ek] at hX8 hG hle ⊢
    have g4 : ¬ (A : Int) < axi := by have := HAX.out; omega
    clear ek hk hkn k
    obtain ⟨q, hq⟩ : ∃ q, p + 6 * A = q := ⟨_, rfl⟩
    have HQ : Hid (p + 6 * A = q) := hq
    rw [hq] at hle ⊢
    have hqx : q ≤ xs.length := hle
    have hRT : TeE.row.rep (fun k => gt + 1 ≤ k) wr [.slice a8 A c8] (tesAt xs p A) := by
     have := Gw.rowU (l := tesAt xs p A) (a := a8) (c := c8) (by rw [tesAt_len]; exact hG) (by rw [tesAt_len]; omega)
     rw [tesAt_len] at this
     exact this
    clear hq hG hle
    by_cases hqe : xs.length ≤ q
    · have HNO : Hid (rdTu xs A cnt p = none) := rdTu_no2 HQ.out hqx (rpO_end hqe)
      have g5 : (xs.length : Int) ≤ (q : Int) := by omega
      generalize wr = wz at hX8 hX6 hB hRT ⊢
      obtain ⟨d0, d1, d2, d3, d4, -⟩ := hX8.five; obtain ⟨y0, y1, y2, y3, y4, f0, f1, f2, f3, f4⟩ := hX6.five
      have HA5 : Hid (_) := (hX6.set5U (.slice a8 A c8) (.bool false) (.slice none 0 0) (.slice none 0 0) (.slice none 0 0)).five
      have HBF : Hid (Below w.heap.size w (S5 wz gr (.slice a8 A c8) (.bool false) (.slice none 0 0) (.slice none 0 0) (.slice none 0 0))) := below_set5 (b := gr) hB (by have := HGR.out; omega) _ _ _ _ _
      have HTF : Hid (TeE.row.rep (fun k => w.heap.size + 2 ≤ k) (S5 wz gr (.slice a8 A c8) (.bool false) (.slice none 0 0) (.slice none 0 0) (.slice none 0 0)) [.slice a8 A c8] (tesAt xs p A) ∧ El.int.row.rep (fun k => w.heap.size + 2 ≤ k) (S5 wz gr (.slice a8 A c8) (.bool false) (.slice none 0 0) (.slice none 0 0) (.slice none 0 0)) [.slice none 0 0] [] ∧ El.int.row.rep (fun k => w.heap.size + 2 ≤ k) (S5 wz gr (.slice a8 A c8) (.bool false) (.slice none 0 0) (.slice none 0 0) (.slice none 0 0)) [.slice none 0 0] [] ∧ El.int.row.rep (fun k => w.heap.size + 2 ≤ k) (S5 wz gr (.slice a8 A c8) (.bool false) (.slice none 0 0) (.slice none 0 0) (.slice none 0 0)) [.slice none 0 0] []) := by
       show _ ∧ _
       rw [show w.heap.size + 2 = gt + 1 by have := HGR.out; have := HGT.out; omega]
       have hks := K3.set5 (n := gt + 1) wz (b := gr) (by omega) (.slice a8 A c8) (.bool false) (.slice none 0 0) (.slice none 0 0) (.slice none 0 0)
       exact ⟨row_k3 hRT hks, nil_row _ _, nil_row _ _, nil_row _ _⟩
      clear hX6 hX8 hB hRT; go_wp2
      refine bodyPost_ret (v := .tuple #[.agg #[.slice a8 A c8, .bool false, .slice none 0 0, .slice none 0 0, .slice none 0 0], .int .i64 0]) (by obtain ⟨r0, r1, r2, r3, r4, -⟩ := HA5.out; simp [results, Tryz.results53, go_sem, r0, r1, r2, r3, r4]) rfl ⟨by rw [HNO.out]; exact ⟨⟨(tesAt xs p A), false, [], [], []⟩, a8, c8, none, 0, none, 0, none, 0, by show _ = _; simp only [tesAt_len, List.length_nil], ⟨by first | exact HTF.out.1 | (rw [tesAt_len]; exact HTF.out.1), HTF.out.2.1, HTF.out.2.2.1, HTF.out.2.2.2⟩⟩, HBF.out⟩
    have g5 : ¬ (xs.length : Int) ≤ (q : Int) := by omega
    have hcx := sReadPointsL_any _ _ (xs.drop q) wr ((HRB.out.below hB).from q hqx) (by rw [List.length_drop]; omega)
    rw [if_neg (show ¬ bc = q by omega), List.length_drop] at hcx
    have hgtu := hX8.lt
    go_wp2_with fail
    refine hcx.mono ?_
    rintro e u1 ⟨a1, c1, rfl, hri, hlo, hno, hb5⟩; replace hX8 := hX8.below hb5; replace hX6 := hX6.below hb5
    replace hB := hB.trans (hb5.mono hB.size)
    replace hRT := row_k3 hRT (below_k3 (n := gt + 1) hb5)
    clear hcx hb5
    cases ho : rpO (xs.drop q) with
    | none =>
     have HNO : Hid (rdTu xs A cnt p = none) := rdTu_no2 HQ.out hqx ho
     obtain ⟨k1, k2, k3⟩ := rp_none ho
     rw [k1, k2, k3]; clear k1 k2 k3 ho hri hlo hno
     generalize u1 = wz at hX8 hX6 hB hRT ⊢
     obtain ⟨d0, d1, d2, d3, d4, -⟩ := hX8.five; obtain ⟨y0, y1, y2, y3, y4, f0, f1, f2, f3, f4⟩ := hX6.five
     have HA5 : Hid (_) := (hX6.set5U (.slice a8 A c8) (.bool false) (.slice none 0 0) (.slice none 0 0) (.slice none 0 0)).five
     have HBF : Hid (Below w.heap.size w (S5 wz gr (.slice a8 A c8) (.bool false) (.slice none 0 0) (.slice none 0 0) (.slice none 0 0))) := below_set5 (b := gr) hB (by have := HGR.out; omega) _ _ _ _ _
     have HTF : Hid (TeE.row.rep (fun k => w.heap.size + 2 ≤ k) (S5 wz gr (.slice a8 A c8) (.bool false) (.slice none 0 0) (.slice none 0 0) (.slice none 0 0)) [.slice a8 A c8] (tesAt xs p A) ∧ El.int.row.rep (fun k => w.heap.size + 2 ≤ k) (S5 wz gr (.slice a8 A c8) (.bool false) (.slice none 0 0) (.slice none 0 0) (.slice none 0 0)) [.slice none 0 0] [] ∧ El.int.row.rep (fun k => w.heap.size + 2 ≤ k) (S5 wz gr (.slice a8 A c8) (.bool false) (.slice none 0 0) (.slice none 0 0) (.slice none 0 0)) [.slice none 0 0] [] ∧ El.int.row.rep (fun k => w.heap.size + 2 ≤ k) (S5 wz gr (.slice a8 A c8) (.bool false) (.slice none 0 0) (.slice none 0 0) (.slice none 0 0)) [.slice none 0 0] []) := by
      show _ ∧ _
      rw [show w.heap.size + 2 = gt + 1 by have := HGR.out; have := HGT.out; omega]
      have hks := K3.set5 (n := gt + 1) wz (b := gr) (by omega) (.slice a8 A c8) (.bool false) (.slice none 0 0) (.slice none 0 0) (.slice none 0 0)
      exact ⟨row_k3 hRT hks, nil_row _ _, nil_row _ _, nil_row _ _⟩
     clear hX6 hX8 hB hRT; go_wp2
     refine bodyPost_ret (v := .tuple #[.agg #[.slice a8 A c8, .bool false, .slice none 0 0, .slice none 0 0, .slice none 0 0], .int .i64 0]) (by obtain ⟨r0, r1, r2, r3, r4, -⟩ := HA5.out; simp [results, Tryz.results53, go_sem, r0, r1, r2, r3, r4]) rfl ⟨by rw [HNO.out]; exact ⟨⟨(tesAt xs p A), false, [], [], []⟩, a8, c8, none, 0, none, 0, none, 0, by show _ = _; simp only [tesAt_len, List.length_nil], ⟨by first | exact HTF.out.1 | (rw [tesAt_len]; exact HTF.out.1), HTF.out.2.1, HTF.out.2.2.1, HTF.out.2.2.2⟩⟩, HBF.out⟩
    | some r =>
     obtain ⟨ps, q1⟩ := r
     obtain ⟨k1, k2, k3, k4, k5⟩ := rpN_nat ho
     have hq1p := rpO_pos ho
     rw [k1] at hri; rw [k1, k2, k3]
     have HRP : Hid (rpO (xs.drop q) = some (ps, q1)) := ho
     obtain ⟨n1, hn1⟩ : ∃ n, ps.length = n := ⟨_, rfl⟩
     have HN1 : Hid (ps.length = n1) := hn1
     have hRP := hri.row (S := fun k => gt + 1 ≤ k) (fun b o e => by have := hlo b o e; omega) hno (by omega)
     rw [hn1] at hRP ⊢; rw [hn1] at k5; rw [List.length_drop] at k4
     obtain ⟨q5, hq5⟩ : ∃ n, q + q1 = n := ⟨_, rfl⟩
     have HQ5 : Hid (q + q1 = q5) := hq5
     have hq5x : q5 ≤ xs.length := by omega
     have hpn5 : (q : Int) + (q1 : Int) = (q5 : Int) := by omega
     clear k1 k2 k3 ho hri hlo hno hn1 hq5
     by_cases hz : n1 = 0
     · have gb : ((n1 : Int) == 0) = true := by simpa using hz
       clear hz
       have HAL : Hid (decide (ps.length = 0) = true) := by show _ = _; rw [HN1.out]; simpa using gb
       have HCN : Hid ((cnN cnt ps : Int) = (cnt : Int)) := by show _ = _; unfold cnN; rw [HN1.out]; rw [if_pos (by simpa using gb)]
       obtain ⟨y0, y1, y2, y3, y4, f0, f1, f2, f3, f4⟩ := hX8.five
       have hX81 := (hX8.set 2 (.slice a1 n1 c1)).set 1 (.bool true)
       have hX61 := (hX6.other 2 (.slice a1 n1 c1) (b := gt) (by omega)).other 1 (.bool true) (b := gt) (by omega)
       have hB1 : Below w.heap.size w ((u1.setCell ⟨gt, 2, none⟩ (.slice a1 n1 c1)).setCell ⟨gt, 1, none⟩ (.bool true)) := (hB.setCell (p := ⟨gt, 2, none⟩) (by show _ ≤ gt; have := HGR.out; omega) _).setCell (p := ⟨gt, 1, none⟩) (by show _ ≤ gt; have := HGR.out; omega) _
       have hRT1 := row_k3 hRT ((K3.set (n := gt + 1) u1 (b := gt) (by omega) 2 (.slice a1 n1 c1)).trans (K3.set _ (b := gt) (by omega) 1 (.bool true)))
       have hRP1 := row_k3 hRP ((K3.set (n := gt + 1) u1 (b := gt) (by omega) 2 (.slice a1 n1 c1)).trans (K3.set _ (b := gt) (by omega) 1 (.bool true)))
       clear hX8 hX6 hB hRT hRP
       go_upto_region 21 with fail
       generalize ((u1.setCell ⟨gt, 2, none⟩ (.slice a1 n1 c1)).setCell ⟨gt, 1, none⟩ (.bool true)) = u4 at hX81 hX61 hB1 hRT1 hRP1 ⊢
       clear y0 y1 y2 y3 y4 f0 f1 f2 f3 f4
       have hX8 : Bk 60 u4 gt [.slice a8 A c8, .bool true, .slice a1 n1 c1, .slice none 0 0, .slice none 0 0] := hX81
       have hX6 := hX61
       have hB := hB1
       have hRT := hRT1
       have hRP := hRP1
       clear hX81 hX61 hB1 hRT1 hRP1; obtain ⟨y0, y1, y2, y3, y4, -⟩ := hX8.five
       have hgtu2 := hX8.lt
       obtain ⟨pb2, hpb2⟩ : ∃ x, (if bc = q5 then ba else ba.map (fun x => x.add q5)) = x := ⟨_, rfl⟩
       have hcx := sReadChangesL_any _ _ (xs.drop q5) (cnt : Int) u4 ((HRB.out.below hB).from q5 (by omega)) ⟨by omega, by omega⟩ (by rw [List.length_drop]; omega)
       rw [hpb2, List.length_drop] at hcx
       go_wp2_with fail
       refine hcx.mono ?_
       rintro e u5 ⟨a2, c2, rfl, hri2, hlo2, hno2, hb5⟩; replace hX8 := hX8.below hb5; replace hX6 := hX6.below hb5
       replace hB := hB.trans (hb5.mono hB.size)
       replace hRT := row_k3 hRT (below_k3 (n := gt + 1) hb5)
       replace hRP := row_k3 hRP (below_k3 (n := gt + 1) hb5)
       clear hcx hb5 hpb2
       obtain ⟨n2, hn2⟩ : ∃ n, (rcL (xs.drop q5) (cnt : Int)).length = n := ⟨_, rfl⟩
       have hnl2 : n2 ≤ 9223372036854775807 := by have := hri2.lenB; omega
       clear y0 y1 y2 y3 y4
       cases ho2 : rcO (xs.drop q5) (cnt : Int) with
       | none =>
        have HNO : Hid (rdTu xs A cnt p = none) := rdTu_no3 HQ.out hqx HRP.out (by rw [HCN.out, HQ5.out]; exact ho2)
        have gE : ((rcE (xs.drop q5) (cnt : Int)) != 0) = true := by have := rcE_ok (xs.drop q5) (cnt : Int); rw [ho2] at this; simpa using this
        clear hn2 hri2 hlo2 hno2 ho2
        generalize u5 = wz at hX8 hX6 hB hRT hRP ⊢
        obtain ⟨d0, d1, d2, d3, d4, -⟩ := hX8.five; obtain ⟨y0, y1, y2, y3, y4, f0, f1, f2, f3, f4⟩ := hX6.five
        have HA5 : Hid (_) := (hX6.set5U (.slice a8 A c8) (.bool true) (.slice a1 n1 c1) (.slice none 0 0) (.slice none 0 0)).five
        have HBF : Hid (Below w.heap.size w (S5 wz gr (.slice a8 A c8) (.bool true) (.slice a1 n1 c1) (.slice none 0 0) (.slice none 0 0))) := below_set5 (b := gr) hB (by have := HGR.out; omega) _ _ _ _ _
        have HTF : Hid (TeE.row.rep (fun k => w.heap.size + 2 ≤ k) (S5 wz gr (.slice a8 A c8) (.bool true) (.slice a1 n1 c1) (.slice none 0 0) (.slice none 0 0)) [.slice a8 A c8] (tesAt xs p A) ∧ El.int.row.rep (fun k => w.heap.size + 2 ≤ k) (S5 wz gr (.slice a8 A c8) (.bool true) (.slice a1 n1 c1) (.slice none 0 0) (.slice none 0 0)) [.slice a1 n1 c1] ps ∧ El.int.row.rep (fun k => w.heap.size + 2 ≤ k) (S5 wz gr (.slice a8 A c8) (.bool true) (.slice a1 n1 c1) (.slice none 0 0) (.slice none 0 0)) [.slice none 0 0] [] ∧ El.int.row.rep (fun k => w.heap.size + 2 ≤ k) (S5 wz gr (.slice a8 A c8) (.bool true) (.slice a1 n1 c1) (.slice none 0 0) (.slice none 0 0)) [.slice none 0 0] []) := by
         show _ ∧ _
         rw [show w.heap.size + 2 = gt + 1 by have := HGR.out; have := HGT.out; omega]
         have hks := K3.set5 (n := gt + 1) wz (b := gr) (by omega) (.slice a8 A c8) (.bool true) (.slice a1 n1 c1) (.slice none 0 0) (.slice none 0 0)
         exact ⟨row_k3 hRT hks, row_k3 hRP hks, nil_row _ _, nil_row _ _⟩
        clear hX6 hX8 hB hRT hRP; go_wp2
        refine bodyPost_ret (v := .tuple #[.agg #[.slice a8 A c8, .bool true, .slice a1 n1 c1, .slice none 0 0, .slice none 0 0], .int .i64 0]) (by obtain ⟨r0, r1, r2, r3, r4, -⟩ := HA5.out; simp [results, Tryz.results53, go_sem, r0, r1, r2, r3, r4]) rfl ⟨by rw [HNO.out]; exact ⟨⟨(tesAt xs p A), true, ps, [], []⟩, a8, c8, a1, c1, none, 0, none, 0, by show _ = _; simp only [tesAt_len, HN1.out, List.length_nil], ⟨by first | exact HTF.out.1 | (rw [tesAt_len]; exact HTF.out.1), by first | exact HTF.out.2.1 | (rw [HN1.out]; exact HTF.out.2.1), HTF.out.2.2.1, HTF.out.2.2.2⟩⟩, HBF.out⟩
       | some r2 =>
        obtain ⟨dx, q2⟩ := r2
        obtain ⟨k1, k2, k3, k4⟩ := rcN_some ho2
        have k6 : rcN (xs.drop q5) (cnt : Int) = (q2 : Int) := by unfold rcN; rw [ho2]
        have k7 : rcE (xs.drop q5) (cnt : Int) = 0 := by unfold rcE; rw [ho2]
        rw [k1] at hri2 hn2; rw [k1, k6, k7, hn2]
        have hRX := hri2.row (S := fun k => gt + 1 ≤ k) (fun b o e => by have := hlo2 b o e; omega) hno2 (by omega)
        rw [hn2] at hRX
        have HO2 : Hid (rcO (xs.drop q5) (cnt : Int) = some (dx, q2)) := ho2
        have HN2 : Hid (dx.length = n2) := hn2
        rw [List.length_drop] at k3
        obtain ⟨q6, hq6⟩ : ∃ n, q5 + q2 = n := ⟨_, rfl⟩
        have HQ6 : Hid (q5 + q2 = q6) := hq6
        have hq6x : q6 ≤ xs.length := by omega
        have hpn6 : (q5 : Int) + (q2 : Int) = (q6 : Int) := by omega
        clear hn2 hri2 hlo2 hno2 ho2 k1 k2 k6 k7 k3 hq6
        have hgtu3 := hX8.lt
        obtain ⟨pb3, hpb3⟩ : ∃ x, (if bc = q6 then ba else ba.map (fun x => x.add q6)) = x := ⟨_, rfl⟩
        have hcx := sReadChangesL_any _ _ (xs.drop q6) (cnt : Int) u5 ((HRB.out.below hB).from q6 (by omega)) ⟨by omega, by omega⟩ (by rw [List.length_drop]; omega)
        rw [hpb3, List.length_drop] at hcx
        go_wp2_with fail
        refine hcx.mono ?_
        rintro e u7 ⟨a3, c3, rfl, hri3, hlo3, hno3, hb5⟩; replace hX8 := hX8.below hb5; replace hX6 := hX6.below hb5
        replace hB := hB.trans (hb5.mono hB.size)
        replace hRT := row_k3 hRT (below_k3 (n := gt + 1) hb5)
        replace hRP := row_k3 hRP (below_k3 (n := gt + 1) hb5)
        replace hRX := row_k3 hRX (below_k3 (n := gt + 1) hb5)
        clear hcx hb5 hpb3
        obtain ⟨n3, hn3⟩ : ∃ n, (rcL (xs.drop q6) (cnt : Int)).length = n := ⟨_, rfl⟩
        have hnl3 : n3 ≤ 9223372036854775807 := by have := hri3.lenB; omega
        clear hpn6
        cases ho3 : rcO (xs.drop q6) (cnt : Int) with
        | none =>
         have HNO : Hid (rdTu xs A cnt p = none) := rdTu_no4 HQ.out hqx HRP.out (by rw [HCN.out, HQ5.out]; exact HO2.out) (by rw [HCN.out, HQ5.out, HQ6.out]; exact ho3)
         have gE : ((rcE (xs.drop q6) (cnt : Int)) != 0) = true := by have := rcE_ok (xs.drop q6) (cnt : Int); rw [ho3] at this; simpa using this
         clear hn3 hri3 hlo3 hno3 ho3 hRX
         generalize u7 = wz at hX8 hX6 hB hRT hRP ⊢
         obtain ⟨d0, d1, d2, d3, d4, -⟩ := hX8.five; obtain ⟨y0, y1, y2, y3, y4, f0, f1, f2, f3, f4⟩ := hX6.five
         have HA5 : Hid (_) := (hX6.set5U (.slice a8 A c8) (.bool true) (.slice a1 n1 c1) (.slice none 0 0) (.slice none 0 0)).five
         have HBF : Hid (Below w.heap.size w (S5 wz gr (.slice a8 A c8) (.bool true) (.slice a1 n1 c1) (.slice none 0 0) (.slice none 0 0))) := below_set5 (b := gr) hB (by have := HGR.out; omega) _ _ _ _ _
         have HTF : Hid (TeE.row.rep (fun k => w.heap.size + 2 ≤ k) (S5 wz gr (.slice a8 A c8) (.bool true) (.slice a1 n1 c1) (.slice none 0 0) (.slice none 0 0)) [.slice a8 A c8] (tesAt xs p A) ∧ El.int.row.rep (fun k => w.heap.size + 2 ≤ k) (S5 wz gr (.slice a8 A c8) (.bool true) (.slice a1 n1 c1) (.slice none 0 0) (.slice none 0 0)) [.slice a1 n1 c1] ps ∧ El.int.row.rep (fun k => w.heap.size + 2 ≤ k) (S5 wz gr (.slice a8 A c8) (.bool true) (.slice a1 n1 c1) (.slice none 0 0) (.slice none 0 0)) [.slice none 0 0] [] ∧ El.int.row.rep (fun k => w.heap.size + 2 ≤ k) (S5 wz gr (.slice a8 A c8) (.bool true) (.slice a1 n1 c1) (.slice none 0 0) (.slice none 0 0)) [.slice none 0 0] []) := by
          show _ ∧ _
          rw [show w.heap.size + 2 = gt + 1 by have := HGR.out; have := HGT.out; omega]
          have hks := K3.set5 (n := gt + 1) wz (b := gr) (by omega) (.slice a8 A c8) (.bool true) (.slice a1 n1 c1) (.slice none 0 0) (.slice none 0 0)
          exact ⟨row_k3 hRT hks, row_k3 hRP hks, nil_row _ _, nil_row _ _⟩
         clear hX6 hX8 hB hRT hRP; go_wp2
         refine bodyPost_ret (v := .tuple #[.agg #[.slice a8 A c8, .bool true, .slice a1 n1 c1, .slice none 0 0, .slice none 0 0], .int .i64 0]) (by obtain ⟨r0, r1, r2, r3, r4, -⟩ := HA5.out; simp [results, Tryz.results53, go_sem, r0, r1, r2, r3, r4]) rfl ⟨by rw [HNO.out]; exact ⟨⟨(tesAt xs p A), true, ps, [], []⟩, a8, c8, a1, c1, none, 0, none, 0, by show _ = _; simp only [tesAt_len, HN1.out, List.length_nil], ⟨by first | exact HTF.out.1 | (rw [tesAt_len]; exact HTF.out.1), by first | exact HTF.out.2.1 | (rw [HN1.out]; exact HTF.out.2.1), HTF.out.2.2.1, HTF.out.2.2.2⟩⟩, HBF.out⟩
        | some r3 =>
         obtain ⟨dy, q3⟩ := r3
         obtain ⟨k1, k2, k3, k5⟩ := rcN_some ho3
         have k6 : rcN (xs.drop q6) (cnt : Int) = (q3 : Int) := by unfold rcN; rw [ho3]
         have k7 : rcE (xs.drop q6) (cnt : Int) = 0 := by unfold rcE; rw [ho3]
         rw [k1] at hri3 hn3; rw [k1, k6, k7, hn3]
         have hRY := hri3.row (S := fun k => gt + 1 ≤ k) (fun b o e => by have := hlo3 b o e; omega) hno3 (by omega)
         rw [hn3] at hRY
         have HYES : Hid (_) := rdTu_yes (cnt := cnt) HQ.out hqx HRP.out (by rw [HCN.out, HQ5.out]; exact HO2.out) (by rw [HCN.out, HQ5.out, HQ6.out]; exact ho3)
         rw [HAL.out, HQ5.out, HQ6.out] at HYES
         have HN3 : Hid (dy.length = n3) := hn3
         rw [List.length_drop] at k3
         have HLE : Hid (q6 + q3 ≤ xs.length) := by show _ ≤ _; omega
         have HLT : Hid (p < q6 + q3) := by show _ < _; have := HQ.out; have := HQ5.out; have := HQ6.out; omega
         obtain ⟨zz, hzz⟩ : ∃ z : Int, (q6 : Int) + (q3 : Int) - (p : Int) = z := ⟨_, rfl⟩
         have HVAL : Hid (((q6 + q3 : Nat) : Int) - (p : Int) = zz) := by show _ = _; omega
         obtain ⟨zs, hzs⟩ : ∃ z : Int, (q6 : Int) + (q3 : Int) = z := ⟨_, rfl⟩
         rw [hzs] at hzz
         have hzb : 0 ≤ zs ∧ zs ≤ 1000000 := by omega
         clear hn3 hri3 hlo3 hno3 ho3 k1 k2 k6 k7 k3; obtain ⟨y0, y1, y2, y3, y4, f0, f1, f2, f3, f4⟩ := hX8.five
         replace hX8 := (hX8.set 3 (.slice a2 n2 c2)).set 4 (.slice a3 n3 c3)
         replace hX6 := (hX6.other 3 (.slice a2 n2 c2) (b := gt) (by omega)).other 4 (.slice a3 n3 c3) (b := gt) (by omega)
         replace hB : Below w.heap.size w ((u7.setCell ⟨gt, 3, none⟩ (.slice a2 n2 c2)).setCell ⟨gt, 4, none⟩ (.slice a3 n3 c3)) := (hB.setCell (p := ⟨gt, 3, none⟩) (by show _ ≤ gt; have := HGR.out; omega) _).setCell (p := ⟨gt, 4, none⟩) (by show _ ≤ gt; have := HGR.out; omega) _
         replace hRT := row_k3 hRT ((K3.set (n := gt + 1) u7 (b := gt) (by omega) 3 (.slice a2 n2 c2)).trans (K3.set _ (b := gt) (by omega) 4 (.slice a3 n3 c3)))
         replace hRP := row_k3 hRP ((K3.set (n := gt + 1) u7 (b := gt) (by omega) 3 (.slice a2 n2 c2)).trans (K3.set _ (b := gt) (by omega) 4 (.slice a3 n3 c3)))
         replace hRX := row_k3 hRX ((K3.set (n := gt + 1) u7 (b := gt) (by omega) 3 (.slice a2 n2 c2)).trans (K3.set _ (b := gt) (by omega) 4 (.slice a3 n3 c3)))
         replace hRY := row_k3 hRY ((K3.set (n := gt + 1) u7 (b := gt) (by omega) 3 (.slice a2 n2 c2)).trans (K3.set _ (b := gt) (by omega) 4 (.slice a3 n3 c3)))
         go_upto_region 32 with fail
         clear y0 y1 y2 y3 y4 f0 f1 f2 f3 f4
         generalize ((u7.setCell ⟨gt, 3, none⟩ (.slice a2 n2 c2)).setCell ⟨gt, 4, none⟩ (.slice a3 n3 c3)) = wz at hX8 hX6 hB hRT hRP hRX hRY ⊢
         obtain ⟨d0, d1, d2, d3, d4, -⟩ := hX8.five; obtain ⟨y0, y1, y2, y3, y4, f0, f1, f2, f3, f4⟩ := hX6.five
         have HA5 : Hid (_) := (hX6.set5U (.slice a8 A c8) (.bool true) (.slice a1 n1 c1) (.slice a2 n2 c2) (.slice a3 n3 c3)).five
         have HBF : Hid (Below w.heap.size w (S5 wz gr (.slice a8 A c8) (.bool true) (.slice a1 n1 c1) (.slice a2 n2 c2) (.slice a3 n3 c3))) := below_set5 (b := gr) hB (by have := HGR.out; omega) _ _ _ _ _
         have HTF : Hid (TeE.row.rep (fun k => w.heap.size + 2 ≤ k) (S5 wz gr (.slice a8 A c8) (.bool true) (.slice a1 n1 c1) (.slice a2 n2 c2) (.slice a3 n3 c3)) [.slice a8 A c8] (tesAt xs p A) ∧ El.int.row.rep (fun k => w.heap.size + 2 ≤ k) (S5 wz gr (.slice a8 A c8) (.bool true) (.slice a1 n1 c1) (.slice a2 n2 c2) (.slice a3 n3 c3)) [.slice a1 n1 c1] ps ∧ El.int.row.rep (fun k => w.heap.size + 2 ≤ k) (S5 wz gr (.slice a8 A c8) (.bool true) (.slice a1 n1 c1) (.slice a2 n2 c2) (.slice a3 n3 c3)) [.slice a2 n2 c2] dx ∧ El.int.row.rep (fun k => w.heap.size + 2 ≤ k) (S5 wz gr (.slice a8 A c8) (.bool true) (.slice a1 n1 c1) (.slice a2 n2 c2) (.slice a3 n3 c3)) [.slice a3 n3 c3] dy) := by
          show _ ∧ _
          rw [show w.heap.size + 2 = gt + 1 by have := HGR.out; have := HGT.out; omega]
          have hks := K3.set5 (n := gt + 1) wz (b := gr) (by omega) (.slice a8 A c8) (.bool true) (.slice a1 n1 c1) (.slice a2 n2 c2) (.slice a3 n3 c3)
          exact ⟨row_k3 hRT hks, row_k3 hRP hks, row_k3 hRX hks, row_k3 hRY hks⟩
         clear hX6 hX8 hB hRT hRP hRX hRY; go_wp2
         refine bodyPost_ret (v := .tuple #[.agg #[.slice a8 A c8, .bool true, .slice a1 n1 c1, .slice a2 n2 c2, .slice a3 n3 c3], .int .i64 zz]) (by obtain ⟨r0, r1, r2, r3, r4, -⟩ := HA5.out; simp [results, Tryz.results53, go_sem, r0, r1, r2, r3, r4]) rfl ⟨by rw [HYES.out]; exact ⟨a8, c8, a1, c1, a2, c2, a3, c3, by show _ = _; simp only [tesAt_len, HN1.out, HN2.out, HN3.out]; rw [HVAL.out], ⟨by first | exact HTF.out.1 | (rw [tesAt_len]; exact HTF.out.1), by first | exact HTF.out.2.1 | (rw [HN1.out]; exact HTF.out.2.1), by first | exact HTF.out.2.2.1 | (rw [HN2.out]; exact HTF.out.2.2.1), by first | exact HTF.out.2.2.2 | (rw [HN3.out]; exact HTF.out.2.2.2)⟩, HLT.out, HLE.out⟩, HBF.out⟩
     · have gb : ((n1 : Int) == 0) = false := by simpa using hz
       clear hz
       have HAL : Hid (decide (ps.length = 0) = false) := by show _ = _; rw [HN1.out]; simpa using gb
       have HCN : Hid ((cnN cnt ps : Int) = (n1 : Int)) := by show _ = _; unfold cnN; rw [HN1.out]; rw [if_neg (by simpa using gb)]
       obtain ⟨y0, y1, y2, y3, y4, f0, f1, f2, f3, f4⟩ := hX8.five
       have hX81 := (hX8.set 2 (.slice a1 n1 c1)).set 1 (.bool false)
       have hX61 := (hX6.other 2 (.slice a1 n1 c1) (b := gt) (by omega)).other 1 (.bool false) (b := gt) (by omega)
       have hB1 : Below w.heap.size w ((u1.setCell ⟨gt, 2, none⟩ (.slice a1 n1 c1)).setCell ⟨gt, 1, none⟩ (.bool false)) := (hB.setCell (p := ⟨gt, 2, none⟩) (by show _ ≤ gt; have := HGR.out; omega) _).setCell (p := ⟨gt, 1, none⟩) (by show _ ≤ gt; have := HGR.out; omega) _
       have hRT1 := row_k3 hRT ((K3.set (n := gt + 1) u1 (b := gt) (by omega) 2 (.slice a1 n1 c1)).trans (K3.set _ (b := gt) (by omega) 1 (.bool false)))
       have hRP1 := row_k3 hRP ((K3.set (n := gt + 1) u1 (b := gt) (by omega) 2 (.slice a1 n1 c1)).trans (K3.set _ (b := gt) (by omega) 1 (.bool false)))
       clear hX8 hX6 hB hRT hRP
       go_upto_region 21 with fail
       generalize ((u1.setCell ⟨gt, 2, none⟩ (.slice a1 n1 c1)).setCell ⟨gt, 1, none⟩ (.bool false)) = u4 at hX81 hX61 hB1 hRT1 hRP1 ⊢
       clear y0 y1 y2 y3 y4 f0 f1 f2 f3 f4
       have hX8 : Bk 60 u4 gt [.slice a8 A c8, .bool false, .slice a1 n1 c1, .slice none 0 0, .slice none 0 0] := hX81
       have hX6 := hX61
       have hB := hB1
       have hRT := hRT1
       have hRP := hRP1
       clear hX81 hX61 hB1 hRT1 hRP1; obtain ⟨y0, y1, y2, y3, y4, -⟩ := hX8.five
       have hgtu2 := hX8.lt
       obtain ⟨pb2, hpb2⟩ : ∃ x, (if bc = q5 then ba else ba.map (fun x => x.add q5)) = x := ⟨_, rfl⟩
       have hcx := sReadChangesL_any _ _ (xs.drop q5) (n1 : Int) u4 ((HRB.out.below hB).from q5 (by omega)) ⟨by omega, by omega⟩ (by rw [List.length_drop]; omega)
       rw [hpb2, List.length_drop] at hcx
       go_wp2_with fail
       refine hcx.mono ?_
       rintro e u5 ⟨a2, c2, rfl, hri2, hlo2, hno2, hb5⟩; replace hX8 := hX8.below hb5; replace hX6 := hX6.below hb5
       replace hB := hB.trans (hb5.mono hB.size)
       replace hRT := row_k3 hRT (below_k3 (n := gt + 1) hb5)
       replace hRP := row_k3 hRP (below_k3 (n := gt + 1) hb5)
       clear hcx hb5 hpb2
       obtain ⟨n2, hn2⟩ : ∃ n, (rcL (xs.drop q5) (n1 : Int)).length = n := ⟨_, rfl⟩
       have hnl2 : n2 ≤ 9223372036854775807 := by have := hri2.lenB; omega
       clear y0 y1 y2 y3 y4
       cases ho2 : rcO (xs.drop q5) (n1 : Int) with
       | none =>
        have HNO : Hid (rdTu xs A cnt p = none) := rdTu_no3 HQ.out hqx HRP.out (by rw [HCN.out, HQ5.out]; exact ho2)
        have gE : ((rcE (xs.drop q5) (n1 : Int)) != 0) = true := by have := rcE_ok (xs.drop q5) (n1 : Int); rw [ho2] at this; simpa using this
        clear hn2 hri2 hlo2 hno2 ho2
        generalize u5 = wz at hX8 hX6 hB hRT hRP ⊢
        obtain ⟨d0, d1, d2, d3, d4, -⟩ := hX8.five; obtain ⟨y0, y1, y2, y3, y4, f0, f1, f2, f3, f4⟩ := hX6.five
        have HA5 : Hid (_) := (hX6.set5U (.slice a8 A c8) (.bool false) (.slice a1 n1 c1) (.slice none 0 0) (.slice none 0 0)).five
        have HBF : Hid (Below w.heap.size w (S5 wz gr (.slice a8 A c8) (.bool false) (.slice a1 n1 c1) (.slice none 0 0) (.slice none 0 0))) := below_set5 (b := gr) hB (by have := HGR.out; omega) _ _ _ _ _
        have HTF : Hid (TeE.row.rep (fun k => w.heap.size + 2 ≤ k) (S5 wz gr (.slice a8 A c8) (.bool false) (.slice a1 n1 c1) (.slice none 0 0) (.slice none 0 0)) [.slice a8 A c8] (tesAt xs p A) ∧ El.int.row.rep (fun k => w.heap.size + 2 ≤ k) (S5 wz gr (.slice a8 A c8) (.bool false) (.slice a1 n1 c1) (.slice none 0 0) (.slice none 0 0)) [.slice a1 n1 c1] ps ∧ El.int.row.rep (fun k => w.heap.size + 2 ≤ k) (S5 wz gr (.slice a8 A c8) (.bool false) (.slice a1 n1 c1) (.slice none 0 0) (.slice none 0 0)) [.slice none 0 0] [] ∧ El.int.row.rep (fun k => w.heap.size + 2 ≤ k) (S5 wz gr (.slice a8 A c8) (.bool false) (.slice a1 n1 c1) (.slice none 0 0) (.slice none 0 0)) [.slice none 0 0] []) := by
         show _ ∧ _
         rw [show w.heap.size + 2 = gt + 1 by have := HGR.out; have := HGT.out; omega]
         have hks := K3.set5 (n := gt + 1) wz (b := gr) (by omega) (.slice a8 A c8) (.bool false) (.slice a1 n1 c1) (.slice none 0 0) (.slice none 0 0)
         exact ⟨row_k3 hRT hks, row_k3 hRP hks, nil_row _ _, nil_row _ _⟩
        clear hX6 hX8 hB hRT hRP; go_wp2
        refine bodyPost_ret (v := .tuple #[.agg #[.slice a8 A c8, .bool false, .slice a1 n1 c1, .slice none 0 0, .slice none 0 0], .int .i64 0]) (by obtain ⟨r0, r1, r2, r3, r4, -⟩ := HA5.out; simp [results, Tryz.results53, go_sem, r0, r1, r2, r3, r4]) rfl ⟨by rw [HNO.out]; exact ⟨⟨(tesAt xs p A), false, ps, [], []⟩, a8, c8, a1, c1, none, 0, none, 0, by show _ = _; simp only [tesAt_len, HN1.out, List.length_nil], ⟨by first | exact HTF.out.1 | (rw [tesAt_len]; exact HTF.out.1), by first | exact HTF.out.2.1 | (rw [HN1.out]; exact HTF.out.2.1), HTF.out.2.2.1, HTF.out.2.2.2⟩⟩, HBF.out⟩
       | some r2 =>
        obtain ⟨dx, q2⟩ := r2
        obtain ⟨k1, k2, k3, k4⟩ := rcN_some ho2
        have k6 : rcN (xs.drop q5) (n1 : Int) = (q2 : Int) := by unfold rcN; rw [ho2]
        have k7 : rcE (xs.drop q5) (n1 : Int) = 0 := by unfold rcE; rw [ho2]
        rw [k1] at hri2 hn2; rw [k1, k6, k7, hn2]
        have hRX := hri2.row (S := fun k => gt + 1 ≤ k) (fun b o e => by have := hlo2 b o e; omega) hno2 (by omega)
        rw [hn2] at hRX
        have HO2 : Hid (rcO (xs.drop q5) (n1 : Int) = some (dx, q2)) := ho2
        have HN2 : Hid (dx.length = n2) := hn2
        rw [List.length_drop] at k3
        obtain ⟨q6, hq6⟩ : ∃ n, q5 + q2 = n := ⟨_, rfl⟩
        have HQ6 : Hid (q5 + q2 = q6) := hq6
        have hq6x : q6 ≤ xs.length := by omega
        have hpn6 : (q5 : Int) + (q2 : Int) = (q6 : Int) := by omega
        clear hn2 hri2 hlo2 hno2 ho2 k1 k2 k6 k7 k3 hq6
        have hgtu3 := hX8.lt
        obtain ⟨pb3, hpb3⟩ : ∃ x, (if bc = q6 then ba else ba.map (fun x => x.add q6)) = x := ⟨_, rfl⟩
        have hcx := sReadChangesL_any _ _ (xs.drop q6) (n1 : Int) u5 ((HRB.out.below hB).from q6 (by omega)) ⟨by omega, by omega⟩ (by rw [List.length_drop]; omega)
        rw [hpb3, List.length_drop] at hcx
        go_wp2_with fail
        refine hcx.mono ?_
        rintro e u7 ⟨a3, c3, rfl, hri3, hlo3, hno3, hb5⟩; replace hX8 := hX8.below hb5; replace hX6 := hX6.below hb5
        replace hB := hB.trans (hb5.mono hB.size)
        replace hRT := row_k3 hRT (below_k3 (n := gt + 1) hb5)
        replace hRP := row_k3 hRP (below_k3 (n := gt + 1) hb5)
        replace hRX := row_k3 hRX (below_k3 (n := gt + 1) hb5)
        clear hcx hb5 hpb3
        obtain ⟨n3, hn3⟩ : ∃ n, (rcL (xs.drop q6) (n1 : Int)).length = n := ⟨_, rfl⟩
        have hnl3 : n3 ≤ 9223372036854775807 := by have := hri3.lenB; omega
        clear hpn6
        cases ho3 : rcO (xs.drop q6) (n1 : Int) with
        | none =>
         have HNO : Hid (rdTu xs A cnt p = none) := rdTu_no4 HQ.out hqx HRP.out (by rw [HCN.out, HQ5.out]; exact HO2.out) (by rw [HCN.out, HQ5.out, HQ6.out]; exact ho3)
         have gE : ((rcE (xs.drop q6) (n1 : Int)) != 0) = true := by have := rcE_ok (xs.drop q6) (n1 : Int); rw [ho3] at this; simpa using this
         clear hn3 hri3 hlo3 hno3 ho3 hRX
         generalize u7 = wz at hX8 hX6 hB hRT hRP ⊢
         obtain ⟨d0, d1, d2, d3, d4, -⟩ := hX8.five; obtain ⟨y0, y1, y2, y3, y4, f0, f1, f2, f3, f4⟩ := hX6.five
         have HA5 : Hid (_) := (hX6.set5U (.slice a8 A c8) (.bool false) (.slice a1 n1 c1) (.slice none 0 0) (.slice none 0 0)).five
         have HBF : Hid (Below w.heap.size w (S5 wz gr (.slice a8 A c8) (.bool false) (.slice a1 n1 c1) (.slice none 0 0) (.slice none 0 0))) := below_set5 (b := gr) hB (by have := HGR.out; omega) _ _ _ _ _
         have HTF : Hid (TeE.row.rep (fun k => w.heap.size + 2 ≤ k) (S5 wz gr (.slice a8 A c8) (.bool false) (.slice a1 n1 c1) (.slice none 0 0) (.slice none 0 0)) [.slice a8 A c8] (tesAt xs p A) ∧ El.int.row.rep (fun k => w.heap.size + 2 ≤ k) (S5 wz gr (.slice a8 A c8) (.bool false) (.slice a1 n1 c1) (.slice none 0 0) (.slice none 0 0)) [.slice a1 n1 c1] ps ∧ El.int.row.rep (fun k => w.heap.size + 2 ≤ k) (S5 wz gr (.slice a8 A c8) (.bool false) (.slice a1 n1 c1) (.slice none 0 0) (.slice none 0 0)) [.slice none 0 0] [] ∧ El.int.row.rep (fun k => w.heap.size + 2 ≤ k) (S5 wz gr (.slice a8 A c8) (.bool false) (.slice a1 n1 c1) (.slice none 0 0) (.slice none 0 0)) [.slice none 0 0] []) := by
          show _ ∧ _
          rw [show w.heap.size + 2 = gt + 1 by have := HGR.out; have := HGT.out; omega]
          have hks := K3.set5 (n := gt + 1) wz (b := gr) (by omega) (.slice a8 A c8) (.bool false) (.slice a1 n1 c1) (.slice none 0 0) (.slice none 0 0)
          exact ⟨row_k3 hRT hks, row_k3 hRP hks, nil_row _ _, nil_row _ _⟩
         clear hX6 hX8 hB hRT hRP; go_wp2
         refine bodyPost_ret (v := .tuple #[.agg #[.slice a8 A c8, .bool false, .slice a1 n1 c1, .slice none 0 0, .slice none 0 0], .int .i64 0]) (by obtain ⟨r0, r1, r2, r3, r4, -⟩ := HA5.out; simp [results, Tryz.results53, go_sem, r0, r1, r2, r3, r4]) rfl ⟨by rw [HNO.out]; exact ⟨⟨(tesAt xs p A), false, ps, [], []⟩, a8, c8, a1, c1, none, 0, none, 0, by show _ = _; simp only [tesAt_len, HN1.out, List.length_nil], ⟨by first | exact HTF.out.1 | (rw [tesAt_len]; exact HTF.out.1), by first | exact HTF.out.2.1 | (rw [HN1.out]; exact HTF.out.2.1), HTF.out.2.2.1, HTF.out.2.2.2⟩⟩, HBF.out⟩
        | some r3 =>
         obtain ⟨dy, q3⟩ := r3
         obtain ⟨k1, k2, k3, k5⟩ := rcN_some ho3
         have k6 : rcN (xs.drop q6) (n1 : Int) = (q3 : Int) := by unfold rcN; rw [ho3]
         have k7 : rcE (xs.drop q6) (n1 : Int) = 0 := by unfold rcE; rw [ho3]
         rw [k1] at hri3 hn3; rw [k1, k6, k7, hn3]
         have hRY := hri3.row (S := fun k => gt + 1 ≤ k) (fun b o e => by have := hlo3 b o e; omega) hno3 (by omega)
         rw [hn3] at hRY
         have HYES : Hid (_) := rdTu_yes (cnt := cnt) HQ.out hqx HRP.out (by rw [HCN.out, HQ5.out]; exact HO2.out) (by rw [HCN.out, HQ5.out, HQ6.out]; exact ho3)
         rw [HAL.out, HQ5.out, HQ6.out] at HYES
         have HN3 : Hid (dy.length = n3) := hn3
         rw [List.length_drop] at k3
         have HLE : Hid (q6 + q3 ≤ xs.length) := by show _ ≤ _; omega
         have HLT : Hid (p < q6 + q3) := by show _ < _; have := HQ.out; have := HQ5.out; have := HQ6.out; omega
         obtain ⟨zz, hzz⟩ : ∃ z : Int, (q6 : Int) + (q3 : Int) - (p : Int) = z := ⟨_, rfl⟩
         have HVAL : Hid (((q6 + q3 : Nat) : Int) - (p : Int) = zz) := by show _ = _; omega
         obtain ⟨zs, hzs⟩ : ∃ z : Int, (q6 : Int) + (q3 : Int) = z := ⟨_, rfl⟩
         rw [hzs] at hzz
         have hzb : 0 ≤ zs ∧ zs ≤ 1000000 := by omega
         clear hn3 hri3 hlo3 hno3 ho3 k1 k2 k6 k7 k3; obtain ⟨y0, y1, y2, y3, y4, f0, f1, f2, f3, f4⟩ := hX8.five
         replace hX8 := (hX8.set 3 (.slice a2 n2 c2)).set 4 (.slice a3 n3 c3)
         replace hX6 := (hX6.other 3 (.slice a2 n2 c2) (b := gt) (by omega)).other 4 (.slice a3 n3 c3) (b := gt) (by omega)
         replace hB : Below w.heap.size w ((u7.setCell ⟨gt, 3, none⟩ (.slice a2 n2 c2)).setCell ⟨gt, 4, none⟩ (.slice a3 n3 c3)) := (hB.setCell (p := ⟨gt, 3, none⟩) (by show _ ≤ gt; have := HGR.out; omega) _).setCell (p := ⟨gt, 4, none⟩) (by show _ ≤ gt; have := HGR.out; omega) _
         replace hRT := row_k3 hRT ((K3.set (n := gt + 1) u7 (b := gt) (by omega) 3 (.slice a2 n2 c2)).trans (K3.set _ (b := gt) (by omega) 4 (.slice a3 n3 c3)))
         replace hRP := row_k3 hRP ((K3.set (n := gt + 1) u7 (b := gt) (by omega) 3 (.slice a2 n2 c2)).trans (K3.set _ (b := gt) (by omega) 4 (.slice a3 n3 c3)))
         replace hRX := row_k3 hRX ((K3.set (n := gt + 1) u7 (b := gt) (by omega) 3 (.slice a2 n2 c2)).trans (K3.set _ (b := gt) (by omega) 4 (.slice a3 n3 c3)))
         replace hRY := row_k3 hRY ((K3.set (n := gt + 1) u7 (b := gt) (by omega) 3 (.slice a2 n2 c2)).trans (K3.set _ (b := gt) (by omega) 4 (.slice a3 n3 c3)))
         go_upto_region 32 with fail
         clear y0 y1 y2 y3 y4 f0 f1 f2 f3 f4
         generalize ((u7.setCell ⟨gt, 3, none⟩ (.slice a2 n2 c2)).setCell ⟨gt, 4, none⟩ (.slice a3 n3 c3)) = wz at hX8 hX6 hB hRT hRP hRX hRY ⊢
         obtain ⟨d0, d1, d2, d3, d4, -⟩ := hX8.five; obtain ⟨y0, y1, y2, y3, y4, f0, f1, f2, f3, f4⟩ := hX6.five
         have HA5 : Hid (_) := (hX6.set5U (.slice a8 A c8) (.bool false) (.slice a1 n1 c1) (.slice a2 n2 c2) (.slice a3 n3 c3)).five
         have HBF : Hid (Below w.heap.size w (S5 wz gr (.slice a8 A c8) (.bool false) (.slice a1 n1 c1) (.slice a2 n2 c2) (.slice a3 n3 c3))) := below_set5 (b := gr) hB (by have := HGR.out; omega) _ _ _ _ _
         have HTF : Hid (TeE.row.rep (fun k => w.heap.size + 2 ≤ k) (S5 wz gr (.slice a8 A c8) (.bool false) (.slice a1 n1 c1) (.slice a2 n2 c2) (.slice a3 n3 c3)) [.slice a8 A c8] (tesAt xs p A) ∧ El.int.row.rep (fun k => w.heap.size + 2 ≤ k) (S5 wz gr (.slice a8 A c8) (.bool false) (.slice a1 n1 c1) (.slice a2 n2 c2) (.slice a3 n3 c3)) [.slice a1 n1 c1] ps ∧ El.int.row.rep (fun k => w.heap.size + 2 ≤ k) (S5 wz gr (.slice a8 A c8) (.bool false) (.slice a1 n1 c1) (.slice a2 n2 c2) (.slice a3 n3 c3)) [.slice a2 n2 c2] dx ∧ El.int.row.rep (fun k => w.heap.size + 2 ≤ k) (S5 wz gr (.slice a8 A c8) (.bool false) (.slice a1 n1 c1) (.slice a2 n2 c2) (.slice a3 n3 c3)) [.slice a3 n3 c3] dy) := by
          show _ ∧ _
          rw [show w.heap.size + 2 = gt + 1 by have := HGR.out; have := HGT.out; omega]
          have hks := K3.set5 (n := gt + 1) wz (b := gr) (by omega) (.slice a8 A c8) (.bool false) (.slice a1 n1 c1) (.slice a2 n2 c2) (.slice a3 n3 c3)
          exact ⟨row_k3 hRT hks, row_k3 hRP hks, row_k3 hRX hks, row_k3 hRY hks⟩
         clear hX6 hX8 hB hRT hRP hRX hRY; go_wp2
         refine bodyPost_ret (v := .tuple #[.agg #[.slice a8 A c8, .bool false, .slice a1 n1 c1, .slice a2 n2 c2, .slice a3 n3 c3], .int .i64 zz]) (by obtain ⟨r0, r1, r2, r3, r4, -⟩ := HA5.out; simp [results, Tryz.results53, go_sem, r0, r1, r2, r3, r4]) rfl ⟨by rw [HYES.out]; exact ⟨a8, c8, a1, c1, a2, c2, a3, c3, by show _ = _; simp only [tesAt_len, HN1.out, HN2.out, HN3.out]; rw [HVAL.out], ⟨by first | exact HTF.out.1 | (rw [tesAt_len]; exact HTF.out.1), by first | exact HTF.out.2.1 | (rw [HN1.out]; exact HTF.out.2.1), by first | exact HTF.out.2.2.1 | (rw [HN2.out]; exact HTF.out.2.2.1), by first | exact HTF.out.2.2.2 | (rw [HN3.out]; exact HTF.out.2.2.2)⟩, HLT.out, HLE.out⟩, HBF.out⟩
end Go.Proofs.YtngmcghmniakeaaGreat
