/-
  foundryref14.one: the walk.
  foundryref14.Formed: the walk.
  foundryref09.Part: the walk.
-/
import Derived.Test.YtkmcodofnckdmaaGreatZS45
import Derived.Test.YtkmcodofnckdmaaGreatZS44
import Derived.Test.YtkmcodofnckdmaaGreatZS34
import Derived.Test.YtkmcodofnckdmaaGreatZS35
import Derived.Test.YtkmcodofnckdmaaGreatZS36
import Derived.Test.YtkmcodofnckdmaaGreatZS11
import Derived.Test.YtkmcodofnckdmaaGreatZS15
import Derived.Test.YtkmcodofnckdmaaGreatZS22
import Derived.Test.YtkmcodofnckdmaaGreatZS32
set_option maxHeartbeats 8000000
set_option maxRecDepth 100000
set_option linter.unusedSimpArgs false
set_option linter.unusedVariables false
namespace Go.Proofs.YtkmcodofnckdmaaGreat
open Go.RowKit Go.Maps
theorem tuB_no1 {t : Tu} {n : Nat} {ax : Int} (h : rgB t.rg ax = false) : tuB t n ax = false := by unfold tuB; rw [h]; rfl
theorem tuB_no2 {t : Tu} {n : Nat} {ax : Int} (h : t.dx.length ≠ t.dy.length) : tuB t n ax = false := by
 cases ht : tuB t n ax with
 | false => rfl
 | true =>
  obtain ⟨_, h2, _⟩ := tuB_iff.1 ht
  cases ha : t.al with
  | true => obtain ⟨_, k2, k3⟩ := (nmB_all ha).1 h2; omega
  | false => obtain ⟨_, _, k2, k3⟩ := (nmB_some ha).1 h2; omega
theorem all_getD {l : List Int} {p : Int → Bool} : l.all p = true ↔ ∀ j, j < l.length → p (l.getD j 0) = true := by
 rw [List.all_eq_true]
 constructor
 · intro h j hj
   rw [List.getD_eq_getElem?_getD, List.getElem?_eq_getElem hj]
   exact h _ (List.getElem_mem hj)
 · intro h x hx
   obtain ⟨j, hj, e⟩ := List.getElem_of_mem hx
   have := h j hj
   rw [List.getD_eq_getElem?_getD, List.getElem?_eq_getElem hj, Option.getD_some, e] at this
   exact this
theorem tuB_no3 {t : Tu} {n : Nat} {ax : Int} {k : Nat} (hk : k < t.dx.length) (h : fdB (t.dx.getD k 0) = false) : tuB t n ax = false := by
 cases ht : tuB t n ax with
 | false => rfl
 | true =>
  have := all_getD.1 (tuB_iff.1 ht).2.2.1 k hk
  rw [h] at this
  cases this
theorem tuB_no4 {t : Tu} {n : Nat} {ax : Int} {k : Nat} (hk : k < t.dy.length) (h : fdB (t.dy.getD k 0) = false) : tuB t n ax = false := by
 cases ht : tuB t n ax with
 | false => rfl
 | true =>
  have := all_getD.1 (tuB_iff.1 ht).2.2.2 k hk
  rw [h] at this
  cases this
theorem tuB_of {t : Tu} {n : Nat} {ax : Int} (hr : rgB t.rg ax = true) (hxy : t.dx.length = t.dy.length) (hf : ∀ j, j < t.dx.length → fdB (t.dx.getD j 0) = true ∧ fdB (t.dy.getD j 0) = true) : tuB t n ax = nmB t n := by
 have h1 : t.dx.all fdB = true := all_getD.2 (fun j hj => (hf j hj).1)
 have h2 : t.dy.all fdB = true := all_getD.2 (fun j hj => (hf j (by omega)).2)
 unfold tuB
 rw [hr, h1, h2]
 simp
theorem nmB_al {t : Tu} {n : Nat} (ha : t.al = true) (hxy : t.dx.length = t.dy.length) : nmB t n = (((t.pts.length : Int) == 0) && ((t.dx.length : Int) == (n : Int))) := by
 rw [Bool.eq_iff_iff, nmB_all ha, ← List.length_eq_zero_iff]
 simp
 omega
theorem nmB_na {t : Tu} {n : Nat} (ha : t.al = false) (hxy : t.dx.length = t.dy.length) (hr : risB t.pts n = true) : nmB t n = (decide ((1 : Int) ≤ (t.pts.length : Int)) && ((t.dx.length : Int) == (t.pts.length : Int))) := by
 rw [Bool.eq_iff_iff, nmB_some ha, hr]
 simp
 omega
theorem nmB_nr {t : Tu} {n : Nat} (ha : t.al = false) (hr : risB t.pts n = false) : nmB t n = false := by
 cases ht : nmB t n with
 | false => rfl
 | true => rw [((nmB_some ha).1 ht).2.1] at hr; cases hr
theorem ris_no {pts : List Int} {n k : Nat} (hok : ∀ j, j < k → risP pts n j) (hk : k < pts.length) (h : pts.getD k 0 < 0 ∨ (n : Int) ≤ pts.getD k 0 ∨ (0 < k ∧ pts.getD k 0 ≤ pts.getD (k - 1) 0)) : risB pts n = false := by
 refine risB_no hk (fun hr => ?_)
 have h0 := (risP_nonneg k (fun j hj => by rcases Nat.lt_or_ge j k with h1 | h1; exact hok j h1; rw [show j = k by omega]; exact hr)).1
 unfold risP lastI at hr
 split at hr
 · rcases h with h | h | h <;> omega
 · rcases h with h | h | h <;> omega
theorem ris_yes {pts : List Int} {n k : Nat} (h : 0 ≤ pts.getD k 0 ∧ pts.getD k 0 < (n : Int) ∧ (0 < k → pts.getD (k - 1) 0 < pts.getD k 0)) : risP pts n k := by
 unfold risP lastI
 split
 · omega
 · exact ⟨h.2.2 (by omega), h.2.1⟩
theorem soneU_any (S : Nat → Prop) (ra : Option Addr) (rc : Nat) (pa : Option Addr) (pc : Nat) (xa : Option Addr) (xc : Nat) (ya : Option Addr) (yc : Nat) (t : Tu) (n : Nat) (ax : Int) (w : World) (h : TuC S w ra rc pa pc xa xc ya yc t) (hn : n ≤ 1000000) :
    Calls Tryz.prog 109 #[.agg #[.slice ra t.rg.length rc, .bool t.al, .slice pa t.pts.length pc, .slice xa t.dx.length xc, .slice ya t.dy.length yc], .int .i64 (n : Int), .int .i64 ax] w fun e w' => e = .returned (.bool (tuB t n ax)) ∧ Below w.heap.size w w' := by
 obtain ⟨n1, n2, n3, n4⟩ := h.len
 obtain ⟨W0, hW, X1, hbW⟩ : ∃ W, W = w.alloc (.cells #[.slice ra t.rg.length rc, .bool t.al, .slice pa t.pts.length pc, .slice xa t.dx.length xc, .slice ya t.dy.length yc] 144) ∧ Bk 144 W w.heap.size [.slice ra t.rg.length rc, .bool t.al, .slice pa t.pts.length pc, .slice xa t.dx.length xc, .slice ya t.dy.length yc] ∧ Below w.heap.size w W := ⟨_, rfl, Bk.new _ _ _, bl1 _⟩
 replace h := h.below hbW
 have hreg := sregion_any ra rc t.rg ax W0 h.tz
 obtain ⟨c0, c1, c2, c3, c4, -⟩ := X1.five
 go_enter Tryz.func109, Tryz.ntmps109
 go_upto_region 1 with fail
 rw [← hW]; clear hW
 cases hr : rgB t.rg ax with
 | false =>
  rw [hr] at hreg
  have HE : Hid (tuB t n ax = false) := tuB_no1 hr
  clear hr h
  go_wp2_with fail
  refine hreg.mono ?_
  rintro e u ⟨rfl, hb⟩
  replace hbW := hbW.trans (hb.mono hbW.size)
  clear hreg hb; go_wp2
  go_ret
  exact ⟨rt_bool HE.out.symm, hbW⟩
 | true =>
 rw [hr] at hreg
 have HR : Hid (rgB t.rg ax = true) := hr
 clear hr
 go_wp2_with fail
 refine hreg.mono ?_
 rintro e W ⟨rfl, hb⟩
 replace hbW := hbW.trans (hb.mono hbW.size)
 replace h := h.below hb; replace X1 := X1.below hb; clear hreg hb c0 c1 c2 c3 c4
 have HX1 : Hid (Bk 144 W w.heap.size [.slice ra t.rg.length rc, .bool t.al, .slice pa t.pts.length pc, .slice xa t.dx.length xc, .slice ya t.dy.length yc]) := X1
 have HPT : Hid (Ri W pa pc t.pts) := h.pts
 have HDX : Hid (Ri W xa xc t.dx) := h.dx
 have HDY : Hid (Ri W ya yc t.dy) := h.dy
 have HBW : Hid (Below w.heap.size w W) := hbW
 obtain ⟨c0, c1, c2, c3, c4, -⟩ := X1.five; clear X1 h
 by_cases hxy : t.dx.length = t.dy.length
 rotate_left
 · have g1 : ((t.dx.length : Int) != (t.dy.length : Int)) = true := by simp; omega
   have HE : Hid (tuB t n ax = false) := tuB_no2 hxy
   clear hxy HR; go_wp2
   go_ret
   exact ⟨rt_bool HE.out.symm, hbW⟩
 have g1 : ((t.dx.length : Int) != (t.dy.length : Int)) = false := by simp; omega
 have HXY : Hid (t.dx.length = t.dy.length) := hxy
 clear hxy hbW; go_wp2; clear c0 c1 c2 c3 c4 g1
 go_loopw [7] (fun i wr => ∃ k : Nat, k ≤ t.dx.length ∧ i = .int .i64 k ∧ (∀ j, j < k → fdB (t.dx.getD j 0) = true ∧ fdB (t.dy.getD j 0) = true) ∧ Below W.heap.size W wr) (fun i _ => t.dx.length - (intOf i).toNat)
 case atStart => exact ⟨0, Nat.zero_le _, rfl, (fun j hj => by omega), Below.refl _ _⟩
 case round =>
  obtain ⟨k, hk, rfl, hok, hbW⟩ := hrel
  have HOK : Hid (∀ j, j < k → fdB (t.dx.getD j 0) = true ∧ fdB (t.dy.getD j 0) = true) := hok
  clear hok
  have X1 := HX1.out.below hbW
  obtain ⟨c0, c1, c2, c3, c4, -⟩ := X1.five; clear X1
  by_cases hkn : k < t.dx.length
  · obtain ⟨b1, o1, ea, _, d1⟩ := HDX.out.at hbW k hkn
    obtain ⟨b2, o2, eb, _, d2⟩ := HDY.out.at hbW k (by rw [← HXY.out]; exact hkn)
    have HN3 : Hid (fdB (t.dx.getD k 0) = false → tuB t n ax = false) := fun h => tuB_no3 hkn h
    have HN4 : Hid (fdB (t.dy.getD k 0) = false → tuB t n ax = false) := fun h => tuB_no4 (by rw [← HXY.out]; exact hkn) h
    have HY : Hid (fdB (t.dx.getD k 0) = true → fdB (t.dy.getD k 0) = true → ∀ j, j < k + 1 → fdB (t.dx.getD j 0) = true ∧ fdB (t.dy.getD j 0) = true) := fun h1 h2 j hj => by
     rcases Nat.lt_or_ge j k with h3 | h3
     · exact HOK.out j h3
     · rw [show j = k by omega]; exact ⟨h1, h2⟩
    obtain ⟨x, hx⟩ : ∃ x, t.dx.getD k 0 = x := ⟨_, rfl⟩
    obtain ⟨y, hy⟩ : ∃ y, t.dy.getD k 0 = y := ⟨_, rfl⟩
    rw [hx] at d1 HN3 HY; rw [hy] at d2 HN4 HY; rw [ea] at c3; rw [eb] at c4
    have i1 : (0 : Int) ≤ (k : Int) := by omega
    have i2 : (k : Int) < (t.dx.length : Int) := by omega
    have i3 : (k : Int) < (t.dy.length : Int) := by have := HXY.out; omega
    clear hx hy ea eb HOK
    go_wp2_with fail
    refine (sField_any x wr).mono ?_
    rintro e u1 ⟨rfl, rfl⟩
    cases hfx : fdB x with
    | false =>
     have HE : Hid (tuB t n ax = false) := HN3.out hfx
     clear hfx HN3 HN4 HY; go_wp2
     go_ret
     exact ⟨rt_bool HE.out.symm, HBW.out.trans (hbW.mono HBW.out.size)⟩
    | true =>
     go_wp2_with fail
     refine (sField_any y wr).mono ?_
     rintro e u1 ⟨rfl, rfl⟩
     cases hfy : fdB y with
     | false =>
      have HE : Hid (tuB t n ax = false) := HN4.out hfy
      clear hfx hfy HN3 HN4 HY; go_wp2
      go_ret
      exact ⟨rt_bool HE.out.symm, HBW.out.trans (hbW.mono HBW.out.size)⟩
     | true =>
      have HOK2 : Hid (_) := HY.out hfx hfy
      clear hfx hfy HN3 HN4 HY; go_wp2
      go_roundw
      case rel => exact ⟨k + 1, by omega, by go_num, HOK2.out, hbW⟩
      case measure => simp [intOf]; omega
  · have ek : k = t.dx.length := by omega
    rw [ek] at HOK ⊢
    have g1 : ¬ (t.dx.length : Int) < (t.dx.length : Int) := by omega
    have HOF : Hid (tuB t n ax = nmB t n) := tuB_of HR.out HXY.out HOK.out
    clear ek hk hkn HOK HR
    cases hal : t.al with
    | true =>
     have HE : Hid (tuB t n ax = (((t.pts.length : Int) == 0) && ((t.dx.length : Int) == (n : Int)))) := HOF.out.trans (nmB_al hal HXY.out)
     rw [hal] at c1; clear hal
     by_cases hp0 : t.pts.length = 0
     · have gp : ((t.pts.length : Int) == 0) = true := by rw [hp0]; rfl
       rw [gp, Bool.true_and] at HE; clear hp0; go_wp2
       go_ret
       exact ⟨rt_bool HE.out.symm, HBW.out.trans (hbW.mono HBW.out.size)⟩
     · have gp : ((t.pts.length : Int) == 0) = false := beq_eq_false_iff_ne.2 (by omega)
       rw [gp, Bool.false_and] at HE; clear hp0; go_wp2
       go_ret
       exact ⟨rt_bool HE.out.symm, HBW.out.trans (hbW.mono HBW.out.size)⟩
    | false =>
     have HAL : Hid (t.al = false) := hal
     rw [hal] at c1; clear hal; go_wp2; clear c0 c1 c2 c3 c4 g1
     go_loopw [8] (fun i wr => ∃ k : Nat, k ≤ t.pts.length ∧ i = .int .i64 k ∧ (∀ j, j < k → risP t.pts n j) ∧ Below W.heap.size W wr) (fun i _ => t.pts.length - (intOf i).toNat)
     case atStart => exact ⟨0, Nat.zero_le _, rfl, (fun j hj => by omega), hbW⟩
     case round =>
      clear hbW; obtain ⟨k, hk, rfl, hok, hbW⟩ := hrel
      have HOK : Hid (∀ j, j < k → risP t.pts n j) := hok
      clear hok
      have X1 := HX1.out.below hbW
      obtain ⟨c0, c1, c2, c3, c4, -⟩ := X1.five; clear X1
      by_cases hkn : k < t.pts.length
      rotate_left
      · obtain rfl : k = t.pts.length := by omega
        have g1 : ¬ (t.pts.length : Int) < (t.pts.length : Int) := by omega
        have hrs : risB t.pts n = true := risB_iff.2 HOK.out
        have HE : Hid (tuB t n ax = (decide ((1 : Int) ≤ (t.pts.length : Int)) && ((t.dx.length : Int) == (t.pts.length : Int)))) := HOF.out.trans (nmB_na HAL.out HXY.out hrs)
        clear HOK hrs hkn hk
        by_cases hl1 : 1 ≤ t.pts.length
        · have gl : decide ((1 : Int) ≤ (t.pts.length : Int)) = true := decide_eq_true (by omega)
          rw [gl, Bool.true_and] at HE; go_wp2
          go_ret
          exact ⟨rt_bool HE.out.symm, HBW.out.trans (hbW.mono HBW.out.size)⟩
        · have gl : decide ((1 : Int) ≤ (t.pts.length : Int)) = false := decide_eq_false (by omega)
          have gl2 : ¬ (1 : Int) ≤ (t.pts.length : Int) := by omega
          rw [gl, Bool.false_and] at HE; go_wp2
          go_ret
          exact ⟨rt_bool HE.out.symm, HBW.out.trans (hbW.mono HBW.out.size)⟩
      obtain ⟨b, off, ea, hb, d0⟩ := HPT.out.at hbW k hkn
      have hzi := HPT.out.i64 hkn
      have HNO : Hid ((t.pts.getD k 0 < 0 ∨ (n : Int) ≤ t.pts.getD k 0 ∨ (0 < k ∧ t.pts.getD k 0 ≤ t.pts.getD (k - 1) 0)) → tuB t n ax = false) := fun h => HOF.out.trans (nmB_nr HAL.out (ris_no HOK.out hkn h))
      have HY : Hid ((0 ≤ t.pts.getD k 0 ∧ t.pts.getD k 0 < (n : Int) ∧ (0 < k → t.pts.getD (k - 1) 0 < t.pts.getD k 0)) → ∀ j, j < k + 1 → risP t.pts n j) := fun h j hj => by
       rcases Nat.lt_or_ge j k with h1 | h1
       · exact HOK.out j h1
       · rw [show j = k by omega]; exact ris_yes h
      have HP : Hid (0 < k → ∃ m, k = m + 1 ∧ wr.cell? ⟨b, off + m, none⟩ = some (.int .i64 (t.pts.getD m 0))) := fun h0 => by
       obtain ⟨b', off', ea', _, d1⟩ := HPT.out.at hbW (k - 1) (by omega)
       rw [ea] at ea'
       cases ea'
       exact ⟨k - 1, by omega, d1⟩
      obtain ⟨x, hx⟩ : ∃ x, t.pts.getD k 0 = x := ⟨_, rfl⟩
      rw [hx] at d0 HNO HY hzi; rw [ea] at c2; clear hx ea c0 c1 c3 c4
      obtain ⟨gq, hgq⟩ : ∃ g, w.heap.size = g := ⟨_, rfl⟩
      rw [hgq] at c2 ⊢; clear hgq
      have i1 : (0 : Int) ≤ (k : Int) := by omega
      have i2 : (k : Int) < (t.pts.length : Int) := by omega
      by_cases h1 : x < 0
      · have g1 : decide (x < 0) = true := decide_eq_true h1
        have HE : Hid (tuB t n ax = false) := HNO.out (.inl h1)
        clear h1 HOK HY HP
        go_upto_region 13 with fail
        refine wp_region_held_drew (S := (fun u => u.cell? ⟨gq, 2, none⟩ = some (.slice (some ⟨b, off, none⟩) t.pts.length pc) ∧ u.cell? ⟨b, off + k, none⟩ = some (.int .i64 x))) (by kernel_rfl) ?_ (fun hHeld => ?_)
        · (try dsimp only)
          go_keep
        have hdr : Below wr.heap.size wr wr.drew := Below.drew1
        generalize wr.drew = ud at hdr hHeld ⊢
        replace hbW : Below W.heap.size W ud := hbW.trans (hdr.mono hbW.size)
        clear hdr c2; refine hT 0 hHeld ?_; refine hT 1 hHeld ?_; refine hT 2 hHeld ?_; refine hT 3 hHeld ?_; refine hT 4 hHeld ?_; refine hT 5 hHeld ?_; refine hT 6 hHeld ?_; refine hN 7 hHeld ?_; refine hN 8 hHeld ?_; refine hN 9 hHeld ?_; refine hN 10 hHeld ?_; refine hN 11 hHeld ?_; refine hN 12 hHeld ?_
        refine hN 13 hHeld ?_; refine hT 14 hHeld ?_; refine hT 15 hHeld ?_; refine hN 16 hHeld ?_; refine hN 17 hHeld ?_; refine hN 18 hHeld ?_; refine hN 19 hHeld ?_; refine hN 20 hHeld ?_; refine hN 21 hHeld ?_; refine hN 22 hHeld ?_; refine hN 23 hHeld ?_; refine hN 24 hHeld ?_; refine hN 25 hHeld ?_
        refine hN 26 hHeld ?_; refine hN 27 hHeld ?_; refine hN 28 hHeld ?_; refine hN 29 hHeld ?_; refine hN 30 hHeld ?_; refine hN 31 hHeld ?_; refine hT 32 hHeld ?_
        refine wpAnyH_done (by kernel_rfl) ?_ _
        clear hHeld; go_wp2
        go_ret
        exact ⟨rt_bool HE.out.symm, HBW.out.trans (hbW.mono HBW.out.size)⟩
      have g1 : decide (x < 0) = false := decide_eq_false h1
      by_cases h2 : (n : Int) ≤ x
      · have g2 : decide ((n : Int) ≤ x) = true := decide_eq_true h2
        have HE : Hid (tuB t n ax = false) := HNO.out (.inr (.inl h2))
        clear h1 h2 HOK HY HP
        go_upto_region 13 with fail
        refine wp_region_held_drew (S := (fun u => u.cell? ⟨gq, 2, none⟩ = some (.slice (some ⟨b, off, none⟩) t.pts.length pc) ∧ u.cell? ⟨b, off + k, none⟩ = some (.int .i64 x))) (by kernel_rfl) ?_ (fun hHeld => ?_)
        · (try dsimp only)
          go_keep
        have hdr : Below wr.heap.size wr wr.drew := Below.drew1
        generalize wr.drew = ud at hdr hHeld ⊢
        replace hbW : Below W.heap.size W ud := hbW.trans (hdr.mono hbW.size)
        clear hdr c2; refine hT 0 hHeld ?_; refine hT 1 hHeld ?_; refine hT 2 hHeld ?_; refine hT 3 hHeld ?_; refine hT 4 hHeld ?_; refine hT 5 hHeld ?_; refine hT 6 hHeld ?_; refine hT 7 hHeld ?_; refine hT 8 hHeld ?_; refine hT 9 hHeld ?_; refine hT 10 hHeld ?_; refine hT 11 hHeld ?_; refine hT 12 hHeld ?_
        refine hT 13 hHeld ?_; refine hT 14 hHeld ?_; refine hT 15 hHeld ?_; refine hN 16 hHeld ?_; refine hN 17 hHeld ?_; refine hN 18 hHeld ?_; refine hN 19 hHeld ?_; refine hN 20 hHeld ?_; refine hN 21 hHeld ?_; refine hN 22 hHeld ?_; refine hN 23 hHeld ?_; refine hN 24 hHeld ?_; refine hN 25 hHeld ?_
        refine hN 26 hHeld ?_; refine hN 27 hHeld ?_; refine hN 28 hHeld ?_; refine hN 29 hHeld ?_; refine hN 30 hHeld ?_; refine hN 31 hHeld ?_; refine hT 32 hHeld ?_
        refine wpAnyH_done (by kernel_rfl) ?_ _
        clear hHeld; go_wp2
        go_ret
        exact ⟨rt_bool HE.out.symm, HBW.out.trans (hbW.mono HBW.out.size)⟩
      have g2 : decide ((n : Int) ≤ x) = false := decide_eq_false h2
      by_cases h3 : k = 0
      · have g3 : decide (0 < k) = false := decide_eq_false (by omega)
        have HOK2 : Hid (∀ j, j < k + 1 → risP t.pts n j) := HY.out ⟨by omega, by omega, fun h => by omega⟩
        clear h1 h2 h3 HOK HNO HP
        go_upto_region 13 with fail
        refine wp_region_held_drew (S := (fun u => u.cell? ⟨gq, 2, none⟩ = some (.slice (some ⟨b, off, none⟩) t.pts.length pc) ∧ u.cell? ⟨b, off + k, none⟩ = some (.int .i64 x))) (by kernel_rfl) ?_ (fun hHeld => ?_)
        · (try dsimp only)
          go_keep
        have hdr : Below wr.heap.size wr wr.drew := Below.drew1
        generalize wr.drew = ud at hdr hHeld ⊢
        replace hbW : Below W.heap.size W ud := hbW.trans (hdr.mono hbW.size)
        clear hdr c2; refine hT 0 hHeld ?_; refine hT 1 hHeld ?_; refine hT 2 hHeld ?_; refine hT 3 hHeld ?_; refine hT 4 hHeld ?_; refine hT 5 hHeld ?_; refine hT 6 hHeld ?_; refine hT 7 hHeld ?_; refine hT 8 hHeld ?_; refine hT 9 hHeld ?_; refine hT 10 hHeld ?_; refine hT 11 hHeld ?_; refine hT 12 hHeld ?_
        refine hT 13 hHeld ?_; refine hT 14 hHeld ?_; refine hT 15 hHeld ?_; refine hT 16 hHeld ?_; refine hT 17 hHeld ?_; refine hT 18 hHeld ?_; refine hN 19 hHeld ?_; refine hN 20 hHeld ?_; refine hN 21 hHeld ?_; refine hN 22 hHeld ?_; refine hN 23 hHeld ?_; refine hN 24 hHeld ?_; refine hN 25 hHeld ?_
        refine hN 26 hHeld ?_; refine hN 27 hHeld ?_; refine hN 28 hHeld ?_; refine hN 29 hHeld ?_; refine hN 30 hHeld ?_; refine hT 31 hHeld ?_; refine hT 32 hHeld ?_
        refine wpAnyH_done (by kernel_rfl) ?_ _
        clear hHeld; go_wp2
        go_roundw
        case rel => exact ⟨k + 1, by omega, by go_num, HOK2.out, hbW⟩
        case measure => simp [intOf]; omega
      obtain ⟨m, hm, q1⟩ := HP.out (by omega)
      have hmk : (k : Int) - 1 = (m : Int) := by omega
      have hwm : IntKind.i64.wrap (m : Int) = (m : Int) := wrapi64 (by omega) (by omega)
      have i3 : (0 : Int) ≤ (m : Int) := by omega
      have i4 : (m : Int) < (t.pts.length : Int) := by omega
      have g3 : decide (0 < k) = true := decide_eq_true (by omega)
      have hk1 : k - 1 = m := by omega
      rw [hk1] at HNO HY
      obtain ⟨y, hy⟩ : ∃ y, t.pts.getD m 0 = y := ⟨_, rfl⟩
      rw [hy] at q1 HNO HY; clear hy hk1 HP
      by_cases h4 : x ≤ y
      · have g4 : decide (x ≤ y) = true := decide_eq_true h4
        have HE : Hid (tuB t n ax = false) := HNO.out (.inr (.inr ⟨by omega, h4⟩))
        clear h1 h2 h3 h4 HOK HY hm
        go_upto_region 13 with fail
        refine wp_region_held_drew (S := (fun u => u.cell? ⟨gq, 2, none⟩ = some (.slice (some ⟨b, off, none⟩) t.pts.length pc) ∧ u.cell? ⟨b, off + k, none⟩ = some (.int .i64 x) ∧ u.cell? ⟨b, off + m, none⟩ = some (.int .i64 y))) (by kernel_rfl) ?_ (fun hHeld => ?_)
        · (try dsimp only)
          go_keep
        have hdr : Below wr.heap.size wr wr.drew := Below.drew1
        generalize wr.drew = ud at hdr hHeld ⊢
        replace hbW : Below W.heap.size W ud := hbW.trans (hdr.mono hbW.size)
        clear hdr c2; refine hT 0 hHeld ?_; refine hT 1 hHeld ?_; refine hT 2 hHeld ?_; refine hT 3 hHeld ?_; refine hT 4 hHeld ?_; refine hT 5 hHeld ?_; refine hT 6 hHeld ?_; refine hT 7 hHeld ?_; refine hT 8 hHeld ?_; refine hT 9 hHeld ?_; refine hT 10 hHeld ?_; refine hT 11 hHeld ?_; refine hT 12 hHeld ?_
        refine hT 13 hHeld ?_; refine hT 14 hHeld ?_; refine hT 15 hHeld ?_; refine hT 16 hHeld ?_; refine hT 17 hHeld ?_; refine hT 18 hHeld ?_; refine hT 19 hHeld ?_; refine hT 20 hHeld ?_; refine hT 21 hHeld ?_; refine hT 22 hHeld ?_; refine hT 23 hHeld ?_; refine hT 24 hHeld ?_; refine hT 25 hHeld ?_
        refine hT 26 hHeld ?_; refine hT 27 hHeld ?_; refine hT 28 hHeld ?_; refine hT 29 hHeld ?_; refine hT 30 hHeld ?_; refine hT 31 hHeld ?_; refine hT 32 hHeld ?_
        refine wpAnyH_done (by kernel_rfl) ?_ _
        clear hHeld; go_wp2
        go_ret
        exact ⟨rt_bool HE.out.symm, HBW.out.trans (hbW.mono HBW.out.size)⟩
      · have g4 : decide (x ≤ y) = false := decide_eq_false h4
        have HOK2 : Hid (∀ j, j < k + 1 → risP t.pts n j) := HY.out ⟨by omega, by omega, fun _ => by omega⟩
        clear h1 h2 h3 h4 HOK HNO hm
        go_upto_region 13 with fail
        refine wp_region_held_drew (S := (fun u => u.cell? ⟨gq, 2, none⟩ = some (.slice (some ⟨b, off, none⟩) t.pts.length pc) ∧ u.cell? ⟨b, off + k, none⟩ = some (.int .i64 x) ∧ u.cell? ⟨b, off + m, none⟩ = some (.int .i64 y))) (by kernel_rfl) ?_ (fun hHeld => ?_)
        · (try dsimp only)
          go_keep
        have hdr : Below wr.heap.size wr wr.drew := Below.drew1
        generalize wr.drew = ud at hdr hHeld ⊢
        replace hbW : Below W.heap.size W ud := hbW.trans (hdr.mono hbW.size)
        clear hdr c2; refine hT 0 hHeld ?_; refine hT 1 hHeld ?_; refine hT 2 hHeld ?_; refine hT 3 hHeld ?_; refine hT 4 hHeld ?_; refine hT 5 hHeld ?_; refine hT 6 hHeld ?_; refine hT 7 hHeld ?_; refine hT 8 hHeld ?_; refine hT 9 hHeld ?_; refine hT 10 hHeld ?_; refine hT 11 hHeld ?_; refine hT 12 hHeld ?_
        refine hT 13 hHeld ?_; refine hT 14 hHeld ?_; refine hT 15 hHeld ?_; refine hT 16 hHeld ?_; refine hT 17 hHeld ?_; refine hT 18 hHeld ?_; refine hT 19 hHeld ?_; refine hT 20 hHeld ?_; refine hT 21 hHeld ?_; refine hT 22 hHeld ?_; refine hT 23 hHeld ?_; refine hT 24 hHeld ?_; refine hT 25 hHeld ?_
        refine hT 26 hHeld ?_; refine hT 27 hHeld ?_; refine hT 28 hHeld ?_; refine hT 29 hHeld ?_; refine hT 30 hHeld ?_; refine hT 31 hHeld ?_; refine hT 32 hHeld ?_
        refine wpAnyH_done (by kernel_rfl) ?_ _
        clear hHeld; go_wp2
        go_roundw
        case rel => exact ⟨k + 1, by omega, by go_num, HOK2.out, hbW⟩
        case measure => simp [intOf]; omega
theorem foT_no1 {o : Ol} {l : List Tu} {ax : Int} (h : foB o = false) : foT o l ax = false := by unfold foT; rw [h]; rfl
theorem foT_no2 {o : Ol} {l : List Tu} {ax : Int} (h : ¬ (0 ≤ ax ∧ ax ≤ 4)) : foT o l ax = false := by unfold foT; rw [decide_eq_false h]; simp
theorem foT_no3 {o : Ol} {l : List Tu} {ax : Int} (h : ¬ l.length ≤ 40) : foT o l ax = false := by unfold foT; rw [decide_eq_false h]; simp
theorem foT_no4 {o : Ol} {l : List Tu} {ax : Int} {k : Nat} (hk : k < l.length) (h : tuB (l.getD k Tu.none) (cntO o) ax = false) : foT o l ax = false := by
 cases hf : foT o l ax with
 | false => rfl
 | true =>
  have := (foT_iff.1 hf).2.2.2 k hk
  rw [h] at this
  cases this
theorem sformU_any (S : Nat → Prop) (a : Option Addr) (ca : Nat) (b : Option Addr) (cb : Nat) (o : Ol) (S2 : Nat → Prop) (la : Option Addr) (lc : Nat) (l : List Tu) (ax : Int) (w : World) (hc : Gr PnE.row S w a ca o.cs) (hp : Gr PaE S w b cb o.ps) (hl : Gr TuE S2 w la lc l) (hfl : o.cs.flatten.length ≤ 100000) (hpl : o.ps.length ≤ 100000) (hi : I64 ax) :
    Calls Tryz.prog 61 #[.agg #[.slice a o.cs.length ca, .slice b o.ps.length cb], .slice la l.length lc, .int .i64 ax] w fun e w' => e = .returned (.bool (foT o l ax)) ∧ Below w.heap.size w w' := by
 have kl := hl.lenB
 have kc := hc.lenB
 obtain ⟨W, hW, X1, hbW⟩ : ∃ W, W = w.alloc (.cells #[.slice a o.cs.length ca, .slice b o.ps.length cb] 57) ∧ Bk 57 W w.heap.size [.slice a o.cs.length ca, .slice b o.ps.length cb] ∧ Below w.heap.size w W := ⟨_, rfl, Bk.new _ _ _, bl1 _⟩
 replace hc := hc.below hbW; replace hp := hp.below hbW; replace hl := hl.below hbW; obtain ⟨p0, p1, _⟩ := X1.two
 have hfo := sformO_any S a ca b cb o W hc hp hfl
 go_enter Tryz.func61, Tryz.ntmps61
 go_upto_region 1 with fail
 rw [← hW]; clear hW
 cases hf : foB o with
 | false =>
  rw [hf] at hfo
  have HE : Hid (foT o l ax = false) := foT_no1 hf
  clear hf
  go_wp2_with fail
  refine hfo.mono ?_
  rintro e m1 ⟨rfl, hb1⟩
  replace hbW := hbW.trans (hb1.mono hbW.size)
  clear hb1 hfo; go_wp2
  go_ret
  exact ⟨rt_bool HE.out.symm, hbW⟩
 | true =>
 rw [hf] at hfo
 have HF : Hid (foB o = true) := hf
 clear hf
 go_wp2_with fail
 refine hfo.mono ?_
 rintro e m1 ⟨rfl, hb1⟩
 replace hbW := hbW.trans (hb1.mono hbW.size)
 replace hc := hc.below hb1; replace hp := hp.below hb1; replace hl := hl.below hb1; replace X1 := X1.below hb1; clear hb1 hfo p0 p1
 by_cases h0 : ax < 0
 · have HE : Hid (foT o l ax = false) := foT_no2 (by omega)
   go_wp2
   go_ret
   exact ⟨rt_bool HE.out.symm, hbW⟩
 by_cases h4 : 4 < ax
 · have HE : Hid (foT o l ax = false) := foT_no2 (by omega)
   go_wp2
   go_ret
   exact ⟨rt_bool HE.out.symm, hbW⟩
 by_cases h40 : (40 : Int) < (l.length : Int)
 · have HE : Hid (foT o l ax = false) := foT_no3 (by omega)
   go_wp2
   go_ret
   exact ⟨rt_bool HE.out.symm, hbW⟩
 have HX1 : Hid (Bk 57 m1 w.heap.size [.slice a o.cs.length ca, .slice b o.ps.length cb]) := X1
 have HC : Hid (Gr PnE.row S m1 a ca o.cs) := hc
 have HP : Hid (Gr PaE S m1 b cb o.ps) := hp
 have HL : Hid (Gr TuE S2 m1 la lc l) := hl
 have HBW : Hid (Below w.heap.size w m1) := hbW
 clear hc hp hl X1; go_wp2
 go_loopw [7] (fun i wr => ∃ k : Nat, k ≤ l.length ∧ i = .int .i64 k ∧ (∀ j, j < k → tuB (l.getD j Tu.none) (cntO o) ax = true) ∧ Below m1.heap.size m1 wr) (fun i _ => l.length - (intOf i).toNat)
 case atStart => exact ⟨0, Nat.zero_le _, rfl, (fun j hj => by omega), Below.refl _ _⟩
 case round =>
  obtain ⟨k, hk, rfl, hok, hB⟩ := hrel
  have HOK : Hid (∀ j, j < k → tuB (l.getD j Tu.none) (cntO o) ax = true) := hok
  clear hok hbW
  by_cases hkn : k < l.length
  · obtain ⟨b1, o1, ra, rc, pa, pc, xa, xc, ya, yc, ea, hl1, ht1, c0, c1, c2, c3, c4⟩ := HL.out.tu (Below.refl _ _) k hkn
    have HN4 : Hid (tuB (l.getD k Tu.none) (cntO o) ax = false → foT o l ax = false) := fun h => foT_no4 hkn h
    have HY : Hid (tuB (l.getD k Tu.none) (cntO o) ax = true → ∀ j, j < k + 1 → tuB (l.getD j Tu.none) (cntO o) ax = true) := fun h j hj => by
     rcases Nat.lt_or_ge j k with h1 | h1
     · exact HOK.out j h1
     · rw [show j = k by omega]; exact h
    obtain ⟨t, htt⟩ : ∃ t, l.getD k Tu.none = t := ⟨_, rfl⟩
    rw [htt] at ht1 c0 c1 c2 c3 c4 HN4 HY; clear htt
    have HSE : Hid (∀ u, Below m1.heap.size m1 u → u.cell? ⟨b1, o1 + k * 5, none⟩ = some (.slice ra t.rg.length rc) ∧ u.cell? ⟨b1, o1 + k * 5 + 1, none⟩ = some (.bool t.al) ∧ u.cell? ⟨b1, o1 + k * 5 + 2, none⟩ = some (.slice pa t.pts.length pc) ∧ u.cell? ⟨b1, o1 + k * 5 + 3, none⟩ = some (.slice xa t.dx.length xc) ∧ u.cell? ⟨b1, o1 + k * 5 + 4, none⟩ = some (.slice ya t.dy.length yc) ∧ u.cell? ⟨w.heap.size, 0, none⟩ = some (.slice a o.cs.length ca) ∧ u.cell? ⟨w.heap.size, 1, none⟩ = some (.slice b o.ps.length cb)) := fun u hU => ⟨(hU.cell (p := ⟨b1, o1 + k * 5, none⟩) hl1).trans c0, (hU.cell (p := ⟨b1, o1 + k * 5 + 1, none⟩) hl1).trans c1, (hU.cell (p := ⟨b1, o1 + k * 5 + 2, none⟩) hl1).trans c2, (hU.cell (p := ⟨b1, o1 + k * 5 + 3, none⟩) hl1).trans c3, (hU.cell (p := ⟨b1, o1 + k * 5 + 4, none⟩) hl1).trans c4, (HX1.out.below hU).two.1, (HX1.out.below hU).two.2.1⟩
    have hcc := fun U (hU : Below m1.heap.size m1 U) => scount13_any S a ca b cb o U (HC.out.below hU) hfl hpl
    have hcl := cnt_le HF.out
    obtain ⟨N, hN⟩ : ∃ N, cntO o = N := ⟨_, rfl⟩
    rw [hN] at hcc hcl HN4 HY
    have HRL : Hid (cntO o = N) := hN
    have hon := fun U (hU : Below m1.heap.size m1 U) => soneU_any S2 ra rc pa pc xa xc ya yc t N ax U (ht1.below hU) (by omega)
    obtain ⟨bt, hbt⟩ : ∃ x, tuB t N ax = x := ⟨_, rfl⟩
    rw [hbt] at hon HN4 HY; clear hbt hN ht1 c0 c1 c2 c3 c4 HOK
    obtain ⟨gw, hgw⟩ : ∃ g, w.heap.size = g := ⟨_, rfl⟩
    rw [hgw] at HSE ⊢; clear hgw
    have i1 : (0 : Int) ≤ (k : Int) := by omega
    have i2 : (k : Int) < (l.length : Int) := by omega
    subst ea
    go_upto_region 6 with fail
    refine wp_region_held_drew (S := (fun u => u.cell? ⟨b1, o1 + k * 5, none⟩ = some (.slice ra t.rg.length rc) ∧ u.cell? ⟨b1, o1 + k * 5 + 1, none⟩ = some (.bool t.al) ∧ u.cell? ⟨b1, o1 + k * 5 + 2, none⟩ = some (.slice pa t.pts.length pc) ∧ u.cell? ⟨b1, o1 + k * 5 + 3, none⟩ = some (.slice xa t.dx.length xc) ∧ u.cell? ⟨b1, o1 + k * 5 + 4, none⟩ = some (.slice ya t.dy.length yc) ∧ u.cell? ⟨gw, 0, none⟩ = some (.slice a o.cs.length ca) ∧ u.cell? ⟨gw, 1, none⟩ = some (.slice b o.ps.length cb))) (by kernel_rfl) ?_ (fun hHeld => ?_)
    · (try dsimp only)
      exact HSE.out _ (hB.trans (Below.drew1.mono hB.size))
    have hdr : Below wr.heap.size wr wr.drew := Below.drew1
    generalize wr.drew = ud at hdr hHeld ⊢
    replace hB := hB.trans (hdr.mono hB.size)
    clear hdr; refine hT 0 hHeld ?_; refine hT 1 hHeld ?_; refine hT 2 hHeld ?_; refine hT 3 hHeld ?_; refine hT 4 hHeld ?_; refine hT 6 hHeld ?_
    refine hCall (i := 5) rfl (by kernel_rfl) (by rfl) (fun K hK => ?_)
    go_simp
    refine (hcc _ hB).mono ?_
    rintro e u1 ⟨rfl, hb1⟩
    replace hB := hB.trans (hb1.mono hB.size)
    clear hcc hb1
    go_wp2_with fail
    refine hK.out _ _ ?_ (fun hHeld => ?_)
    · (try dsimp only)
      exact HSE.out _ hB
    clear hK K
    try simp only [Act.put, pZ]
    refine hCall (i := 7) rfl (by kernel_rfl) (by rfl) (fun K hK => ?_)
    go_simp
    refine (hon _ hB).mono ?_
    rintro e u2 ⟨rfl, hb1⟩
    replace hB := hB.trans (hb1.mono hB.size)
    clear hon hb1
    go_wp2_with fail
    refine hK.out _ _ ?_ (fun hHeld => ?_)
    · (try dsimp only)
      exact HSE.out _ hB
    clear hK K
    try simp only [Act.put, pZ]
    refine hT 8 hHeld ?_
    refine wpAnyH_done (by kernel_rfl) ?_ _
    clear hHeld HSE
    cases bt with
    | false =>
     have HE : Hid (foT o l ax = false) := HN4.out rfl
     have hbW := HBW.out.trans (hB.mono HBW.out.size)
     clear HN4 HY; go_wp2
     go_ret
     exact ⟨rt_bool HE.out.symm, hbW⟩
    | true =>
     have HOK2 : Hid (∀ j, j < k + 1 → tuB (l.getD j Tu.none) (cntO o) ax = true) := by
      rw [HRL.out]
      exact HY.out rfl
     clear HN4 HY; go_wp2
     go_roundw
     case rel => exact ⟨k + 1, by omega, by go_num, HOK2.out, hB⟩
     case measure => simp [intOf]; omega
  · have ek : k = l.length := by omega
    rw [ek] at HOK ⊢
    have g1 : ¬ (l.length : Int) < (l.length : Int) := by omega
    have HE : Hid (foT o l ax = true) := foT_iff.2 ⟨HF.out, ⟨by omega, by omega⟩, by omega, HOK.out⟩
    have hbW := HBW.out.trans (hB.mono HBW.out.size)
    clear ek hk hkn HOK; go_wp2
    go_ret
    exact ⟨rt_bool HE.out.symm, hbW⟩
theorem spart_any (t : Te) (c : Int) (w : World) (hc : I64 c) :
    Calls Tryz.prog 183 #[.agg #[.int .i64 t.st, .int .i64 t.pk, .int .i64 t.en], .int .i64 c] w fun e w' => ∃ v', e = .returned v' ∧ Fr w' v' 2 (paQ t c) ∧ Below w.heap.size w w' := by
 have hfo := fun U => sformT_any t U
 obtain ⟨W, hW, X1, B1, hbW⟩ := boxes2 146 130 w (.int .i64 t.st) (.int .i64 t.pk) (.int .i64 t.en) (.bool false) (.slice none 0 0) (.slice none 0 0)
 cases hf : tfB t with
 | false =>
  have HP : Hid ((0 : Rat) = paQ t c) := (paQ_no (fun h => by rw [hf] at h; cases h.1)).symm
  simp only [hf] at hfo
  clear hf; obtain ⟨st, pk, en⟩ := t
  dsimp only at *
  go_enter Tryz.func183, Tryz.ntmps183
  go_wp2_with fail
  rw [← hW]; clear hW
  refine (hfo _).mono ?_
  rintro e u1 ⟨rfl, hb1⟩; replace X1 := X1.below hb1; replace B1 := B1.below hb1
  replace hbW := hbW.trans (hb1.mono hbW.size)
  clear hb1 hfo; obtain ⟨p0, p1, p2, _⟩ := X1.cells
  go_wp2_with fail
  refine (szero_any _).mono ?_
  rintro e u3 ⟨v3, rfl, hF3, hb3⟩; replace B1 := B1.below hb3
  replace hbW := hbW.trans (hb3.mono hbW.size)
  rw [HP.out] at hF3; clear hb3 X1; obtain ⟨n3, xs, ys, ⟨a3, c3, b3, d3, rfl, hx3, hy3⟩, f1, f2, f3, f4⟩ := hF3; obtain ⟨q1, q2, q3, q4, q5, q6⟩ := B1.cells
  have hs := B1.lt
  go_wp2
  refine ret3 (v := .agg #[.bool n3, .slice a3 xs.length c3, .slice b3 ys.length d3]) B1 rfl (fun U hU => by obtain ⟨r1, r2, r3, _⟩ := hU.cells; simp [results, Tryz.results183, go_sem, r1, r2, r3]) (fun U hU hK => ⟨_, rfl, ⟨_, _, _, ⟨_, _, _, _, rfl, hK _ _ _ hx3, hK _ _ _ hy3⟩, f1, f2, f3, f4⟩, hU _ _ hbW (by omega)⟩)
 | true =>
  have hbd := tfB_iff.1 hf
  unfold TfT at hbd
  simp only [hf] at hfo
  cases hcc : crd c with
  | false =>
   have HP : Hid ((0 : Rat) = paQ t c) := (paQ_no (fun h => by rw [hcc] at h; cases h.2)).symm
   clear hf hbd; obtain ⟨st, pk, en⟩ := t
   dsimp only at *
   go_enter Tryz.func183, Tryz.ntmps183
   go_wp2_with fail
   rw [← hW]; clear hW
   refine (hfo _).mono ?_
   rintro e u1 ⟨rfl, hb1⟩; replace X1 := X1.below hb1; replace B1 := B1.below hb1
   replace hbW := hbW.trans (hb1.mono hbW.size)
   clear hb1 hfo; obtain ⟨p0, p1, p2, _⟩ := X1.cells
   go_wp2_with fail
   refine (scoord_any c _).mono ?_
   rintro e u2 ⟨rfl, rfl⟩; rw [hcc]; clear hcc
   go_wp2_with fail
   refine (szero_any _).mono ?_
   rintro e u3 ⟨v3, rfl, hF3, hb3⟩; replace B1 := B1.below hb3
   replace hbW := hbW.trans (hb3.mono hbW.size)
   rw [HP.out] at hF3; clear hb3 X1; obtain ⟨n3, xs, ys, ⟨a3, c3, b3, d3, rfl, hx3, hy3⟩, f1, f2, f3, f4⟩ := hF3; obtain ⟨q1, q2, q3, q4, q5, q6⟩ := B1.cells
   have hs := B1.lt
   go_wp2
   refine ret3 (v := .agg #[.bool n3, .slice a3 xs.length c3, .slice b3 ys.length d3]) B1 rfl (fun U hU => by obtain ⟨r1, r2, r3, _⟩ := hU.cells; simp [results, Tryz.results183, go_sem, r1, r2, r3]) (fun U hU hK => ⟨_, rfl, ⟨_, _, _, ⟨_, _, _, _, rfl, hK _ _ _ hx3, hK _ _ _ hy3⟩, f1, f2, f3, f4⟩, hU _ _ hbW (by omega)⟩)
  | true =>
   have hcd := crdT.1 hcc
   by_cases h1 : t.pk = 0
   · have HP : Hid (((1 : Int) : Rat) = paQ t c) := paQ_one hf hcc (.inl h1)
     have g1 : (t.pk == 0) = true := by simp [h1]
     clear hf hbd hcd h1; obtain ⟨st, pk, en⟩ := t
     dsimp only at *
     go_enter Tryz.func183, Tryz.ntmps183
     go_wp2_with fail
     rw [← hW]; clear hW
     refine (hfo _).mono ?_
     rintro e u1 ⟨rfl, hb1⟩; replace X1 := X1.below hb1; replace B1 := B1.below hb1
     replace hbW := hbW.trans (hb1.mono hbW.size)
     clear hb1 hfo; obtain ⟨p0, p1, p2, _⟩ := X1.cells
     go_wp2_with fail
     refine (scoord_any c _).mono ?_
     rintro e u2 ⟨rfl, rfl⟩; rw [hcc]; clear hcc
     go_wp2_with fail
     refine (swhole_any 1 _ (by decide) (by decide)).mono ?_
     rintro e u3 ⟨v3, rfl, hF3, hb3⟩; replace B1 := B1.below hb3
     replace hbW := hbW.trans (hb3.mono hbW.size)
     rw [HP.out] at hF3; clear hb3 X1; obtain ⟨n3, xs, ys, ⟨a3, c3, b3, d3, rfl, hx3, hy3⟩, f1, f2, f3, f4⟩ := hF3; obtain ⟨q1, q2, q3, q4, q5, q6⟩ := B1.cells
     have hs := B1.lt
     go_wp2
     refine ret3 (v := .agg #[.bool n3, .slice a3 xs.length c3, .slice b3 ys.length d3]) B1 rfl (fun U hU => by obtain ⟨r1, r2, r3, _⟩ := hU.cells; simp [results, Tryz.results183, go_sem, r1, r2, r3]) (fun U hU hK => ⟨_, rfl, ⟨_, _, _, ⟨_, _, _, _, rfl, hK _ _ _ hx3, hK _ _ _ hy3⟩, f1, f2, f3, f4⟩, hU _ _ hbW (by omega)⟩)
   · by_cases h2 : c = t.pk
     · have HP : Hid (((1 : Int) : Rat) = paQ t c) := paQ_one hf hcc (.inr h2)
       have g1 : (t.pk == 0) = false := by simp [h1]
       have g2 : (c == t.pk) = true := by simp [h2]
       clear h1 h2 hf hbd hcd; obtain ⟨st, pk, en⟩ := t
       dsimp only at *
       go_enter Tryz.func183, Tryz.ntmps183
       go_wp2_with fail
       rw [← hW]; clear hW
       refine (hfo _).mono ?_
       rintro e u1 ⟨rfl, hb1⟩; replace X1 := X1.below hb1; replace B1 := B1.below hb1
       replace hbW := hbW.trans (hb1.mono hbW.size)
       clear hb1 hfo; obtain ⟨p0, p1, p2, _⟩ := X1.cells
       go_wp2_with fail
       refine (scoord_any c _).mono ?_
       rintro e u2 ⟨rfl, rfl⟩; rw [hcc]; clear hcc
       go_wp2_with fail
       refine (swhole_any 1 _ (by decide) (by decide)).mono ?_
       rintro e u3 ⟨v3, rfl, hF3, hb3⟩; replace B1 := B1.below hb3
       replace hbW := hbW.trans (hb3.mono hbW.size)
       rw [HP.out] at hF3; clear hb3 X1; obtain ⟨n3, xs, ys, ⟨a3, c3, b3, d3, rfl, hx3, hy3⟩, f1, f2, f3, f4⟩ := hF3; obtain ⟨q1, q2, q3, q4, q5, q6⟩ := B1.cells
       have hs := B1.lt
       go_wp2
       refine ret3 (v := .agg #[.bool n3, .slice a3 xs.length c3, .slice b3 ys.length d3]) B1 rfl (fun U hU => by obtain ⟨r1, r2, r3, _⟩ := hU.cells; simp [results, Tryz.results183, go_sem, r1, r2, r3]) (fun U hU hK => ⟨_, rfl, ⟨_, _, _, ⟨_, _, _, _, rfl, hK _ _ _ hx3, hK _ _ _ hy3⟩, f1, f2, f3, f4⟩, hU _ _ hbW (by omega)⟩)
     · have h12 : ¬ (t.pk = 0 ∨ c = t.pk) := by omega
       by_cases h3 : c ≤ t.st
       · have HP : Hid ((0 : Rat) = paQ t c) := paQ_off hf hcc h12 (.inl h3)
         have g1 : (t.pk == 0) = false := by simp [h1]
         have g2 : (c == t.pk) = false := by simp [h2]
         have g3 : decide (c ≤ t.st) = true := decide_eq_true h3
         clear h1 h2 hf hbd hcd h12; obtain ⟨st, pk, en⟩ := t
         dsimp only at *
         go_enter Tryz.func183, Tryz.ntmps183
         go_wp2_with fail
         rw [← hW]; clear hW
         refine (hfo _).mono ?_
         rintro e u1 ⟨rfl, hb1⟩; replace X1 := X1.below hb1; replace B1 := B1.below hb1
         replace hbW := hbW.trans (hb1.mono hbW.size)
         clear hb1 hfo; obtain ⟨p0, p1, p2, _⟩ := X1.cells
         go_wp2_with fail
         refine (scoord_any c _).mono ?_
         rintro e u2 ⟨rfl, rfl⟩; rw [hcc]; clear hcc
         go_wp2_with fail
         refine (szero_any _).mono ?_
         rintro e u3 ⟨v3, rfl, hF3, hb3⟩; replace B1 := B1.below hb3
         replace hbW := hbW.trans (hb3.mono hbW.size)
         rw [HP.out] at hF3; clear hb3 X1; obtain ⟨n3, xs, ys, ⟨a3, c3, b3, d3, rfl, hx3, hy3⟩, f1, f2, f3, f4⟩ := hF3; obtain ⟨q1, q2, q3, q4, q5, q6⟩ := B1.cells
         have hs := B1.lt
         go_wp2
         refine ret3 (v := .agg #[.bool n3, .slice a3 xs.length c3, .slice b3 ys.length d3]) B1 rfl (fun U hU => by obtain ⟨r1, r2, r3, _⟩ := hU.cells; simp [results, Tryz.results183, go_sem, r1, r2, r3]) (fun U hU hK => ⟨_, rfl, ⟨_, _, _, ⟨_, _, _, _, rfl, hK _ _ _ hx3, hK _ _ _ hy3⟩, f1, f2, f3, f4⟩, hU _ _ hbW (by omega)⟩)
       · by_cases h4 : t.en ≤ c
         · have HP : Hid ((0 : Rat) = paQ t c) := paQ_off hf hcc h12 (.inr h4)
           have g1 : (t.pk == 0) = false := by simp [h1]
           have g2 : (c == t.pk) = false := by simp [h2]
           have g3 : decide (c ≤ t.st) = false := decide_eq_false h3
           have g4 : decide (t.en ≤ c) = true := decide_eq_true h4
           clear h1 h2 hf hbd hcd h12; obtain ⟨st, pk, en⟩ := t
           dsimp only at *
           go_enter Tryz.func183, Tryz.ntmps183
           go_wp2_with fail
           rw [← hW]; clear hW
           refine (hfo _).mono ?_
           rintro e u1 ⟨rfl, hb1⟩; replace X1 := X1.below hb1; replace B1 := B1.below hb1
           replace hbW := hbW.trans (hb1.mono hbW.size)
           clear hb1 hfo; obtain ⟨p0, p1, p2, _⟩ := X1.cells
           go_wp2_with fail
           refine (scoord_any c _).mono ?_
           rintro e u2 ⟨rfl, rfl⟩; rw [hcc]; clear hcc
           go_wp2_with fail
           refine (szero_any _).mono ?_
           rintro e u3 ⟨v3, rfl, hF3, hb3⟩; replace B1 := B1.below hb3
           replace hbW := hbW.trans (hb3.mono hbW.size)
           rw [HP.out] at hF3; clear hb3 X1; obtain ⟨n3, xs, ys, ⟨a3, c3, b3, d3, rfl, hx3, hy3⟩, f1, f2, f3, f4⟩ := hF3; obtain ⟨q1, q2, q3, q4, q5, q6⟩ := B1.cells
           have hs := B1.lt
           go_wp2
           refine ret3 (v := .agg #[.bool n3, .slice a3 xs.length c3, .slice b3 ys.length d3]) B1 rfl (fun U hU => by obtain ⟨r1, r2, r3, _⟩ := hU.cells; simp [results, Tryz.results183, go_sem, r1, r2, r3]) (fun U hU hK => ⟨_, rfl, ⟨_, _, _, ⟨_, _, _, _, rfl, hK _ _ _ hx3, hK _ _ _ hy3⟩, f1, f2, f3, f4⟩, hU _ _ hbW (by omega)⟩)
         · have h34 : ¬ (c ≤ t.st ∨ t.en ≤ c) := by omega
           by_cases h5 : c < t.pk
           · have HP : Hid (((c - t.st : Int) : Rat) / ((t.pk - t.st : Int) : Rat) = paQ t c) := paQ_up hf hcc h12 h34 h5
             have g1 : (t.pk == 0) = false := by simp [h1]
             have g2 : (c == t.pk) = false := by simp [h2]
             have g3 : decide (c ≤ t.st) = false := decide_eq_false h3
             have g4 : decide (t.en ≤ c) = false := decide_eq_false h4
             clear hf h12 h34
             have k1 : IntKind.i64.wrap (c - t.st) = c - t.st := wrapi64 (by omega) (by omega)
             have k2 : IntKind.i64.wrap (t.pk - t.st) = t.pk - t.st := wrapi64 (by omega) (by omega)
             have hm := fun U => smake_any (c - t.st) (t.pk - t.st) U (by omega) (by omega) (by omega) (by omega)
             clear h1 h2 hbd hcd; obtain ⟨st, pk, en⟩ := t
             dsimp only at *
             go_enter Tryz.func183, Tryz.ntmps183
             go_wp2_with fail
             rw [← hW]; clear hW
             refine (hfo _).mono ?_
             rintro e u1 ⟨rfl, hb1⟩; replace X1 := X1.below hb1; replace B1 := B1.below hb1
             replace hbW := hbW.trans (hb1.mono hbW.size)
             clear hb1 hfo; obtain ⟨p0, p1, p2, _⟩ := X1.cells
             go_wp2_with fail
             refine (scoord_any c _).mono ?_
             rintro e u2 ⟨rfl, rfl⟩; rw [hcc]; clear hcc
             go_wp2_with fail
             refine (hm _).mono ?_
             rintro e u3 ⟨v3, rfl, hF3, hb3⟩; replace B1 := B1.below hb3
             replace hbW := hbW.trans (hb3.mono hbW.size)
             rw [HP.out] at hF3; clear hb3 X1; obtain ⟨n3, xs, ys, ⟨a3, c3, b3, d3, rfl, hx3, hy3⟩, f1, f2, f3, f4⟩ := hF3; obtain ⟨q1, q2, q3, q4, q5, q6⟩ := B1.cells
             have hs := B1.lt
             go_wp2
             refine ret3 (v := .agg #[.bool n3, .slice a3 xs.length c3, .slice b3 ys.length d3]) B1 rfl (fun U hU => by obtain ⟨r1, r2, r3, _⟩ := hU.cells; simp [results, Tryz.results183, go_sem, r1, r2, r3]) (fun U hU hK => ⟨_, rfl, ⟨_, _, _, ⟨_, _, _, _, rfl, hK _ _ _ hx3, hK _ _ _ hy3⟩, f1, f2, f3, f4⟩, hU _ _ hbW (by omega)⟩)
           · have HP : Hid (((t.en - c : Int) : Rat) / ((t.en - t.pk : Int) : Rat) = paQ t c) := paQ_down hf hcc h12 h34 h5
             have g1 : (t.pk == 0) = false := by simp [h1]
             have g2 : (c == t.pk) = false := by simp [h2]
             have g3 : decide (c ≤ t.st) = false := decide_eq_false h3
             have g4 : decide (t.en ≤ c) = false := decide_eq_false h4
             clear hf h12 h34
             have k1 : IntKind.i64.wrap (t.en - c) = t.en - c := wrapi64 (by omega) (by omega)
             have k2 : IntKind.i64.wrap (t.en - t.pk) = t.en - t.pk := wrapi64 (by omega) (by omega)
             have hm := fun U => smake_any (t.en - c) (t.en - t.pk) U (by omega) (by omega) (by omega) (by omega)
             clear h1 h2 hbd hcd; obtain ⟨st, pk, en⟩ := t
             dsimp only at *
             go_enter Tryz.func183, Tryz.ntmps183
             go_wp2_with fail
             rw [← hW]; clear hW
             refine (hfo _).mono ?_
             rintro e u1 ⟨rfl, hb1⟩; replace X1 := X1.below hb1; replace B1 := B1.below hb1
             replace hbW := hbW.trans (hb1.mono hbW.size)
             clear hb1 hfo; obtain ⟨p0, p1, p2, _⟩ := X1.cells
             go_wp2_with fail
             refine (scoord_any c _).mono ?_
             rintro e u2 ⟨rfl, rfl⟩; rw [hcc]; clear hcc
             go_wp2_with fail
             refine (hm _).mono ?_
             rintro e u3 ⟨v3, rfl, hF3, hb3⟩; replace B1 := B1.below hb3
             replace hbW := hbW.trans (hb3.mono hbW.size)
             rw [HP.out] at hF3; clear hb3 X1; obtain ⟨n3, xs, ys, ⟨a3, c3, b3, d3, rfl, hx3, hy3⟩, f1, f2, f3, f4⟩ := hF3; obtain ⟨q1, q2, q3, q4, q5, q6⟩ := B1.cells
             have hs := B1.lt
             go_wp2
             refine ret3 (v := .agg #[.bool n3, .slice a3 xs.length c3, .slice b3 ys.length d3]) B1 rfl (fun U hU => by obtain ⟨r1, r2, r3, _⟩ := hU.cells; simp [results, Tryz.results183, go_sem, r1, r2, r3]) (fun U hU hK => ⟨_, rfl, ⟨_, _, _, ⟨_, _, _, _, rfl, hK _ _ _ hx3, hK _ _ _ hy3⟩, f1, f2, f3, f4⟩, hU _ _ hbW (by omega)⟩)
end Go.Proofs.YtkmcodofnckdmaaGreat
