/-
  infer.Spread: the walk.
  foundryref12.Few, Points, Ends: the walks.
  outline.markOf: the walk; steps and flags, in the code's words.
-/
import Derived.Test.YthoildjecoppgaaGreatDoorZ27
import Derived.Test.YthoildjecoppgaaGreatDoorZ26
import Derived.Test.YthoildjecoppgaaGreatDoorZ25
import Derived.Test.YthoildjecoppgaaGreatDoorZ18
namespace Go.Proofs.YthoildjecoppgaaGreatDoor
open Go.RowKit Go.Maps
set_option linter.unusedSimpArgs false
set_option linter.unusedVariables false

/-- What Spread answers, and how. -/
def spL (f : Pn → Int) (o : Ol) (pts told dx dy : List Int) : List Rat := if spB o pts dx dy = true then spQ f o pts told else []
def spE (o : Ol) (pts dx dy : List Int) : Int := if spB o pts dx dy = true then 0 else 1
theorem spL_no {f : Pn → Int} {o : Ol} {pts told dx dy : List Int} (h : spB o pts dx dy = false) : spL f o pts told dx dy = [] := by unfold spL; rw [h]; rfl
theorem spE_no {o : Ol} {pts dx dy : List Int} (h : spB o pts dx dy = false) : spE o pts dx dy = 1 := by unfold spE; rw [h]; rfl
theorem spL_yes {f : Pn → Int} {o : Ol} {pts told dx dy : List Int} (h : spB o pts dx dy = true) : spL f o pts told dx dy = spQ f o pts told := if_pos h
theorem spE_yes {o : Ol} {pts dx dy : List Int} (h : spB o pts dx dy = true) : spE o pts dx dy = 0 := if_pos h
theorem spB_1 {o : Ol} {pts dx dy : List Int} (h : foB o = false) : spB o pts dx dy = false := by unfold spB; rw [h]; rfl
theorem spB_2 {o : Ol} {pts dx dy : List Int} (h : risB pts (cntO o) = false) : spB o pts dx dy = false := by unfold spB; rw [h]; simp
theorem spB_3 {o : Ol} {pts dx dy : List Int} (h : ¬ dx.length = pts.length) : spB o pts dx dy = false := by unfold spB; rw [decide_eq_false h]; simp
theorem spB_4 {o : Ol} {pts dx dy : List Int} (h : ¬ dy.length = pts.length) : spB o pts dx dy = false := by unfold spB; rw [decide_eq_false h]; simp
theorem spB_5 {o : Ol} {pts dx dy : List Int} (h : dx.all fdB = false) : spB o pts dx dy = false := by unfold spB; rw [h]; simp
theorem spB_6 {o : Ol} {pts dx dy : List Int} (h : dy.all fdB = false) : spB o pts dx dy = false := by unfold spB; rw [h]; simp

set_option maxHeartbeats 4000000 in
set_option maxRecDepth 100000 in
theorem cspread_any (S : Nat → Prop) (a : Option Addr) (ca : Nat) (b : Option Addr) (cb : Nat) (o : Ol) (pa : Option Addr) (pc : Nat) (pts : List Int) (xa : Option Addr) (xc : Nat) (dx : List Int) (ya : Option Addr) (yc : Nat) (dy : List Int) (w : World) (hc : Gr PnE.row S w a ca o.cs) (hp : Gr PaE S w b cb o.ps) (hP : Ri w pa pc pts) (hX : Ri w xa xc dx) (hY : Ri w ya yc dy) (hl : o.cs.flatten.length ≤ 100000) (hl1 : o.cs.length ≤ 100000) (hl2 : o.ps.length ≤ 100000) :
    Calls Tryz.prog 12 #[.agg #[.slice a o.cs.length ca, .slice b o.ps.length cb], .slice pa pts.length pc, .slice xa dx.length xc, .slice ya dy.length yc] w fun e w' => ∃ a1 c1 a2 c2, e = .returned (.tuple #[.slice a1 (spL Pn.x o pts dx dx dy).length c1, .slice a2 (spL Pn.y o pts dy dx dy).length c2, .int .i64 (spE o pts dx dy)]) ∧ Rf w' a1 c1 7 (spL Pn.x o pts dx dx dy) ∧ Rf w' a2 c2 7 (spL Pn.y o pts dy dx dy) ∧ Below w.heap.size w w' := by
  have b1 := hP.lenB
  have b2 := hX.lenB
  have b3 := hY.lenB
  obtain ⟨W, hW, X1, hbW⟩ : ∃ W, W = w.alloc (.cells #[.slice a o.cs.length ca, .slice b o.ps.length cb] 36) ∧ Bk 36 W w.heap.size [.slice a o.cs.length ca, .slice b o.ps.length cb] ∧ Below w.heap.size w W := ⟨_, rfl, Bk.new _ _ _, bl1 _⟩
  have hcn : cntO o ≤ 200000 := by unfold cntO; omega
  replace hc := hc.below hbW
  replace hp := hp.below hbW
  replace hP := hP.below hbW
  replace hX := hX.below hbW
  replace hY := hY.below hbW
  obtain ⟨p0, p1, _⟩ := X1.two
  have HNO : Hid (spB o pts dx dy = false → ∀ W', Below w.heap.size w W' → ∃ a1 c1 a2 c2, (Ending.returned (.tuple #[.slice none 0 0, .slice none 0 0, .int .i64 1])) = .returned (.tuple #[.slice a1 (spL Pn.x o pts dx dx dy).length c1, .slice a2 (spL Pn.y o pts dy dx dy).length c2, .int .i64 (spE o pts dx dy)]) ∧ Rf W' a1 c1 7 (spL Pn.x o pts dx dx dy) ∧ Rf W' a2 c2 7 (spL Pn.y o pts dy dx dy) ∧ Below w.heap.size w W') := fun h W' hb => by
    rw [spL_no h, spL_no h, spE_no h]
    exact ⟨none, 0, none, 0, rfl, Rf.nil _ _, Rf.nil _ _, hb⟩
  go_enter Tryz.func12, Tryz.ntmps12
  go_upto_region 1 with fail
  rw [← hW]
  clear hW
  go_wp2_with fail
  refine (ccount_any S a ca b cb o _ hc hp hl hl2).mono ?_
  rintro e m1 ⟨rfl, hb1⟩
  replace hc := hc.below hb1
  replace hp := hp.below hb1
  replace hP := hP.below hb1
  replace hX := hX.below hb1
  replace hY := hY.below hb1
  replace X1 := X1.below hb1
  replace hbW := hbW.trans (hb1.mono hbW.size)
  clear hb1 p0 p1
  obtain ⟨p0, p1, _⟩ := X1.two
  have hf1 := cformO_any S a ca b cb o m1 hc hp
  cases hfo : foB o with
  | false =>
    have hno := HNO.out (spB_1 hfo)
    rw [hfo] at hf1
    clear hfo
    go_wp2_with fail
    refine hf1.mono ?_
    rintro e m2 ⟨rfl, hb1⟩
    have hfin := hno m2 (hbW.trans (hb1.mono hbW.size))
    clear hb1 hf1 hno
    go_wp2
    exact bodyPost_ret (v := .tuple #[.slice none 0 0, .slice none 0 0, .int .i64 1]) (by simp [results, Tryz.results12, go_sem]) rfl hfin
  | true =>
  have hFO := foB_iff.1 hfo
  rw [hfo] at hf1
  go_wp2_with fail
  refine hf1.mono ?_
  rintro e m2 ⟨rfl, hb1⟩
  replace hc := hc.below hb1
  replace hp := hp.below hb1
  replace hP := hP.below hb1
  replace hX := hX.below hb1
  replace hY := hY.below hb1
  replace X1 := X1.below hb1
  replace hbW := hbW.trans (hb1.mono hbW.size)
  clear hb1 p0 p1
  obtain ⟨p0, p1, _⟩ := X1.two
  clear hf1
  have hr1 := rising_any pa pc pts (cntO o) m2 hP (by omega)
  cases hri : risB pts (cntO o) with
  | false =>
    have hfin := HNO.out (spB_2 hri) m2 hbW
    rw [hri] at hr1
    clear hri
    go_wp2_with fail
    refine hr1.mono ?_
    rintro e m3 ⟨rfl, rfl⟩
    clear hr1
    go_wp2
    exact bodyPost_ret (v := .tuple #[.slice none 0 0, .slice none 0 0, .int .i64 1]) (by simp [results, Tryz.results12, go_sem]) rfl hfin
  | true =>
  rw [hri] at hr1
  go_wp2_with fail
  refine hr1.mono ?_
  rintro e m3 ⟨rfl, rfl⟩
  clear hr1
  by_cases hx : dx.length = pts.length
  rotate_left
  · have hfin := HNO.out (spB_3 hx) m2 hbW
    have g2 : ((dx.length : Int) != (pts.length : Int)) = true := by simp; omega
    go_wp2
    exact bodyPost_ret (v := .tuple #[.slice none 0 0, .slice none 0 0, .int .i64 1]) (by simp [results, Tryz.results12, go_sem]) rfl hfin
  by_cases hy : dy.length = pts.length
  rotate_left
  · have hfin := HNO.out (spB_4 hy) m2 hbW
    have g2 : ((dy.length : Int) != (pts.length : Int)) = true := by simp; omega
    rw [hx]
    go_wp2
    exact bodyPost_ret (v := .tuple #[.slice none 0 0, .slice none 0 0, .int .i64 1]) (by simp [results, Tryz.results12, go_sem]) rfl hfin
  have hq1 := ifields_any xa xc dx m2 hX
  have hq2 := ifields_any ya yc dy m2 hY
  cases hfx : dx.all fdB with
  | false =>
    have hfin := HNO.out (spB_5 hfx) m2 hbW
    rw [hfx] at hq1
    rw [hx] at hq1 ⊢
    rw [hy]
    clear hfx
    go_wp2_with fail
    refine hq1.mono ?_
    rintro e m3 ⟨rfl, rfl⟩
    go_wp2
    exact bodyPost_ret (v := .tuple #[.slice none 0 0, .slice none 0 0, .int .i64 1]) (by simp [results, Tryz.results12, go_sem]) rfl hfin
  | true =>
  cases hfy : dy.all fdB with
  | false =>
    have hfin := HNO.out (spB_6 hfy) m2 hbW
    rw [hfx] at hq1
    rw [hfy] at hq2
    rw [hx] at hq1 ⊢
    rw [hy] at hq2 ⊢
    clear hfx hfy
    go_wp2_with fail
    refine hq1.mono ?_
    rintro e m3 ⟨rfl, rfl⟩
    go_wp2_with fail
    refine hq2.mono ?_
    rintro e m3 ⟨rfl, rfl⟩
    go_wp2
    exact bodyPost_ret (v := .tuple #[.slice none 0 0, .slice none 0 0, .int .i64 1]) (by simp [results, Tryz.results12, go_sem]) rfl hfin
  | true =>
  have hsp : spB o pts dx dy = true := by unfold spB; rw [hfo, hri, decide_eq_true hx, decide_eq_true hy, hfx, hfy]; rfl
  rw [hfx] at hq1
  rw [hfy] at hq2
  have HE1 : Hid (spL Pn.x o pts dx dx dy = spQ Pn.x o pts dx) := spL_yes hsp
  have HE2 : Hid (spL Pn.y o pts dy dx dy = spQ Pn.y o pts dy) := spL_yes hsp
  have HE3 : Hid (spE o pts dx dy = 0) := spE_yes hsp
  have hcs : cntO o ≤ 86 := by have h1 := hFO.2.2.1; have h2 := hFO.2.2.2.2.1; unfold cntO; omega
  have hla := fun U (h1 : Ri U pa pc pts) (h2 : Ri U xa xc dx) => laidOut_any pa pc pts xa xc dx (cntO o) U h1 h2 hx hri (by omega)
  have hlb := fun U (h1 : Ri U pa pc pts) (h2 : Ri U ya yc dy) => laidOut_any pa pc pts ya yc dy (cntO o) U h1 h2 hy hri (by omega)
  have HRI : Hid (∀ k, k < pts.length → risP pts (cntO o) k) := risB_iff.1 hri
  simp only [layI_len] at hla hlb
  rw [hx] at hq1 hla ⊢
  rw [hy] at hq2 hlb ⊢
  clear hfx hfy hfo hri hsp HNO
  go_wp2_with fail
  refine hq1.mono ?_
  rintro e m3 ⟨rfl, rfl⟩
  go_wp2_with fail
  refine hq2.mono ?_
  rintro e m3 ⟨rfl, rfl⟩
  clear hq1 hq2
  go_wp2_with fail
  refine (hla _ hP hX).mono ?_
  rintro e m3 ⟨qa, qc, rfl, hR1, hb1⟩
  replace hc := hc.below hb1
  replace hp := hp.below hb1
  replace hP := hP.below hb1
  replace hX := hX.below hb1
  replace hY := hY.below hb1
  replace X1 := X1.below hb1
  replace hbW := hbW.trans (hb1.mono hbW.size)
  clear hb1 p0 p1
  obtain ⟨p0, p1, _⟩ := X1.two
  clear hla
  go_wp2_with fail
  refine (hlb _ hP hY).mono ?_
  rintro e m4 ⟨ra, rc, rfl, hR2, hb1⟩
  replace hc := hc.below hb1
  replace hp := hp.below hb1
  replace hP := hP.below hb1
  replace hX := hX.below hb1
  replace hY := hY.below hb1
  replace X1 := X1.below hb1
  replace hR1 := hR1.below hb1
  replace hbW := hbW.trans (hb1.mono hbW.size)
  clear hb1 p0 p1
  obtain ⟨p0, p1, _⟩ := X1.two
  clear hlb
  by_cases hps : 0 < o.ps.length
  · have gp : (o.ps.length : Int) > 0 := by omega
    have HQ1 : Hid (spQ Pn.x o pts dx = (layI pts dx (cntO o) pts.length).map (fun z : Int => (z : Rat))) := spQ_parts hps
    have HQ2 : Hid (spQ Pn.y o pts dy = (layI pts dy (cntO o) pts.length).map (fun z : Int => (z : Rat))) := spQ_parts hps
    have hw1 := fun U (h : Ri U qa qc (layI pts dx (cntO o) pts.length)) => wholes_any qa qc _ U h (by rw [layI_len]; omega)
    have hw2 := fun U (h : Ri U ra rc (layI pts dy (cntO o) pts.length)) => wholes_any ra rc _ U h (by rw [layI_len]; omega)
    rw [← HQ1.out, ← HE1.out, layI_len] at hw1
    rw [← HQ2.out, ← HE2.out, layI_len] at hw2
    go_wp2_with fail
    refine (hw1 _ hR1).mono ?_
    rintro e m5 ⟨s1, t1, rfl, hZ1, hb1⟩
    replace hR2 := hR2.below hb1
    replace hbW := hbW.trans (hb1.mono hbW.size)
    clear hb1 hw1
    go_wp2_with fail
    refine (hw2 _ hR2).mono ?_
    rintro e m6 ⟨s2, t2, rfl, hZ2, hb1⟩
    replace hZ1 := hZ1.below hb1
    replace hbW := hbW.trans (hb1.mono hbW.size)
    clear hb1 hw2
    go_wp2
    exact bodyPost_ret (v := .tuple #[.slice s1 (spL Pn.x o pts dx dx dy).length t1, .slice s2 (spL Pn.y o pts dy dx dy).length t2, .int .i64 0]) (by simp [results, Tryz.results12, go_sem]) rfl ⟨s1, t1, s2, t2, by rw [HE3.out], hZ1, hZ2, hbW⟩
  · have gp : ¬ (o.ps.length : Int) > 0 := by omega
    have hco : cntO o = o.cs.flatten.length := by unfold cntO; omega
    have HQ1 : Hid (spQ Pn.x o pts dx = conQ Pn.x o.cs (layI pts dx (cntO o) pts.length) (tchI pts (cntO o) pts.length) o.cs.length) := spQ_cons hps
    have HQ2 : Hid (spQ Pn.y o pts dy = conQ Pn.y o.cs (layI pts dy (cntO o) pts.length) (tchI pts (cntO o) pts.length) o.cs.length) := spQ_cons hps
    obtain ⟨n, hnn⟩ : ∃ n, cntO o = n := ⟨_, rfl⟩
    rw [hnn] at HQ1 HQ2 HRI hR1 hR2 hco hcs hcn ⊢
    have HX1 : Hid (Bk 36 m4 w.heap.size [.slice a o.cs.length ca, .slice b o.ps.length cb]) := X1
    have HP : Hid (Ri m4 pa pc pts) := hP
    have HC : Hid (Gr PnE.row S m4 a ca o.cs) := hc
    have HR1 : Hid (Ri m4 qa qc (layI pts dx n pts.length)) := hR1
    have HR2 : Hid (Ri m4 ra rc (layI pts dy n pts.length)) := hR2
    have HBW : Hid (Below w.heap.size w m4) := hbW
    have HFO : Hid ((∀ c ∈ o.cs, 0 < c.length) ∧ o.cs.flatten.length ≤ 80) := ⟨hFO.2.2.2.1, hFO.2.2.2.2.1⟩
    have HCO : Hid (n = o.cs.flatten.length) := hco
    clear hnn hco hP hc hR1 hR2 hbW hX hY hp hFO hx hy
    obtain ⟨i0, hi0, hz0, hz1, hz2⟩ := info_parts infoA_bool
    have hmk := run_make (P := Tryz.prog) m4 23 4 i0 (.bool false) Tryz.underlying23 hi0 hz0 .i64 .i64 (n : Int) (n : Int) (by omega) (by omega) (by rw [hz2]; omega) (by omega)
    rw [hz1] at hmk
    simp only [Int.toNat_natCast, Nat.mul_one] at hmk
    have hI0 : Gw El.bool 4 m4.heap.size (fun _ => False) (m4.alloc (.cells (madeCells #[.bool false] n) 4)) (.slice (some ⟨m4.heap.size, 0, none⟩) n n) (tchI pts n 0) := Gw.mk1 m4 n false (.bool false) rfl rfl (fun S w => rfl) (by omega)
    have hB0 : Below m4.heap.size m4 (m4.alloc (.cells (madeCells #[.bool false] n) 4)) := bl1 _
    replace hmk : (Instr.makeSlice 23 (.int .i64 (n : Int)) (.int .i64 (n : Int))).run Tryz.prog m4 = .ok (.slice (some ⟨m4.heap.size, 0, none⟩) n n) (m4.alloc (.cells (madeCells #[.bool false] n) 4)) := hmk
    generalize m4.alloc (.cells (madeCells #[.bool false] n) 4) = w1 at *
    clear hi0 hz0 hz1 hz2 X1
    go_wp2
    clear p0 p1
    go_loopw [73] (fun i wr => ∃ k : Nat, k ≤ pts.length ∧ i = .int .i64 k ∧ Gw El.bool 4 m4.heap.size (fun _ => False) wr (.slice (some ⟨m4.heap.size, 0, none⟩) n n) (tchI pts n k) ∧ Below m4.heap.size m4 wr) (fun i _ => pts.length - (intOf i).toNat)
    case atStart => exact ⟨0, Nat.zero_le _, rfl, hI0, hB0⟩
    case round =>
      clear hI0 hB0 hmk
      obtain ⟨k, hk, rfl, hG, hB⟩ := hrel
      by_cases hkn : k < pts.length
      · obtain ⟨b0, off, ea, hb, d0⟩ := HP.out.at hB k hkn
        subst ea
        have hpn := risP_nonneg k (fun j hj => HRI.out j (by omega))
        have HS : Hid (tchI pts n (k + 1) = (tchI pts n k).set (pts.getD k 0).toNat true) := rfl
        obtain ⟨p, hpp⟩ : ∃ p : Nat, pts.getD k 0 = (p : Int) := ⟨(pts.getD k 0).toNat, by omega⟩
        rw [hpp] at d0 hpn HS
        rw [Int.toNat_natCast] at HS
        have hne : tchI pts n k ≠ [] := fun e => by have := tchI_len pts n k; rw [e] at this; simp at this; omega
        obtain ⟨g, cap, e5, h5, h6, h7, hfz, hrd, hset⟩ := hG.own hne
        injection e5 with e5 e6 e7
        injection e5 with e5
        injection e5 with e5
        subst e5
        have hfp := hfz p
        have hsw := hset p 0 (.bool true) true (by rw [tchI_len]; omega) Nat.one_pos (fun S' vs hv => by rw [show vs = _ from hv]; rfl)
        rw [show p * El.bool.sz + 0 = p from Nat.mul_one p, ← HS.out] at hsw
        obtain ⟨vs, hrx, hcx⟩ := hrd p (by rw [tchI_len]; omega)
        have hc0 := hcx 0 Nat.one_pos
        rw [show vs = _ from hrx, show p * El.bool.sz + 0 = p from Nat.mul_one p] at hc0
        have hBs : Below m4.heap.size m4 (wr.setCell ⟨m4.heap.size, p, none⟩ (.bool true)) := hB.setCell (p := ⟨m4.heap.size, p, none⟩) (Nat.le_refl _) _
        have i1 : (0 : Int) ≤ (k : Int) := by omega
        have i2 : (k : Int) < (pts.length : Int) := by omega
        have i3 : (0 : Int) ≤ (p : Int) := by omega
        have i4 : (p : Int) < (n : Int) := by omega
        have HSW : Hid (Gw El.bool 4 m4.heap.size (fun _ => False) (wr.setCell ⟨m4.heap.size, p, none⟩ (.bool true)) (.slice (some ⟨m4.heap.size, 0, none⟩) n n) (tchI pts n (k + 1))) := hsw
        have HBS : Hid (Below m4.heap.size m4 (wr.setCell ⟨m4.heap.size, p, none⟩ (.bool true))) := hBs
        clear hset hfz hrd hsw hBs hpp hcx hrx hG hne e6 e7 h7
        go_wp2
        go_roundw
        case rel => exact ⟨k + 1, by omega, by go_num, HSW.out, HBS.out⟩
        case measure => simp [intOf]; omega
      · obtain rfl : k = pts.length := by omega
        have g1 : ¬ (pts.length : Int) < (pts.length : Int) := by omega
        obtain ⟨a9, c9, e9, hg9, -⟩ := hG.slice
        have HLL : Hid ((tchI pts n pts.length).length = n) := tchI_len _ _ _
        rw [HLL.out] at e9
        injection e9 with e1 e2 e3
        subst e1 e3
        have hTT : Rl wr (some ⟨m4.heap.size, 0, none⟩) n (tchI pts n pts.length) := Rl.of hg9
        have hX1 := HX1.out.below hB
        obtain ⟨p0, p1, _⟩ := hX1.two
        have hno := numbersOf_any S a ca (.slice b o.ps.length cb) o.cs wr (HC.out.below hB) (by omega) rfl
        rw [← HCO.out] at hno
        clear hg9 hG
        go_wp2_with fail
        refine hno.mono ?_
        rintro e m5 ⟨na, nc, ya', yc', rfl, hN1, hN2, hb1⟩
        replace hTT := hTT.below hb1
        replace hX1 := hX1.below hb1
        replace hB := hB.trans (hb1.mono hB.size)
        clear hb1 hno p0 p1
        obtain ⟨p0, p1, _⟩ := hX1.two
        have hen := cends_any S a ca (.slice b o.ps.length cb) o.cs m5 (HC.out.below hB) (by omega) hl1 rfl
        rw [endF_len] at hen
        go_wp2_with fail
        refine hen.mono ?_
        rintro e m6 ⟨ea, ec, rfl, hE, -, hb1⟩
        replace hTT := hTT.below hb1
        replace hN1 := hN1.below hb1
        replace hN2 := hN2.below hb1
        replace hB := hB.trans (hb1.mono hB.size)
        clear hb1 hen p0 p1 hX1
        have hby1 := byContours_any Pn.x o.cs ea ec na nc (some ⟨m4.heap.size, 0, none⟩) n (tchI pts n pts.length) qa qc (layI pts dx n pts.length) m6 hE hN1 hTT (HR1.out.below hB) HFO.out.1 HFO.out.2 (by rw [tchI_len]; exact HCO.out) (by rw [layI_len]; exact HCO.out)
        have hby2 := fun U (hb : Below m6.heap.size m6 U) => byContours_any Pn.y o.cs ea ec ya' yc' (some ⟨m4.heap.size, 0, none⟩) n (tchI pts n pts.length) ra rc (layI pts dy n pts.length) U (hE.below hb) (hN2.below hb) (hTT.below hb) ((HR2.out.below hB).below hb) HFO.out.1 HFO.out.2 (by rw [tchI_len]; exact HCO.out) (by rw [layI_len]; exact HCO.out)
        rw [← HQ1.out, ← HE1.out, ← HCO.out] at hby1
        rw [← HQ2.out, ← HE2.out, ← HCO.out] at hby2
        have hBF := HBW.out.trans (hB.mono HBW.out.size)
        clear hE hN1 hN2 hTT
        go_wp2_with fail
        refine hby1.mono ?_
        rintro e m7 ⟨s1, t1, rfl, hZ1, hb1⟩
        clear hby1
        go_wp2_with fail
        refine (hby2 _ hb1).mono ?_
        rintro e m8 ⟨s2, t2, rfl, hZ2, hb2⟩
        replace hZ1 := hZ1.below hb2
        have hBG := (hBF.trans (hb1.mono hBF.size)).trans (hb2.mono (Nat.le_trans hBF.size hb1.size))
        clear hby2 hb1 hb2
        go_wp2
        exact bodyPost_ret (v := .tuple #[.slice s1 (spL Pn.x o pts dx dx dy).length t1, .slice s2 (spL Pn.y o pts dy dx dy).length t2, .int .i64 0]) (by simp [results, Tryz.results12, go_sem]) rfl ⟨s1, t1, s2, t2, by rw [HE3.out], hZ1, hZ2, hBG⟩

end Go.Proofs.YthoildjecoppgaaGreatDoor

namespace Go.Proofs.YthoildjecoppgaaGreatDoor
open Go.RowKit Go.Maps
set_option linter.unusedSimpArgs false
set_option linter.unusedVariables false

/-- How many numbers are counted. -/
def totO (cs : List (List Pn)) : Nat := cs.length + cs.flatten.length
def fewB (o : Ol) : Bool := decide (totO o.cs ≤ 1000) && decide (o.ps.length ≤ 100)
theorem totO_take {cs : List (List Pn)} {k : Nat} (hk : k < cs.length) : totO (cs.take (k + 1)) = totO (cs.take k) + (1 + (cs.getD k []).length) := by
  unfold totO
  rw [flat_take_succ hk, List.length_take, List.length_take]
  omega
theorem totO_le (cs : List (List Pn)) (k : Nat) : totO (cs.take k) ≤ totO cs := by
  unfold totO
  have := flat_take_le cs k
  rw [List.length_take]
  omega
theorem fewB_of {o : Ol} (h : fewB o = true) : o.cs.length ≤ 1000 ∧ o.cs.flatten.length ≤ 1000 ∧ o.ps.length ≤ 100 := by
  unfold fewB totO at h
  rw [Bool.and_eq_true, decide_eq_true_iff, decide_eq_true_iff] at h
  omega

set_option maxHeartbeats 2000000 in
set_option maxRecDepth 100000 in
theorem sfewO_any (S : Nat → Prop) (a : Option Addr) (ca : Nat) (b : Option Addr) (cb : Nat) (o : Ol) (w : World) (hc : Gr PnE.row S w a ca o.cs) (hp : Gr PaE S w b cb o.ps) :
    Calls Tryz.prog 11 #[.agg #[.slice a o.cs.length ca, .slice b o.ps.length cb]] w fun e w' => e = .returned (.bool (fewB o)) ∧ Below w.heap.size w w' := by
  have k1 := hc.lenB
  have k2 := hp.lenB
  obtain ⟨W, hW, X1, hbW⟩ : ∃ W, W = w.alloc (.cells #[.slice a o.cs.length ca, .slice b o.ps.length cb] 36) ∧ Bk 36 W w.heap.size [.slice a o.cs.length ca, .slice b o.ps.length cb] ∧ Below w.heap.size w W := ⟨_, rfl, Bk.new _ _ _, bl1 _⟩
  obtain ⟨x0, x1, _⟩ := X1.two
  have HC : Hid (Gr PnE.row S W a ca o.cs) := hc.below hbW
  have HF : Hid (fewB o = (decide (totO o.cs ≤ 1000) && decide (o.ps.length ≤ 100))) := rfl
  clear hc hp X1
  generalize fewB o = fb at *
  go_enter Tryz.func11, Tryz.ntmps11
  go_wp2
  rw [← hW]
  clear hW
  go_loopw [3, 4] (fun nv i wr => ∃ k n : Nat, k ≤ o.cs.length ∧ i = .int .i64 k ∧ nv = .int .i64 (n : Int) ∧ n = totO (o.cs.take k) ∧ n ≤ 140737488361232 ∧ W = wr) (fun _ i _ => o.cs.length - (intOf i).toNat)
  case atStart => exact ⟨0, 0, Nat.zero_le _, rfl, rfl, rfl, by omega, rfl⟩
  case round =>
    obtain ⟨k, n, hk, rfl, rfl, hn, hnb, rfl⟩ := hrel
    have HN : Hid (n = totO (o.cs.take k)) := hn
    clear hn
    by_cases hgo : k < o.cs.length ∧ n ≤ 1000
    · obtain ⟨hkn, hn1⟩ := hgo
      obtain ⟨b1, off, a1, c1, ea, hb, d0, hrow, hlb, _⟩ := HC.out.rw (Below.refl _ _) k hkn
      subst ea
      have hst := totO_take hkn
      rw [← HN.out] at hst
      obtain ⟨c, hcc⟩ : ∃ c, o.cs.getD k [] = c := ⟨_, rfl⟩
      rw [hcc] at d0 hst hlb
      have HN2 : Hid (n + (1 + c.length) = totO (o.cs.take (k + 1))) := hst.symm
      have g1 : decide (k < o.cs.length) = true := decide_eq_true hkn
      have g2 : decide ((n : Int) ≤ 1000) = true := decide_eq_true (by omega)
      have i1 : (0 : Int) ≤ (k : Int) := by omega
      have i2 : (k : Int) < (o.cs.length : Int) := by omega
      clear hst hcc hrow HN
      go_wp2
      go_roundw
      case rel => exact ⟨k + 1, n + (1 + c.length), by omega, by go_num, by go_num, HN2.out, by omega, trivial⟩
      case measure => simp [intOf]; omega
    · have hle := totO_le o.cs k
      have HFF : Hid (fb = (decide ((n : Int) ≤ 1000) && decide ((o.ps.length : Int) ≤ 100))) := by
        show _ = _
        rw [HF.out]
        have h1 : decide (totO o.cs ≤ 1000) = decide ((n : Int) ≤ 1000) := by
          rw [decide_eq_decide]
          by_cases hkk : k < o.cs.length
          · rw [← HN.out] at hle
            omega
          · have : o.cs.take k = o.cs := List.take_of_length_le (by omega)
            have h2 := HN.out
            rw [this] at h2
            omega
        have h2 : decide (o.ps.length ≤ 100) = decide ((o.ps.length : Int) ≤ 100) := by
          rw [decide_eq_decide]
          omega
        rw [h1, h2]
      clear HN hle
      by_cases hkn : k < o.cs.length
      · have g1 : decide (k < o.cs.length) = true := decide_eq_true hkn
        have g2 : decide ((n : Int) ≤ 1000) = false := decide_eq_false (by omega)
        rw [g2, Bool.false_and] at HFF
        go_wp2
        go_ret
        exact ⟨rt_bool HFF.out.symm, hbW⟩
      · have g1 : decide (k < o.cs.length) = false := decide_eq_false hkn
        by_cases hn1 : n ≤ 1000
        · have g2 : decide ((n : Int) ≤ 1000) = true := decide_eq_true (by omega)
          rw [g2, Bool.true_and] at HFF
          go_wp2
          go_ret
          exact ⟨rt_bool HFF.out.symm, hbW⟩
        · have g2 : decide ((n : Int) ≤ 1000) = false := decide_eq_false (by omega)
          rw [g2, Bool.false_and] at HFF
          go_wp2
          go_ret
          exact ⟨rt_bool HFF.out.symm, hbW⟩

set_option maxHeartbeats 2000000 in
set_option maxRecDepth 100000 in
theorem spointsO_any (S : Nat → Prop) (a : Option Addr) (ca : Nat) (vb : Value) (cs : List (List Pn)) (w : World) (h : Gr PnE.row S w a ca cs) (hl : cs.flatten.length ≤ 100000) (hv : vb.cells = #[vb]) :
    Calls Tryz.prog 33 #[.agg #[.slice a cs.length ca, vb]] w fun e w' => ∃ a' c', e = .returned (.slice a' cs.flatten.length c') ∧ Gr PnE (fun _ => True) w' a' c' cs.flatten ∧ (∀ b o, a' = some ⟨b, o, none⟩ → w.heap.size ≤ b ∧ b < w'.heap.size) ∧ Below w.heap.size w w' := by
  have k2 := h.lenB
  obtain ⟨W, hW, X1, hbW⟩ : ∃ W, W = w.alloc (.cells #[.slice a cs.length ca, vb] 36) ∧ Bk 36 W w.heap.size [.slice a cs.length ca, vb] ∧ Below w.heap.size w W := ⟨_, rfl, Bk.new _ _ _, bl1 _⟩
  have HH : Hid (Gr PnE.row S w a ca cs) := h
  have HX : Hid (Bk 36 W w.heap.size [.slice a cs.length ca, vb]) := X1
  have HB0 : Hid (Below w.heap.size w W) := hbW
  have HGL : Hid (w.heap.size < W.heap.size) := X1.lt
  clear h X1 hbW
  go_enter Tryz.func33, Tryz.ntmps33
  go_wp2
  rw [← hW]
  clear hW
  go_loopw [3, 4] (fun v i wr => ∃ k : Nat, k ≤ cs.length ∧ i = .int .i64 k ∧ Gw PnE 72 W.heap.size (fun _ => True) wr v ((cs.take k).flatten) ∧ Below W.heap.size W wr) (fun _ i _ => cs.length - (intOf i).toNat)
  case atStart => exact ⟨0, Nat.zero_le _, rfl, Gw.nil _ _ _ _ _, Below.refl _ _⟩
  case round =>
    obtain ⟨k, hk, rfl, hT, hB⟩ := hrel
    obtain ⟨a2, c2, rfl, hgr, hblk⟩ := hT.slice
    have HT : Hid (Gw PnE 72 W.heap.size (fun _ => True) wr (.slice a2 ((cs.take k).flatten).length c2) ((cs.take k).flatten)) := hT
    obtain ⟨x0, x1, _⟩ := (HX.out.below hB).two
    have hBw : Below w.heap.size w wr := HB0.out.trans (hB.mono HB0.out.size)
    clear hT
    by_cases hkn : k < cs.length
    · obtain ⟨b, off, a1, c1, ea, hb, d0, hrow, hlb, _⟩ := HH.out.rw hBw k hkn
      subst ea
      have hst := flat_take_succ hkn
      have hle := flat_take_le cs (k + 1)
      obtain ⟨c, hc⟩ : ∃ c, cs.getD k [] = c := ⟨_, rfl⟩
      have HS : Hid (_) := flat_take_snoc hkn hc
      rw [hc] at d0 hst hlb hrow
      have hll : ((cs.take k).flatten).length + c.length ≤ 1000000 := by omega
      have i1 : (0 : Int) ≤ (k : Int) := by omega
      have i2 : (k : Int) < (cs.length : Int) := by omega
      have hbs : W.heap.size ≤ wr.heap.size := hB.size
      clear hc hst hle hlb hgr hblk
      generalize (cs.take k).flatten = L at *
      go_wp2_with (at_builtin; refine wpList_append_el 63 72 Tryz.underlying63 info_pn rfl (by decide) (by decide) rfl _ _ rfl W.heap.size (fun _ => True) _ L rfl HT.out a1 c1 _ c rfl rfl hrow.anyP hll hbs ?_)
      intro v9 w9 hT9 hgrow _
      have hB9 : Below W.heap.size W w9 := hB.grown hgrow hbs (fun k hk => (HT.out.lo hk).1)
      rw [← HS.out] at hT9
      clear hgrow hbs hll HS
      go_wp2
      go_roundw
      case rel => exact ⟨k + 1, by omega, by go_num, hT9, hB9⟩
      case measure => simp [intOf]; omega
    · obtain rfl : k = cs.length := by omega
      rw [List.take_length] at HT hgr ⊢
      have HB2 : Hid (∀ b o, a2 = some ⟨b, o, none⟩ → w.heap.size ≤ b ∧ b < wr.heap.size) := fun b o e => ⟨Nat.le_trans (Nat.le_of_lt HGL.out) (hblk b o e).1, (hblk b o e).2⟩
      have g4 : ¬ (cs.length : Int) < (cs.length : Int) := by omega
      clear hblk
      go_wp2
      go_ret
      exact ⟨a2, c2, rfl, hgr, HB2.out, hBw⟩

end Go.Proofs.YthoildjecoppgaaGreatDoor

namespace Go.Proofs.YthoildjecoppgaaGreatDoor
open Go.RowKit Go.Maps
set_option linter.unusedSimpArgs false
set_option linter.unusedVariables false

def axI (d sh sm : Int) : Int := if d = 0 then sm else if 0 < d ∧ d < 256 then sh + sm else if d < 0 ∧ -256 < d then sh else 0
theorem axI_x (d : Int) : axI d 2 16 = (axF d 2 16 : Int) := by unfold axI axF; split <;> (try split) <;> (try split) <;> rfl
theorem axI_y (d : Int) : axI d 4 32 = (axF d 4 32 : Int) := by unfold axI axF; split <;> (try split) <;> (try split) <;> rfl
theorem axI_cases (d sh sm : Int) : axI d sh sm = sm ∨ axI d sh sm = sh + sm ∨ axI d sh sm = sh ∨ axI d sh sm = 0 := by
  unfold axI; split <;> (try split) <;> (try split) <;> simp
theorem or_xy (d e : Int) : bits BinOp.or IntKind.i64 (axI d 2 16) (axI e 4 32) = axI d 2 16 + axI e 4 32 ∧ bits BinOp.or IntKind.i64 (axI d 2 16 + axI e 4 32) 1 = axI d 2 16 + axI e 4 32 + 1 ∧ 0 ≤ axI d 2 16 + axI e 4 32 ∧ axI d 2 16 + axI e 4 32 ≤ 62 := by
  rcases axI_cases d 2 16 with h | h | h | h <;> rcases axI_cases e 4 32 with k | k | k | k <;> rw [h, k] <;> decide
theorem or_x : bits BinOp.or IntKind.i64 2 16 = 2 + 16 := by decide
theorem or_y : bits BinOp.or IntKind.i64 4 32 = 4 + 32 := by decide

/-- The steps. -/
def stX (l : List Pn) : List Int := (difs 0 0 l).map (fun t => t.1)
def stY (l : List Pn) : List Int := (difs 0 0 l).map (fun t => t.2.1)
def ahP (l : List Pn) (k : Nat) : Pn := if k = 0 then Pn.none else l.getD (k - 1) Pn.none
theorem stX_len (l : List Pn) : (stX l).length = l.length := by unfold stX; rw [List.length_map, difs_len]
theorem stY_len (l : List Pn) : (stY l).length = l.length := by unfold stY; rw [List.length_map, difs_len]
theorem map_getD {α β : Type} (f : α → β) (l : List α) (k : Nat) (d : α) (e : β) (hk : k < l.length) : (l.map f).getD k e = f (l.getD k d) := by simp [List.getD, hk]
theorem stX_get {l : List Pn} {k : Nat} (hk : k < l.length) : (stX l).getD k 0 = (l.getD k Pn.none).x - (ahP l k).x := by
  unfold stX ahP
  rw [map_getD _ _ _ (0, 0, false) _ (by rw [difs_len]; exact hk), difs_get l 0 0 k hk]
  by_cases h0 : k = 0
  · simp [h0, Pn.none]
  · simp [h0]
theorem stY_get {l : List Pn} {k : Nat} (hk : k < l.length) : (stY l).getD k 0 = (l.getD k Pn.none).y - (ahP l k).y := by
  unfold stY ahP
  rw [map_getD _ _ _ (0, 0, false) _ (by rw [difs_len]; exact hk), difs_get l 0 0 k hk]
  by_cases h0 : k = 0
  · simp [h0, Pn.none]
  · simp [h0]
theorem flL_get {l : List Pn} {k : Nat} (hk : k < l.length) : (flL l).getD k 0 = axI ((stX l).getD k 0) 2 16 + axI ((stY l).getD k 0) 4 32 + (if (l.getD k Pn.none).on then 1 else 0) := by
  have hd : k < (difs 0 0 l).length := by rw [difs_len]; exact hk
  unfold flL stX stY
  rw [map_getD _ _ _ (0, 0, false) _ hd, map_getD _ _ _ (0, 0, false) _ hd, map_getD _ _ _ (0, 0, false) _ hd, axI_x, axI_y]
  have := difs_get l 0 0 k hk
  have h2 : ((difs 0 0 l).getD k (0, 0, false)).2.2 = (l.getD k Pn.none).on := by rw [this]
  unfold flg
  rw [h2]
  cases (l.getD k Pn.none).on <;> simp
def PnF (p : Pn) : Prop := (-32768 ≤ p.x ∧ p.x ≤ 32767) ∧ (-32768 ≤ p.y ∧ p.y ≤ 32767)
theorem ahP_F {l : List Pn} (h : ∀ k, k < l.length → PnF (l.getD k Pn.none)) {k : Nat} (hk : k ≤ l.length) : PnF (ahP l k) := by
  unfold ahP
  split
  · exact ⟨by decide, by decide⟩
  · exact h _ (by omega)
theorem ahP_succ (l : List Pn) (k : Nat) : ahP l (k + 1) = l.getD k Pn.none := by unfold ahP; rw [if_neg (by omega), Nat.add_sub_cancel]

end Go.Proofs.YthoildjecoppgaaGreatDoor
